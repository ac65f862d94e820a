import PyProof.Rows.All
import Wide.All
import OpenK.AllK
import Wide.FinOn
import Lean
import PyProof.EqAt
import PyProof.EqKinds
import PyProof.TupleCall
import PySem.Challenge.RW_widelines_k06_pieces_and_lengths
set_option Elab.async false
set_option linter.all false
set_option maxRecDepth 100000
set_option bootstrap.genMatcherCode false
set_option genSizeOf false
namespace L2
open PySem PySem.Spec PyProof.Rows

noncomputable abbrev Key := Sum Int Str
noncomputable def Z8 : Key → Value → Bool
 | .inl k, v => Value.isInt k v
 | .inr x, v => Value.isStrOf x v
noncomputable def b2P (w : World) : Key → Int
 | .inl k => hashInt k
 | .inr x => hashStr w x
theorem O6 : ∀ {k : Key} {v : Value}, Z8 k v = true → (∃ i t, k = Sum.inl i ∧ v = Value.int i t) ∨ (∃ x t, k = Sum.inr x ∧ v = Value.str x t)
 | .inl i, v, h => by
  obtain ⟨t, e⟩ := Value.isInt_shape (k := i) (v := v) h
  exact .inl ⟨i, t, rfl, e⟩
 | .inr x, v, h => by
  obtain ⟨t, e⟩ := Value.isStrOf_shape (x := x) (v := v) h
  exact .inr ⟨x, t, rfl, e⟩
theorem b4a (i : Int) (t : Tok) : Z8 (.inl i) (.int i t) = true := by simp [Z8, Value.isInt]
theorem b2a (x : Str) (t : Tok) : Z8 (.inr x) (.str x t) = true := by simp [Z8, Value.isStrOf]
theorem a9G (a b : Int) : decide ((Sum.inl a : Key) = Sum.inl b) = (a == b) := by
 by_cases e : a = b
 ·subst e; simp
 ·have h : ¬ (Sum.inl a : Key) = Sum.inl b := fun q => e (Sum.inl.inj q)
  rw [decide_eq_false h]
  exact (beq_eq_false_iff_ne.mpr e).symm
theorem b0o (a b : Str) : decide ((Sum.inr a : Key) = Sum.inr b) = decide (a = b) := by
 by_cases e : a = b
 ·subst e; simp
 ·have h : ¬ (Sum.inr a : Key) = Sum.inr b := fun q => e (Sum.inr.inj q)
  rw [decide_eq_false h, decide_eq_false e]
theorem b2j (a : Int) (b : Str) : decide ((Sum.inl a : Key) = Sum.inr b) = false := decide_eq_false (fun q => nomatch q)
theorem b0G (a : Str) (b : Int) : decide ((Sum.inr a : Key) = Sum.inl b) = false := decide_eq_false (fun q => nomatch q)

noncomputable def D9 (prog : Program) (w : World) : PySem.KeyKind prog w Key where
 is := Z8
 hash := b2P w
 inj := fun v a b ha hb => by
  rcases O6 ha with ⟨i, t, rfl, rfl⟩ | ⟨x, t, rfl, rfl⟩
  ·rcases O6 hb with ⟨j, u, rfl, e⟩ | ⟨y, u, rfl, e⟩
   ·injection e with e1 _; rw [e1]
   ·exact nomatch e
  ·rcases O6 hb with ⟨j, u, rfl, e⟩ | ⟨y, u, rfl, e⟩
   ·exact nomatch e
   ·injection e with e1 _; rw [e1]
 byValue := fun k v h => by
  rcases O6 h with ⟨i, t, rfl, rfl⟩ | ⟨x, t, rfl, rfl⟩ <;> rfl
 pyHash := fun hv h => by
  rcases O6 hv with ⟨i, t, rfl, rfl⟩ | ⟨x, t, rfl, rfl⟩
  ·exact wpAny_pyHash_int h
  ·exact wpAny_pyHash_str h
 eqBool := fun hu hv h => by
  rcases O6 hu with ⟨i, t, rfl, rfl⟩ | ⟨x, t, rfl, rfl⟩
  ·rcases O6 hv with ⟨j, u, rfl, rfl⟩ | ⟨y, u, rfl, rfl⟩
   ·rw [a9G] at h; exact wpAny_eqBool_int h
   ·rw [b2j] at h; exact SeqAt.EqAt.int_str i t y u _ _ _ _ h
  ·rcases O6 hv with ⟨j, u, rfl, rfl⟩ | ⟨y, u, rfl, rfl⟩
   ·rw [b0G] at h; exact SeqAt.EqAt.str_int x t j u _ _ _ _ h
   ·rw [b0o] at h; exact wpAny_eqBool_str h
 «strs» := fun k x t v h => by
  rcases O6 h with ⟨i, u, rfl, e⟩ | ⟨y, u, rfl, e⟩
  ·exact nomatch e
  ·injection e with e1 _
   subst e1
   cases v <;> rfl

theorem b2C (prog : Program) (w : World) (i : Int) (t : Tok) : (D9 prog w).is (.inl i) (.int i t) = true := b4a i t
theorem b2Y (prog : Program) (w : World) (x : Str) (t : Tok) : (D9 prog w).is (.inr x) (.str x t) = true := b2a x t
end L2

namespace L2
open PySem PySem.Spec PyProof.Rows

inductive V where
 | non | bl (b : Bool) | int (i : Int) | str (x : Str) | byt (b : Array UInt8) | flt (b : UInt64) | ref (a : Addr) | ty (n : String)
 deriving DecidableEq

noncomputable def RelV : V → Value → Prop
 | .non, u => u = Value.none
 | .bl b, u => u = Value.bool b
 | .int i, u => ∃ t, u = Value.int i t
 | .str x, u => ∃ t, u = Value.str x t
 | .byt b, u => ∃ t, u = Value.bytes b t
 | .flt b, u => ∃ t, u = Value.float b t
 | .ref a, u => u = Value.ref a
 | .ty n, u => u = Value.type n

noncomputable abbrev Vals : List V → List Value → Prop := Paired RelV
theorem Vals.length {xs : List V} {us : List Value} (r : Vals xs us) : xs.length = us.length := Paired.length r
theorem Vals.get : ∀ {xs : List V} {us : List Value} {i : Nat} {x : V}, Vals xs us → xs[i]? = some x → ∃ u, us[i]? = some u ∧ RelV x u
 | _, _, _, _, .nil, e => by simp at e
 | _, _, 0, _, .cons r _, e => by simp at e; subst e; exact ⟨_, rfl, r⟩
 | _, _, i + 1, x, .cons _ t, e => by
  obtain ⟨u, h1, h2⟩ := Vals.get (i := i) (x := x) t (by simpa using e)
  exact ⟨u, by simpa using h1, h2⟩
theorem Vals.append : ∀ {xs ys : List V} {us ws : List Value}, Vals xs us → Vals ys ws → Vals (xs ++ ys) (us ++ ws)
 | _, _, _, _, .nil, s => s
 | _, _, _, _, .cons r t, s => .cons r (Vals.append t s)
theorem Vals.take : ∀ {xs : List V} {us : List Value} (n : Nat), Vals xs us → Vals (xs.take n) (us.take n)
 | _, _, 0, _ => .nil
 | _, _, _ + 1, .nil => .nil
 | _, _, n + 1, .cons r t => .cons r (Vals.take n t)
theorem Vals.drop : ∀ {xs : List V} {us : List Value} (n : Nat), Vals xs us → Vals (xs.drop n) (us.drop n)
 | _, _, 0, r => r
 | _, _, _ + 1, .nil => .nil
 | _, _, n + 1, .cons _ t => Vals.drop n t
noncomputable def RelO : Option V → Option Value → Prop
 | some v, some u => RelV v u
 | none, none => True
 | _, _ => False
noncomputable def KV {κ : Type} : List (κ × V) → List (κ × Value) → Prop := Paired fun (p : κ × V) (q : κ × Value) => p.1 = q.1 ∧ RelV p.2 q.2

noncomputable def kV : Key → V
 | .inl i => .int i
 | .inr x => .str x

inductive HO where
 | lst (xs : List V)
 | tup (xs : List V)
 | dK (kvs : List (Key × V)) | dT (kvs : List (List Key × V))
 | set (S : Int → Bool) (n : Nat)
 | ins (C dx : Addr) (fs : List (Str × V))
 | own (x : Addr)
 | xd (fs : List (Str × V))
 | met (f x : Addr)
 | rng (lo hi : Int)
 | frz (o : Obj) (u : HO)
 | tbl (ps : Array Value)
 | ext (φ : Heap → Prop)

noncomputable abbrev Hp := Addr → Option HO
noncomputable def upd (H : Hp) (a : Addr) (o : HO) : Hp := fun b => if b = a then some o else H b
theorem B8 {H : Hp} {a : Addr} {o : HO} : upd H a o a = some o := by unfold upd; rw [if_pos rfl]
theorem u5 {H : Hp} {a b : Addr} {o : HO} (h : b ≠ a) : upd H a o b = H b := by unfold upd; rw [if_neg h]
theorem b3Z {H : Hp} {a b : Addr} {o u : HO} (h : H a = some o) (h' : H b = some u) (d : o ≠ u) : a ≠ b := by
 intro e; subst e; rw [h] at h'; exact d (Option.some.inj h')
theorem K4 {H : Hp} {a b : Addr} {o : HO} (h : H a = some o) (h' : H b = none) : a ≠ b := by
 intro e; subst e; rw [h] at h'; cases h'

section
variable (P : Program) (w : World)
noncomputable def ObjOk (H : Hp) (h : Heap) (a : Addr) : HO → Prop
 | .lst xs => xs.length ≤ sizeLine ∧ ∃ (its : List Value) (n : Nat), Vals xs its ∧ h.get? a = some { cls := .type "list", data := .seq its.toArray n }
 | .tup xs => xs.length ≤ sizeLine ∧ ∃ its : List Value, Vals xs its ∧ IsTup h a its.toArray
 | .dK kvs => kvs.length ≤ sizeLine ∧ (a == sysModules) = false ∧ ∃ vs, KV kvs vs ∧ h.DictOf (D9 P w) a vs
 | .dT kvs => kvs.length ≤ sizeLine ∧ (a == sysModules) = false ∧ ∃ xs : List (List Key × Addr × Value),
   Paired (fun (p : List Key × V) (q : List Key × Addr × Value) => p.1 = q.1 ∧ H q.2.1 = some (.tup (p.1.map kV)) ∧ RelV p.2 q.2.2) kvs xs ∧
   ∃ o es ep, h.get? a = some o ∧ o.ExactDict ∧ o.data = .dict es ep ∧ es.toList = xs.map (entryOfKey (tupleKind (D9 P w))) ∧ (xs.map (·.1)).Nodup
 | .set S n => h.SetOf (intKind P w) a S n
 | .ins C dx fs => H dx = some (.own a) ∧ fs.length ≤ 1000 ∧ dx ≠ a ∧ h.get? a = some (PySem.W.instObj C dx) ∧
   ∃ mA, h.Ns1 dx mA ∧ (∀ f, RelO (fs.lookup f) (mA f)) ∧ PySem.Within mA (fs.map (·.1))
 | .own _ => ∃ o, h.get? a = some o
 | .xd fs => ∃ mA, h.Ns1 a mA ∧ ∀ f, RelO (fs.lookup f) (mA f)
 | .rng lo hi => ∃ t u v, h.get? a = some { cls := .type "range", data := .fields #[.int lo t, .int hi u, .int 1 v] }
 | .frz o u => h.get? a = some o ∧ ObjOk H h a u
 | .tbl ps => h.get? a = some { cls := .none, data := .fields ps }
 | .met f x => h.get? a = some (PySem.W.methodObj (.ref f) (.ref x))
 | .ext φ => φ h ∧ (∃ o, h.get? a = some o) ∧ ∀ h1 h2 : Heap, φ h1 → (∀ o, h1.get? a = some o → h2.get? a = some o) → φ h2
noncomputable def HOk (H : Hp) (h : Heap) : Prop := ∀ a o, H a = some o → ObjOk P w H h a o
end

section
variable {P : Program} {w : World} {H H' : Hp} {h h' : Heap} {a : Addr} {o : HO}
theorem ObjOk.lt (x : ObjOk P w H h a o) : a < h.objs.size := by
 cases o with
 | lst xs => obtain ⟨_, _, _, _, e⟩ := x; exact Heap.lt_size e
 | tup xs => obtain ⟨_, _, _, p⟩ := x; exact p.lt
 | dK kvs => obtain ⟨_, _, _, _, o, _, _, e, _⟩ := x; exact Heap.lt_size e
 | dT kvs => obtain ⟨_, _, _, _, o, _, _, e, _⟩ := x; exact Heap.lt_size e
 | set S n => obtain ⟨o, _, _, _, e, _⟩ := x; exact Heap.lt_size e
 | ins C dx fs => obtain ⟨_, _, _, e, _⟩ := x; exact Heap.lt_size e
 | own y => obtain ⟨_, e⟩ := x; exact Heap.lt_size e
 | xd fs => obtain ⟨_, ⟨_, _, _, e, _⟩, _⟩ := x; exact Heap.lt_size e
 | rng lo hi => obtain ⟨_, _, _, e⟩ := x; exact Heap.lt_size e
 | frz ob u => obtain ⟨e, _⟩ := x; exact Heap.lt_size e
 | tbl ps => exact Heap.lt_size (show h.get? a = some _ from x)
 | met f y => exact Heap.lt_size (show h.get? a = some _ from x)
 | ext φ => obtain ⟨_, ⟨_, e⟩, _⟩ := x; exact Heap.lt_size e
theorem Paired.mapP {α β : Type} {F G : α → β → Prop} : ∀ {l₁ : List α} {l₂ : List β}, Paired F l₁ l₂ → (∀ a b, F a b → G a b) → Paired G l₁ l₂
 | _, _, .nil, _ => .nil
 | _, _, .cons r t, f => .cons (f _ _ r) (Paired.mapP t f)
theorem ObjOk.stay (x : ObjOk P w H h a o) (k : ∀ b u, (b = a ∨ H b = some (.own a)) → h.get? b = some u → h'.get? b = some u)
  (ho : ∀ b, H b = some (.own a) → H' b = some (.own a)) (ht : ∀ b xs, H b = some (.tup xs) → H' b = some (.tup xs)) : ObjOk P w H' h' a o := by
 induction o with
 | lst xs => obtain ⟨z, its, n, r, e⟩ := x; exact ⟨z, its, n, r, k _ _ (.inl rfl) e⟩
 | tup xs => obtain ⟨z, its, r, ob, e, c⟩ := x; exact ⟨z, its, r, ob, k _ _ (.inl rfl) e, c⟩
 | dK kvs => obtain ⟨z, y, vs, r, ob, es, ep, e, c⟩ := x; exact ⟨z, y, vs, r, ob, es, ep, k _ _ (.inl rfl) e, c⟩
 | dT kvs =>
  obtain ⟨z, y, xs, r, ob, es, ep, e, c⟩ := x
  exact ⟨z, y, xs, Paired.mapP r fun p q z => ⟨z.1, ht _ _ z.2.1, z.2.2⟩, ob, es, ep, k _ _ (.inl rfl) e, c⟩
 | set S n => obtain ⟨ob, es, ep, t, e, c⟩ := x; exact ⟨ob, es, ep, t, k _ _ (.inl rfl) e, c⟩
 | ins C dx fs =>
  obtain ⟨d, z, ne, e, mA, ⟨od, es, ep, e2, c⟩, r⟩ := x
  exact ⟨ho _ d, z, ne, k _ _ (.inl rfl) e, mA, ⟨od, es, ep, k _ _ (.inr d) e2, c⟩, r⟩
 | own y => obtain ⟨ob, e⟩ := x; exact ⟨ob, k _ _ (.inl rfl) e⟩
 | xd fs => obtain ⟨mA, ⟨od, es, ep, e, c⟩, r⟩ := x; exact ⟨mA, ⟨od, es, ep, k _ _ (.inl rfl) e, c⟩, r⟩
 | rng lo hi => obtain ⟨t, u, v, e⟩ := x; exact ⟨t, u, v, k _ _ (.inl rfl) e⟩
 | frz ob u ih => obtain ⟨e, q⟩ := x; exact ⟨k _ _ (.inl rfl) e, ih q⟩
 | tbl ps =>
  have e : h.get? a = some { cls := .none, data := .fields ps } := x
  show h'.get? a = some { cls := .none, data := .fields ps }
  exact k a _ (.inl rfl) e
 | met f y =>
  have e : h.get? a = some (PySem.W.methodObj (.ref f) (.ref y)) := x
  show h'.get? a = some (PySem.W.methodObj (.ref f) (.ref y))
  exact k a _ (.inl rfl) e
 | ext φ => obtain ⟨p, ⟨o, e⟩, st⟩ := x; exact ⟨st _ _ p fun o q => k _ _ (.inl rfl) q, ⟨o, k _ _ (.inl rfl) e⟩, st⟩
theorem HOk.lt (x : HOk P w H h) (e : H a = some o) : a < h.objs.size := (x a o e).lt
theorem HOk.fresh (x : HOk P w H h) (e : h.objs.size ≤ a) : H a = none := by
 cases q : H a with
 | none => rfl
 | some u => exact absurd (Nat.lt_of_lt_of_le (x.lt q) e) (Nat.lt_irrefl _)
theorem HOk.kept (x : HOk P w H h) (k : ∀ b u, h.get? b = some u → h'.get? b = some u) : HOk P w H h' := fun a o e =>
 (x a o e).stay (fun b u _ q => k b u q) (fun _ q => q) fun _ _ q => q
theorem HOk.laid (x : HOk P w H h) (k : ∀ b u, h.get? b = some u → h'.get? b = some u) (hp : h.objs.size ≤ a) (new : ObjOk P w (upd H a o) h' a o) : HOk P w (upd H a o) h' := fun b u e => by
 have hn := x.fresh hp
 by_cases hb : b = a
 ·subst hb; rw [B8] at e; cases e; exact new
 ·rw [u5 hb] at e
  exact (x b u e).stay (fun c v _ q => k c v q) (fun c q => by rw [u5 (K4 q hn)]; exact q) fun c xs q => by rw [u5 (K4 q hn)]; exact q
end

noncomputable def Rd (H : Hp) (a : Addr) (u : HO) : Prop := H a = some u ∨ ∃ o, H a = some (.frz o u)
theorem Rd.ok {P : Program} {w : World} {H : Hp} {h : Heap} {a : Addr} {u : HO} (r : Rd H a u) (x : HOk P w H h) : ObjOk P w H h a u := by
 rcases r with r | ⟨o, r⟩
 ·exact x a u r
 ·obtain ⟨_, q⟩ := x a _ r
  exact q
noncomputable def Mut : Option HO → Prop
 | some (.lst _) => True
 | some (.dK _) => True
 | some (.dT _) => True
 | some (.set _ _) => True
 | some (.ins _ _ _) => True
 | some (.ext _) => True
 | _ => False
section
variable {P : Program} {w : World} {H : Hp} {h h' : Heap} {x e : Addr} {o' : HO}
theorem HOk.write (ok : HOk P w H h) (mu : Mut (H x)) (he : e = x ∨ H e = some (.own x)) (k : ∀ b u, b ≠ e → h.get? b = some u → h'.get? b = some u) (heo : ∃ u, h'.get? e = some u)
  (new : ObjOk P w (upd H x o') h' x o') : HOk P w (upd H x o') h' := fun b u q => by
 have nown : ∀ c y, H c = some (.own y) → c ≠ x := fun c y r z => by subst z; rw [r] at mu; exact mu
 have ntup : ∀ c xs, H c = some (.tup xs) → c ≠ x := fun c xs r z => by subst z; rw [r] at mu; exact mu
 by_cases hb : b = x
 ·subst hb; rw [B8] at q; cases q; exact new
 ·rw [u5 hb] at q
  by_cases hbe : b = e
  ·have q' : H b = some (.own x) := by
    rcases he with z | z
    ·exact absurd (hbe.trans z) hb
    ·rw [hbe]; exact z
   rw [q] at q'; cases q'
   obtain ⟨v, hv⟩ := heo
   exact ⟨v, by rw [hbe]; exact hv⟩
  ·refine (ok b u q).stay (fun c v hc r => k c v ?_ r) (fun c r => by rw [u5 (nown c b r)]; exact r) fun c xs r => by rw [u5 (ntup c xs r)]; exact r
   rcases hc with rfl | hc
   ·exact hbe
   ·rintro rfl
    rcases he with z | z
    ·exact nown c b hc z
    ·rw [hc] at z; cases z; exact hb rfl
end

structure Un (fs ex : List Addr) (H H' : Hp) (h h' : Heap) : Prop where
 keep : ∀ b o, h.get? b = some o → H b = none → b ∉ fs → b ∉ ex → h'.get? b = some o
 slot : ∀ b o, h.get? b = some o → H b = none → b ∈ fs → b ∉ ex → ∃ sl, h'.get? b = some { o with slots := sl }
 free : ∀ b o, h.get? b = some o → H b = none → b ∉ ex → H' b = none
 there : ∀ b o, h.get? b = some o → b ∉ ex → ∃ o', h'.get? b = some o'
 tups : ∀ b xs, H b = some (.tup xs) → H' b = some (.tup xs)
 frzs : ∀ b o u, H b = some (.frz o u) → H' b = some (.frz o u)
 tbls : ∀ b ps, H b = some (.tbl ps) → ∃ more, H' b = some (.tbl (ps ++ more))
section
variable {fs fs' ex ex' : List Addr} {H H1 H2 : Hp} {h h1 h2 h' : Heap} {a x e : Addr} {o : HO}
theorem Un.any (u : Un fs ex H H1 h h1) {b : Addr} {ob : Obj} (q : h.get? b = some ob) (n : H b = none) (hx : b ∉ ex) : ∃ sl, h1.get? b = some { ob with slots := sl } := by
 by_cases hb : b ∈ fs
 ·exact u.slot b ob q n hb hx
 ·exact ⟨ob.slots, u.keep b ob q n hb hx⟩
theorem Un.kept (k : ∀ b u, h.get? b = some u → h'.get? b = some u) : Un fs ex H H h h' :=
 ⟨fun b ob q _ _ _ => k b ob q, fun b ob q _ _ _ => ⟨ob.slots, k b ob q⟩, fun _ _ _ n _ => n, fun b ob q _ => ⟨ob, k b ob q⟩, fun _ _ q => q, fun _ _ _ q => q, fun _ ps q => ⟨#[], by rw [q]; simp⟩⟩
theorem Un.refl : Un fs ex H H h h := Un.kept fun _ _ q => q
theorem Un.laid (k : ∀ b u, h.get? b = some u → h'.get? b = some u) (hp : h.objs.size ≤ a) (hn : H a = none) : Un fs ex H (upd H a o) h h' where
 keep := fun b u q _ _ _ => k b u q
 slot := fun b u q _ _ _ => ⟨u.slots, k b u q⟩
 free := fun b u q n _ => by rw [u5 (Nat.ne_of_lt (Nat.lt_of_lt_of_le (Heap.lt_size q) hp))]; exact n
 there := fun b u q _ => ⟨u, k b u q⟩
 tups := fun b xs q => by rw [u5 (K4 q hn)]; exact q
 frzs := fun b u xs q => by rw [u5 (K4 q hn)]; exact q
 tbls := fun b ps q => ⟨#[], by rw [u5 (K4 q hn), q]; simp⟩
theorem Un.write (mu : Mut (H x)) (he : e = x ∨ H e = some (.own x)) (k : ∀ b u, b ≠ e → h.get? b = some u → h'.get? b = some u) (heo : ∃ u, h'.get? e = some u) : Un fs ex H (upd H x o) h h' := by
 have hx : ∀ b, H b = none → b ≠ x := fun b n z => by subst z; rw [n] at mu; exact mu
 have hb : ∀ b, H b = none → b ≠ e := fun b n z => by
  subst z
  rcases he with r | r
  ·exact hx b n r
  ·rw [n] at r; cases r
 have hm : ∀ b u, H b = some u → ¬ Mut (some u) → b ≠ x := fun b u q nm z => by subst z; rw [q] at mu; exact nm mu
 refine ⟨fun b u q n _ _ => k b u (hb b n) q, fun b u q n _ _ => ⟨u.slots, k b u (hb b n) q⟩, fun b u q n _ => by rw [u5 (hx b n)]; exact n, fun b u q _ => ?_,
  fun b xs q => by rw [u5 (hm b _ q fun z => z)]; exact q, fun b u xs q => by rw [u5 (hm b _ q fun z => z)]; exact q, fun b ps q => ⟨#[], by rw [u5 (hm b _ q fun z => z), q]; simp⟩⟩
 by_cases hbe : b = e
 ·subst hbe; exact heo
 ·exact ⟨u, k b u hbe q⟩
end

noncomputable def trk (h : Heap) (H : Hp) : List Addr := (List.range h.objs.size).filter fun a => (H a).isSome
noncomputable def N5 (h : Heap) (H : Hp) : Heap := PySem.W.hideAll h (trk h H)
theorem b0D (h : Heap) (H : Hp) : (N5 h H).objs.size = h.objs.size := PySem.W.hideAll_size _ _
theorem a8l {h : Heap} {H : Hp} {b : Addr} {o : Obj} (e : h.get? b = some o) (n : H b = none) : (N5 h H).get? b = some o :=
 PySem.W.hideAll_get _ e fun hm => by
  have q : (H b).isSome = true := (List.mem_filter.mp hm).2
  rw [n] at q; simp at q
theorem a7J {h : Heap} {H : Hp} {b : Addr} {o : Obj} (e : (N5 h H).get? b = some o) : h.get? b = some o ∧ H b = none := by
 have e' : h.get? b = some o := PySem.W.of_hideAll (trk h H) e
 refine ⟨e', ?_⟩
 cases q : H b with
 | none => rfl
 | some x =>
  have hm : b ∈ trk h H := List.mem_filter.mpr ⟨List.mem_range.mpr (Heap.lt_size e'), by simp [q]⟩
  have z : (N5 h H).get? b = none := PySem.W.hideAll_none (trk h H) hm
  rw [z] at e; cases e

end L2

namespace L2
open PySem PySem.Spec PyProof.Rows

structure Mod (K : PySem.W.Frag) (mg : Str → Option Value) (base : Heap) : Prop where
 kin : K.In base
 glob : base.Ns mainGlobals mg
 blt : ∃ mb, base.Ns builtinsNs mb ∧ ∀ x : Str, x ≠ "__name__" → mb x = bootBuiltins x
 nolimit : base.NoLimit

structure Cx where
 prog : Program
 w : World
 K : PySem.W.Frag
 mg : Str → Option Value
 base : Heap
 A : Around
 N : List Str
 s₀ : Shared
 H₀ : Hp
 env : Env
 outer : List Env
 stack : List Env
 ex : List Addr
 fn : Str → Bool
 calm : Bool
 pn : List (Addr × Obj)
 xe : Value → Shared → Prop
noncomputable def frs (l : List Env) : List Addr := l.filterMap (·.frame)
noncomputable abbrev Cx.fs (X : Cx) : List Addr := frs X.outer

noncomputable def Vis (sc : Scope) (x : Str) : Prop := sc.names.lookup x = some .local ∨ sc.names.lookup x = some .cell ∨ sc.names.lookup x = some .free
noncomputable def Loc (sc : Scope) (x : Str) : Prop := sc.names.lookup x = some .local ∨ sc.names.lookup x = some .cell
noncomputable def b2l (env : Env) (h : Heap) (m : Str → Option Value) (x : Str) (u : Value) : Prop :=
 (env.kindOf x = some .local ∧ m x = some u) ∨ ((env.kindOf x = some .cell ∨ env.kindOf x = some .free) ∧ ∃ c, env.cells.lookup x = some c ∧ h.IsCell c (some u))

structure Cx.Ok (X : Cx) : Prop where
 mod : Mod X.K X.mg X.base
 kind : X.env.scope.kind = .function
 glob : X.env.globals = mainGlobals
 blt : X.env.builtins = builtinsNs
 above : X.s₀.heap.objs.size ≤ X.env.locals
 inj : ∀ x y c, X.env.cells.lookup x = some c → X.env.cells.lookup y = some c → x = y
 has : ∀ x, (X.env.kindOf x = some .cell ∨ X.env.kindOf x = some .free) → ∃ c, X.env.cells.lookup x = some c
 cab : ∀ x c, X.fn x = true → X.env.cells.lookup x = some c → X.s₀.heap.objs.size ≤ c
 hd : X.calm = true → X.A.handled = none
 frames : X.A.frames = some X.stack
 stk : X.stack = X.outer ∨ (X.stack = X.env :: X.outer ∧ X.env.frame = some X.env.locals)
 exf : ∀ b ∈ X.ex, b ≠ X.env.locals ∧ ∀ x c, X.env.cells.lookup x = some c → c ≠ b
 bs : ∀ b o, X.base.get? b = some o → X.s₀.heap.get? b = some o ∧ X.H₀ b = none
 bsz : X.base.objs.size ≤ X.s₀.heap.objs.size
 noex : ∀ b o, X.base.get? b = some o → b ∉ X.ex
 exfs : ∀ b ∈ X.ex, b ∉ X.fs
 funs : X.s₀.heap.FunFrames X.base X.outer
 frf : ∀ b ∈ X.fs, X.H₀ b = none

structure Inv (X : Cx) (pins : List (Addr × Obj)) (σ : List (Option V)) (H : Hp) (s : Shared) : Prop where
 ok : X.Ok
 os : s.os = X.s₀.os
 bare : AllBare s.gens
 base : Un X.fs X.ex X.H₀ H X.s₀.heap s.heap
 loc : ∃ m, s.heap.Ns X.env.locals m ∧ ∀ (i : Nat) (x : Str) (v : V), X.N[i]? = some x → σ[i]? = some (some v) → Vis X.env.scope x → ∃ u, RelV v u ∧ b2l X.env s.heap m x u
 cell : ∀ x c, X.env.cells.lookup x = some c → ∃ v, s.heap.IsCell c v
 free : H X.env.locals = none
 freeC : ∀ x c, X.env.cells.lookup x = some c → H c = none
 pin : ∀ p ∈ X.pn ++ pins, s.heap.get? p.1 = some p.2 ∧ H p.1 = none ∧ p.1 ≠ X.env.locals ∧ p.1 ∉ X.fs ∧ ∀ v, p.2.data ≠ .cell v
 hok : HOk X.prog X.w H s.heap
 len : σ.length = X.N.length

section
variable {X : Cx} {pins : List (Addr × Obj)} {σ : List (Option V)} {H H' : Hp} {s : Shared} {h' : Heap}

theorem Cx.Ok.nofr (ok : X.Ok) {b : Addr} {o : Obj} (e : X.base.get? b = some o) : b ∉ X.fs := fun hb => by
 have := (ok.funs.mem hb).1
 rw [e] at this; cases this
theorem Inv.bs (I : Inv X pins σ H s) : ∀ b o, X.base.get? b = some o → s.heap.get? b = some o ∧ H b = none := fun b o e =>
 ⟨I.base.keep b o (I.ok.bs b o e).1 (I.ok.bs b o e).2 (I.ok.nofr e) (I.ok.noex b o e), I.base.free b o (I.ok.bs b o e).1 (I.ok.bs b o e).2 (I.ok.noex b o e)⟩
theorem Inv.bk (I : Inv X pins σ H s) : ∀ b o, X.base.get? b = some o → s.heap.get? b = some o := fun b o e => (I.bs b o e).1
theorem Inv.mod (I : Inv X pins σ H s) : Mod X.K X.mg X.base := I.ok.mod
theorem Inv.kIn (I : Inv X pins σ H s) : X.K.In s.heap := I.ok.mod.kin.keeps I.bk
theorem Inv.fr (I : Inv X pins σ H s) : ∃ m, Fr X.base X.env.locals s.heap m :=
 let ⟨m, hn, _⟩ := I.loc
 ⟨m, hn, I.bk, Nat.le_trans I.ok.bsz I.ok.above⟩
theorem Inv.lt (I : Inv X pins σ H s) : X.env.locals < s.heap.objs.size := let ⟨_, hn, _⟩ := I.loc; hn.lt
theorem Inv.sz (I : Inv X pins σ H s) : X.s₀.heap.objs.size ≤ s.heap.objs.size := Nat.le_trans I.ok.above (Nat.le_of_lt I.lt)
theorem Inv.nofs (I : Inv X pins σ H s) {a : Addr} (h : s.heap.objs.size ≤ a) : a ∉ X.fs := fun hb => by
 obtain ⟨_, o, ho, _⟩ := I.ok.funs.mem hb
 exact absurd (Nat.lt_of_lt_of_le (Heap.lt_size ho) (Nat.le_trans I.sz h)) (Nat.lt_irrefl _)
theorem Inv.cne (I : Inv X pins σ H s) : ∀ x c, X.env.cells.lookup x = some c → c ≠ X.env.locals := fun x c e z => by
 obtain ⟨v, o, ho, hd⟩ := I.cell x c e
 obtain ⟨m, ⟨o', es, ep, ho', hd', _⟩, _⟩ := I.loc
 rw [z, ho'] at ho; cases ho; rw [hd'] at hd; cases hd
theorem Inv.funs (I : Inv X pins σ H s) : s.heap.FunFrames X.base X.outer := by
 have all : ∀ (l : List Env), (∀ b ∈ frs l, b ∈ X.fs) → X.s₀.heap.FunFrames X.base l → s.heap.FunFrames X.base l := by
  intro l
  induction l with
  | nil => intro _ _; trivial
  | cons env r ih =>
   intro hs hl
   obtain ⟨hk, ⟨L, o, hf, hn, ho, hd⟩, hr⟩ := hl
   have hL : L ∈ X.fs := hs L (by unfold frs; rw [List.filterMap_cons, hf]; exact List.mem_cons_self)
   obtain ⟨sl, e⟩ := I.base.slot L o ho (I.ok.frf L hL) hL fun z => I.ok.exfs L z hL
   exact ⟨hk, ⟨L, _, hf, hn, e, hd⟩, ih (fun b hb => hs b (by unfold frs; rw [List.filterMap_cons, hf]; exact List.mem_cons_of_mem _ hb)) hr⟩
 exact all X.outer (fun _ hb => hb) I.ok.funs

theorem Inv.stack (I : Inv X pins σ H s) : s.heap.FunFrames X.base X.stack := by
 rcases I.ok.stk with e | ⟨e, hf⟩
 ·rw [e]; exact I.funs
 ·rw [e]
  obtain ⟨m, hn, _⟩ := I.loc
  refine .cons (by rw [I.ok.kind]; decide) hf hn ?_ I.funs
  exact Heap.get?_none_of_le (Nat.le_trans I.ok.bsz I.ok.above)
theorem Inv.stkSub (I : Inv X pins σ H s) : ∀ b ∈ frs X.stack, b ∈ X.env.locals :: X.fs := fun b hb => by
 rcases I.ok.stk with e | ⟨e, hf⟩
 ·rw [e] at hb; exact List.mem_cons_of_mem _ hb
 ·rw [e] at hb
  unfold frs at hb
  rw [List.filterMap_cons, hf] at hb
  exact hb
theorem Inv.stkFree (I : Inv X pins σ H s) : ∀ b ∈ frs X.stack, H b = none := fun b hb => by
 rcases List.mem_cons.mp (I.stkSub b hb) with e | hb
 ·rw [e]; exact I.free
 ·obtain ⟨_, o, ho, _⟩ := I.ok.funs.mem hb
  exact I.base.free b o ho (I.ok.frf b hb) fun z => I.ok.exfs b z hb

theorem Inv.step {g' : Array GenState} {t' : Nat} {d' : Drawn} {ch : List Addr} (I : Inv X pins σ H s)
  (hch : ∀ b ∈ ch, (b ∈ X.ex ∨ X.s₀.heap.objs.size ≤ b) ∧ b ≠ X.env.locals ∧ (∀ x c, X.env.cells.lookup x = some c → c ≠ b) ∧ ∀ p ∈ X.pn ++ pins, p.1 ≠ b)
  (keep : ∀ b o, b ≠ X.env.locals → b ∉ X.fs → b ∉ ch → s.heap.get? b = some o → H b = none → h'.get? b = some o)
  (slot : ∀ b o, b ≠ X.env.locals → b ∈ X.fs → b ∉ ch → s.heap.get? b = some o → H b = none → ∃ sl, h'.get? b = some { o with slots := sl }) (free : ∀ b o, b ∉ ch → s.heap.get? b = some o → H b = none → H' b = none)
  (there : ∀ b o, b ∉ ch → s.heap.get? b = some o → ∃ o', h'.get? b = some o')
  (tups : ∀ b xs, H b = some (.tup xs) → H' b = some (.tup xs)) (frzs : ∀ b o u, H b = some (.frz o u) → H' b = some (.frz o u)) (tbls : ∀ b ps, H b = some (.tbl ps) → ∃ more, H' b = some (.tbl (ps ++ more)))
  (ns : ∀ m, s.heap.Ns X.env.locals m → h'.Ns X.env.locals m) (hok : HOk X.prog X.w H' h') (hg : AllBare g') :
  Inv X pins σ H' { s with heap := h', gens := g', drawn := d', toks := t' } := by
 have neL : ∀ b o, X.s₀.heap.get? b = some o → b ≠ X.env.locals := fun b o e => Nat.ne_of_lt (Nat.lt_of_lt_of_le (Heap.lt_size e) I.ok.above)
 have neC : ∀ b o, X.s₀.heap.get? b = some o → b ∉ X.ex → b ∉ ch := fun b o e hx hb => by
  rcases (hch b hb).1 with z | z
  ·exact hx z
  ·exact absurd (Nat.lt_of_lt_of_le (Heap.lt_size e) z) (Nat.lt_irrefl _)
 have cellK : ∀ x c, X.env.cells.lookup x = some c → ∀ v, s.heap.IsCell c v → h'.IsCell c v := fun x c e v hQ__ => by
  obtain ⟨o, ho, hd⟩ := hQ__
  have nch : c ∉ ch := fun z => (hch c z).2.2.1 x c e rfl
  by_cases hc : c ∈ X.fs
  ·obtain ⟨sl, q⟩ := slot c o (I.cne x c e) hc nch ho (I.freeC x c e)
   exact ⟨_, q, hd⟩
  ·exact ⟨o, keep c o (I.cne x c e) hc nch ho (I.freeC x c e), hd⟩
 refine ⟨I.ok, I.os, hg, ⟨fun b o e n hb hx => ?_, fun b o e n hb hx => ?_, fun b o e n hx => ?_, fun b o e hx => ?_, fun b xs e => tups b xs (I.base.tups b xs e), fun b o xs e => frzs b o xs (I.base.frzs b o xs e), fun b ps e => ?_⟩, ?_, fun x c e => ?_, ?_, fun x c e => ?_, fun p hp => ?_, hok, I.len⟩
 ·exact keep b o (neL b o e) hb (neC b o e hx) (I.base.keep b o e n hb hx) (I.base.free b o e n hx)
 ·obtain ⟨sl, e1⟩ := I.base.slot b o e n hb hx
  obtain ⟨sl', e2⟩ := slot b _ (neL b o e) hb (neC b o e hx) e1 (I.base.free b o e n hx)
  exact ⟨sl', e2⟩
 ·obtain ⟨o', e1⟩ := I.base.there b o e hx
  exact free b o' (neC b o e hx) e1 (I.base.free b o e n hx)
 ·obtain ⟨o', e1⟩ := I.base.there b o e hx
  exact there b o' (neC b o e hx) e1
 ·obtain ⟨m1, e1⟩ := I.base.tbls b ps e
  obtain ⟨m2, e2⟩ := tbls b _ e1
  exact ⟨m1 ++ m2, by rw [e2, Array.append_assoc]⟩
 ·obtain ⟨m, hn, hl⟩ := I.loc
  refine ⟨m, ns m hn, fun i x v e1 e2 e3 => ?_⟩
  obtain ⟨u, r, l⟩ := hl i x v e1 e2 e3
  refine ⟨u, r, ?_⟩
  rcases l with l | ⟨k, c, e, z⟩
  ·exact .inl l
  ·exact .inr ⟨k, c, e, cellK x c e _ z⟩
 ·obtain ⟨v, z⟩ := I.cell x c e
  exact ⟨v, cellK x c e v z⟩
 ·obtain ⟨m, ⟨o, _, _, ho, _⟩, _⟩ := I.loc
  exact free _ o (fun z => (hch _ z).2.1 rfl) ho I.free
 ·obtain ⟨v, o, ho, hd⟩ := I.cell x c e
  exact free c o (fun z => (hch c z).2.2.1 x c e rfl) ho (I.freeC x c e)
 ·obtain ⟨e, n, ne, nf, d⟩ := I.pin p hp
  have nch : p.1 ∉ ch := fun z => (hch p.1 z).2.2.2 p hp rfl
  exact ⟨keep p.1 p.2 ne nf nch e n, free p.1 p.2 nch e n, ne, nf, d⟩
theorem Inv.un {t' : Nat} (I : Inv X pins σ H s) (u : Un X.fs [] H H' s.heap h') (hok : HOk X.prog X.w H' h') : Inv X pins σ H' { s with heap := h', toks := t' } := by
 obtain ⟨m, ⟨o, es, ep, ho, r⟩, _⟩ := id I.loc
 obtain ⟨sl, hL⟩ := u.any ho I.free (by simp)
 exact I.step (g' := s.gens) (d' := s.drawn) (ch := []) (fun _ z => nomatch z) (fun b o _ hb _ e n => u.keep b o e n hb (by simp)) (fun b o _ hb _ e n => u.slot b o e n hb (by simp)) (fun b o _ e n => u.free b o e n (by simp)) (fun b o _ e => u.there b o e (by simp)) u.tups u.frzs u.tbls (fun m' hm => by
  obtain ⟨o', es', ep', ho', r'⟩ := hm
  rw [ho] at ho'; cases ho'
  exact ⟨_, es', ep', hL, r'⟩) hok I.bare
theorem Inv.call {g' : Array GenState} {t' : Nat} {d' : Drawn} {ch : List Addr} (I : Inv X pins σ H s) (u : Un (frs X.stack) ch H H' s.heap h') (hok : HOk X.prog X.w H' h') (hg : AllBare g')
  (hch : ∀ b ∈ ch, (b ∈ X.ex ∨ X.s₀.heap.objs.size ≤ b) ∧ b ≠ X.env.locals ∧ (∀ x c, X.env.cells.lookup x = some c → c ≠ b) ∧ ∀ p ∈ X.pn ++ pins, p.1 ≠ b) :
  Inv X pins σ H' { s with heap := h', gens := g', drawn := d', toks := t' } := by
 obtain ⟨m, ⟨o, es, ep, ho, r⟩, _⟩ := id I.loc
 obtain ⟨sl, hL⟩ := u.any ho I.free fun z => (hch _ z).2.1 rfl
 exact I.step (ch := ch) hch (fun b o hL hb hc e n => u.keep b o e n (fun z => (List.mem_cons.mp (I.stkSub b z)).elim hL hb) hc) (fun b o _ _ hc e n => u.any e n hc) (fun b o hc e n => u.free b o e n hc) (fun b o hc e => u.there b o e hc) u.tups u.frzs u.tbls (fun m' hm => by
  obtain ⟨o', es', ep', ho', r'⟩ := hm
  rw [ho] at ho'; cases ho'
  exact ⟨_, es', ep', hL, r'⟩) hok hg
theorem Inv.turned {t' : Nat} {it : Addr} (I : Inv X pins σ H s) (k : ∀ b o, b ≠ it → s.heap.get? b = some o → h'.get? b = some o) (hn : H it = none) (hL : it ≠ X.env.locals)
  (h1 : it ∈ X.ex ∨ X.s₀.heap.objs.size ≤ it) (h2 : ∀ x c, X.env.cells.lookup x = some c → c ≠ it) (h3 : ∀ p ∈ X.pn ++ pins, p.1 ≠ it) : Inv X pins σ H { s with heap := h', toks := t' } := by
 have nit : ∀ b u, H b = some u → b ≠ it := fun b u e z => by rw [z, hn] at e; cases e
 refine I.step (g' := s.gens) (d' := s.drawn) (ch := [it]) (fun b hb => ?_) (fun b o _ _ hc e _ => k b o (fun z => hc (by simp [z])) e) (fun b o _ _ hc e _ => ⟨o.slots, k b o (fun z => hc (by simp [z])) e⟩) (fun _ _ _ _ n => n)
  (fun b o hc e => ⟨o, k b o (fun z => hc (by simp [z])) e⟩) (fun _ _ e => e) (fun _ _ _ e => e) (fun b ps e => ⟨#[], by rw [e]; simp⟩) (fun m hm => ?_) (fun b u e => ?_) I.bare
 ·have e : b = it := by simpa using hb
  subst e
  exact ⟨h1, hL, h2, h3⟩
 ·obtain ⟨o, es, ep, ho, r⟩ := hm
  exact ⟨o, es, ep, k _ o (Ne.symm hL) ho, r⟩
 ·refine (I.hok b u e).stay (fun c v hc q => k c v ?_ q) (fun _ q => q) fun _ _ q => q
  rcases hc with z | z
  ·rw [z]; exact nit b u e
  ·exact nit c _ z
theorem Inv.tok (I : Inv X pins σ H s) (t : Nat) : Inv X pins σ H { s with toks := t } := I.un (h' := s.heap) (t' := t) Un.refl I.hok
theorem Inv.kept {t' : Nat} (I : Inv X pins σ H s) (k : ∀ b u, s.heap.get? b = some u → h'.get? b = some u) : Inv X pins σ H { s with heap := h', toks := t' } := I.un (Un.kept k) (I.hok.kept k)
theorem Inv.laid {a : Addr} {o : HO} {t' : Nat} (I : Inv X pins σ H s) (k : ∀ b u, s.heap.get? b = some u → h'.get? b = some u) (hp : s.heap.objs.size ≤ a) (new : ObjOk X.prog X.w (upd H a o) h' a o) :
  Inv X pins σ (upd H a o) { s with heap := h', toks := t' } := I.un (Un.laid k hp (I.hok.fresh hp)) (I.hok.laid k hp new)
theorem Inv.write {x e : Addr} {o : HO} {t' : Nat} (I : Inv X pins σ H s) (mu : Mut (H x)) (he : e = x ∨ H e = some (.own x)) (k : ∀ b u, b ≠ e → s.heap.get? b = some u → h'.get? b = some u) (heo : ∃ u, h'.get? e = some u)
  (new : ObjOk X.prog X.w (upd H x o) h' x o) : Inv X pins σ (upd H x o) { s with heap := h', toks := t' } := I.un (Un.write mu he k heo) (I.hok.write mu he k heo new)
theorem Inv.weak {σ' : List (Option V)} (I : Inv X pins σ H s) (hl : σ'.length = σ.length) (w : ∀ (i : Nat) v, σ'[i]? = some (some v) → σ[i]? = some (some v)) : Inv X pins σ' H s :=
 ⟨I.ok, I.os, I.bare, I.base, let ⟨m, hn, hl'⟩ := I.loc; ⟨m, hn, fun i x v e1 e2 e3 => hl' i x v e1 (w i v e2) e3⟩, I.cell, I.free, I.freeC, I.pin, I.hok, hl.trans I.len⟩
theorem Inv.pins_of {pins' : List (Addr × Obj)} (I : Inv X pins σ H s) (h : ∀ p ∈ pins', s.heap.get? p.1 = some p.2 ∧ H p.1 = none ∧ p.1 ≠ X.env.locals ∧ p.1 ∉ X.fs ∧ ∀ v, p.2.data ≠ .cell v) : Inv X pins' σ H s :=
 ⟨I.ok, I.os, I.bare, I.base, I.loc, I.cell, I.free, I.freeC, fun p hp => (List.mem_append.mp hp).elim (fun z => I.pin p (List.mem_append_left _ z)) (h p), I.hok, I.len⟩

theorem a5Y {N : List Str} (hN : N.Nodup) {i j : Nat} {x : Str} (a : N[i]? = some x) (b : N[j]? = some x) : i = j := by
 obtain ⟨h1, e1⟩ := List.getElem?_eq_some_iff.mp a
 obtain ⟨h2, e2⟩ := List.getElem?_eq_some_iff.mp b
 exact (List.getElem_inj hN).mp (e1.trans e2.symm)

theorem a7B {M : Model} {A : Around} {E : Value → Shared → Prop} {i : Nat} {x : Str} {v : V} {u : Value} {Q : Unit → Shared → Prop} (I : Inv X pins σ H s) (hN : X.N.Nodup) (hi : X.N[i]? = some x) (hx : Loc X.env.scope x) (r : RelV v u)
  (h : ∀ s', Inv X pins (σ.set i (some v)) H s' → (∃ a, Heap.SameBut a s.heap s'.heap ∧ (a = X.env.locals ∨ X.env.cells.lookup x = some a)) → Q () s') (hf : X.fn x = true ∨ X.env.scope.names.lookup x = some .local := by first | exact .inl rfl | exact .inr rfl | assumption) : wpAny M A (storeName X.env x u) Q E s := by
 obtain ⟨m, hn, hl⟩ := id I.loc
 have hcls : (X.env.scope.kind == .class || (X.env.scope.kind == .module && X.env.locals != X.env.globals)) = false := by rw [I.ok.kind]; rfl
 have hiσ : i < σ.length := by rw [I.len]; exact (List.getElem?_eq_some_iff.mp hi).1
 have cne := I.cne
 have tracked : ∀ {a : Addr} {h' : Heap}, (∃ o, s.heap.get? a = some o ∧ H a = none) → Heap.SameBut a s.heap h' → HOk X.prog X.w H h' := fun {a h'} ha hs b ob e => by
  obtain ⟨_, _, hfree⟩ := ha
  refine (I.hok b ob e).stay (fun c w' hc q => (hs.2 c ?_).trans q) (fun _ q => q) fun _ _ q => q
  rintro rfl
  rcases hc with rfl | hc
  ·rw [hfree] at e; cases e
  ·rw [hfree] at hc; cases hc
 rcases hx with hk | hk
 ·refine wpAny_storeName_local hk hn (fun h' hn' hs => ?_) hcls
  obtain ⟨oL, _, _, hoL, _⟩ := id hn
  refine h _ ⟨I.ok, I.os, I.bare, ⟨fun b o e n hb hx => ?_, fun b o e n hb hx => ?_, I.base.free, fun b o e hx => ?_, I.base.tups, I.base.frzs, I.base.tbls⟩, ⟨_, hn', fun j y v' e1 e2 e3 => ?_⟩, fun y c e => ?_, I.free, I.freeC, fun p hp => ?_, tracked ⟨oL, hoL, I.free⟩ hs, by simpa using I.len⟩ ⟨_, hs, .inl rfl⟩
  ·exact (hs.2 b (Nat.ne_of_lt (Nat.lt_of_lt_of_le (Heap.lt_size e) I.ok.above))).trans (I.base.keep b o e n hb hx)
  ·obtain ⟨sl, e1⟩ := I.base.slot b o e n hb hx
   exact ⟨sl, (hs.2 b (Nat.ne_of_lt (Nat.lt_of_lt_of_le (Heap.lt_size e) I.ok.above))).trans e1⟩
  ·obtain ⟨o', e1⟩ := I.base.there b o e hx
   exact ⟨o', (hs.2 b (Nat.ne_of_lt (Nat.lt_of_lt_of_le (Heap.lt_size e) I.ok.above))).trans e1⟩
  ·by_cases hj : j = i
   ·subst hj
    rw [hi] at e1; cases e1
    rw [List.getElem?_set_self hiσ] at e2
    cases e2
    exact ⟨u, r, .inl ⟨hk, by simp⟩⟩
   ·rw [List.getElem?_set_ne (Ne.symm hj)] at e2
    obtain ⟨u', r', q⟩ := hl j y v' e1 e2 e3
    refine ⟨u', r', ?_⟩
    rcases q with ⟨k, e⟩ | ⟨k, c, e, z⟩
    ·refine .inl ⟨k, ?_⟩
     have : y ≠ x := fun e => hj (a5Y hN e1 (e ▸ hi))
     simp [this, e]
    ·exact .inr ⟨k, c, e, z.sameBut hs (cne y c e)⟩
  ·obtain ⟨w', z⟩ := I.cell y c e
   exact ⟨w', z.sameBut hs (cne y c e)⟩
  ·obtain ⟨e, n, ne, nf, d⟩ := I.pin p hp
   exact ⟨(hs.2 p.1 ne).trans e, n, ne, nf, d⟩
 ·have hfn : X.fn x = true := by
   rcases hf with z | z
   ·exact z
   ·rw [z] at hk; cases hk
  obtain ⟨c, hc⟩ := I.ok.has x (.inl hk)
  obtain ⟨w', z⟩ := I.cell x c hc
  refine wpAny_storeName_cell I.ok.kind hk hc z (fun h' hc' hs => ?_)
  obtain ⟨oc, hoc, hocd⟩ := id z
  refine h { s with heap := h' } ⟨I.ok, I.os, I.bare, ⟨fun b o e n hb hx => ?_, fun b o e n hb hx => ?_, I.base.free, fun b o e hx => ?_, I.base.tups, I.base.frzs, I.base.tbls⟩, ⟨m, hn.sameBut hs (Ne.symm (cne x c hc)), fun j y v' e1 e2 e3 => ?_⟩, fun y c' e => ?_, I.free, I.freeC, fun p hp => ?_, tracked ⟨oc, hoc, I.freeC x c hc⟩ hs, by simpa using I.len⟩ ⟨c, hs, .inr hc⟩
  ·exact (hs.2 b (Nat.ne_of_lt (Nat.lt_of_lt_of_le (Heap.lt_size e) (I.ok.cab x c hfn hc)))).trans (I.base.keep b o e n hb hx)
  ·obtain ⟨sl, e1⟩ := I.base.slot b o e n hb hx
   exact ⟨sl, (hs.2 b (Nat.ne_of_lt (Nat.lt_of_lt_of_le (Heap.lt_size e) (I.ok.cab x c hfn hc)))).trans e1⟩
  ·obtain ⟨o', e1⟩ := I.base.there b o e hx
   exact ⟨o', (hs.2 b (Nat.ne_of_lt (Nat.lt_of_lt_of_le (Heap.lt_size e) (I.ok.cab x c hfn hc)))).trans e1⟩
  ·by_cases hj : j = i
   ·subst hj
    rw [hi] at e1; cases e1
    rw [List.getElem?_set_self hiσ] at e2
    cases e2
    exact ⟨u, r, .inr ⟨.inl hk, c, hc, hc'⟩⟩
   ·rw [List.getElem?_set_ne (Ne.symm hj)] at e2
    obtain ⟨u', r', q⟩ := hl j y v' e1 e2 e3
    refine ⟨u', r', ?_⟩
    rcases q with q | ⟨k, c', e, z'⟩
    ·exact .inl q
    ·refine .inr ⟨k, c', e, z'.sameBut hs ?_⟩
     rintro rfl
     exact hj (a5Y hN e1 (I.ok.inj _ _ _ e hc ▸ hi))
  ·by_cases hcc : c' = c
   ·subst hcc; exact ⟨_, hc'⟩
   ·obtain ⟨w2, z2⟩ := I.cell y c' e
    exact ⟨w2, z2.sameBut hs hcc⟩
  ·obtain ⟨e, n, ne, nf, d⟩ := I.pin p hp
   refine ⟨(hs.2 p.1 ?_).trans e, n, ne, nf, d⟩
   intro q
   rw [q, hoc] at e
   have q' : oc = p.2 := Option.some.inj e
   exact d w' (by rw [← q']; exact hocd)
theorem a1O {M : Model} {A : Around} {E : Value → Shared → Prop} {i : Nat} {x : Str} {v : V} {u : Value} {Q : Unit → Shared → Prop} (I : Inv X pins σ H s) (hN : X.N.Nodup) (hi : X.N[i]? = some x) (hx : Loc X.env.scope x) (r : RelV v u)
  (h : ∀ s', Inv X pins (σ.set i (some v)) H s' → Q () s') (hf : X.fn x = true ∨ X.env.scope.names.lookup x = some .local := by first | exact .inl rfl | exact .inr rfl | assumption) : wpAny M A (storeName X.env x u) Q E s :=
 a7B I hN hi hx r (fun s' I' _ => h s' I') hf
theorem Inv.call' {s' : Shared} {ch : List Addr} (I : Inv X pins σ H s) (ho : s'.os = s.os) (u : Un (frs X.stack) ch H H' s.heap s'.heap) (hok : HOk X.prog X.w H' s'.heap) (hg : AllBare s'.gens)
  (hch : ∀ b ∈ ch, (b ∈ X.ex ∨ X.s₀.heap.objs.size ≤ b) ∧ b ≠ X.env.locals ∧ (∀ x c, X.env.cells.lookup x = some c → c ≠ b) ∧ ∀ p ∈ X.pn ++ pins, p.1 ≠ b) : Inv X pins σ H' s' := by
 obtain ⟨h', g', d', t', o'⟩ := s'
 have e : o' = s.os := ho
 subst e
 exact I.call (g' := g') (t' := t') (d' := d') u hok hg hch
end

noncomputable abbrev XK := Value → Option Addr → Hp → Prop
noncomputable abbrev St := List (Option V)
noncomputable abbrev VK := V → Hp → Prop
noncomputable abbrev TE := St → Hp → VK → Prop
noncomputable abbrev TT := St → Hp → (Bool → Hp → Prop) → Prop
noncomputable abbrev TA := St → Hp → (List V → Hp → Prop) → Prop
structure Ends where
 nx : St → Hp → Prop
 rt : VK
 bk : St → Hp → Prop := fun _ _ => False
 ct : St → Hp → Prop := fun _ _ => False
noncomputable abbrev TS := Ends → St → Hp → Prop

noncomputable def EP (X : Cx) (pins : List (Addr × Obj)) (σ : St) (Q : VK) (u : Value) (s' : Shared) : Prop := ∃ v H', Inv X pins σ H' s' ∧ RelV v u ∧ Q v H'
noncomputable def TP (X : Cx) (pins : List (Addr × Obj)) (σ : St) (Q : Bool → Hp → Prop) (b : Bool) (s' : Shared) : Prop := ∃ H', Inv X pins σ H' s' ∧ Q b H'
noncomputable def AP (X : Cx) (pins : List (Addr × Obj)) (σ : St) (Q : List V → Hp → Prop) (us : List Value) (s' : Shared) : Prop := ∃ vs H', Inv X pins σ H' s' ∧ Vals vs us ∧ Q vs H'
noncomputable def SP (X : Cx) (pins : List (Addr × Obj)) (D : Ends) (f : Flow) (s' : Shared) : Prop :=
 match f with
 | .next => ∃ σ' H', Inv X pins σ' H' s' ∧ D.nx σ' H'
 | .brk => ∃ σ' H', Inv X pins σ' H' s' ∧ D.bk σ' H'
 | .cont => ∃ σ' H', Inv X pins σ' H' s' ∧ D.ct σ' H'
 | .ret u => ∃ v σ' H', Inv X pins σ' H' s' ∧ RelV v u ∧ D.rt v H'

noncomputable def PE (X : Cx) (e : Expr) (t : TE) : Prop :=
 ∀ (pins : List (Addr × Obj)) (s : Shared) (σ : St) (H : Hp) (Q : VK), Inv X pins σ H s → t σ H Q → wpAny (model X.prog X.w) X.A (eval e X.env) (EP X pins σ Q) X.xe s
noncomputable def PT (X : Cx) (e : Expr) (t : TT) : Prop :=
 ∀ (pins : List (Addr × Obj)) (s : Shared) (σ : St) (H : Hp) (Q : Bool → Hp → Prop), Inv X pins σ H s → t σ H Q → wpAny (model X.prog X.w) X.A (isTrue e X.env (eval e X.env)) (TP X pins σ Q) X.xe s
noncomputable def PW (X : Cx) (e : Expr) (t : TT) : Prop :=
 ∀ (whole : Sem Value) (pins : List (Addr × Obj)) (s : Shared) (σ : St) (H : Hp) (Q : Bool → Hp → Prop), Inv X pins σ H s → t σ H Q → wpAny (model X.prog X.w) X.A (isTrue e X.env whole) (TP X pins σ Q) X.xe s
theorem PW.pt {X : Cx} {e : Expr} {t : TT} (h : PW X e t) : PT X e t := h _
noncomputable def PA (X : Cx) (es : List Expr) (t : TA) : Prop :=
 ∀ (pos : Pos) (pins : List (Addr × Obj)) (s : Shared) (σ : St) (H : Hp) (Q : List V → Hp → Prop), Inv X pins σ H s → t σ H Q → wpAny (model X.prog X.w) X.A (spliced (backTo pos (starEach es X.env))) (AP X pins σ Q) X.xe s
noncomputable def PS (X : Cx) (st : Stmt) (t : TS) : Prop :=
 ∀ (pins : List (Addr × Obj)) (s : Shared) (σ : St) (H : Hp) (D : Ends), Inv X pins σ H s → t D σ H → wpAny (model X.prog X.w) X.A (exec st X.env) (SP X pins D) X.xe s
noncomputable def PSs (X : Cx) (st : List Stmt) (t : TS) : Prop :=
 ∀ (pins : List (Addr × Obj)) (s : Shared) (σ : St) (H : Hp) (D : Ends), Inv X pins σ H s → t D σ H → wpAny (model X.prog X.w) X.A (execs st X.env) (SP X pins D) X.xe s
theorem thn {α : Type} {t : Sem α} {Q Q' : α → Shared → Prop} {M : Model} {A : Around} {E : Value → Shared → Prop} {s : Shared} (h : wpAny M A t Q E s) (hQ : ∀ a s, Q a s → Q' a s) : wpAny M A t Q' E s := wpAny_mono h hQ fun _ _ x => x
end L2

namespace L2
open PySem PySem.Spec PyProof.Rows
section
variable {X : Cx}

noncomputable def R4 (i : Nat) : TE := fun σ H Q => ∃ v, σ[i]? = some (some v) ∧ Q v H
noncomputable def tC (v : V) : TE := fun _ H Q => Q v H
theorem b0v {i : Nat} {x : Str} {pos : Pos} (hN : X.N[i]? = some x) (hv : Vis X.env.scope x) (hd : (x == ("__debug__" : Str)) = false := by decide) (hcd : (x == ("__classdict__" : Str)) = false := by decide) : PE X (.Name x pos) (R4 i) := by
 intro pins s σ H Q I h
 obtain ⟨v, e, h⟩ := h
 obtain ⟨m, hn, hl⟩ := I.loc
 obtain ⟨u, r, l⟩ := hl i x v hN e hv
 have fin : EP X pins σ Q u s := ⟨v, H, I, r, h⟩
 rcases l with ⟨hk, hm⟩ | ⟨hk, c, hc, hcell⟩
 ·exact wpAny_Name (wpAny_loadName_local I.ok.kind hk hn hm fin) hd
 ·rcases hk with hk | hk
  ·exact wpAny_Name (wpAny_loadName_cell I.ok.kind hk hc hcell fin) hd
  ·exact wpAny_Name (wpAny_loadName_free I.ok.kind hk hc hcell fin hcd) hd
theorem a0Y {i j pos} : PE X (.Constant (.int i) j pos) (tC (.int i)) := fun _ _ _ H _ I h => wpAny_Constant_int ⟨.int i, H, I.tok _, ⟨_, rfl⟩, h⟩
theorem a96 {b j pos} : PE X (.Constant (.bool b) j pos) (tC (.bl b)) := fun _ _ _ H _ I h => Constant_bool ⟨.bl b, H, I, rfl, h⟩
theorem b0n {j pos} : PE X (.Constant .none j pos) (tC .non) := fun _ _ _ H _ I h => Constant_none ⟨.non, H, I, rfl, h⟩
theorem W5 {x j pos} : PE X (.Constant (.str x) j pos) (tC (.str x)) := fun _ _ _ H _ I h => Calls.Constant_str ⟨.str x, H, I.tok _, ⟨_, rfl⟩, h⟩

noncomputable def Gl (X : Cx) (x : Str) : Prop := X.env.kindOf x = some .globalImplicit
theorem a7N {E : Value → Shared → Prop} {pins : List (Addr × Obj)} {s : Shared} {σ : St} {H : Hp} {x : Str} {u : Value} {pos : Pos} {Q : Value → Shared → Prop} (I : Inv X pins σ H s) (hg : Gl X x) (hm : X.mg x = some u) (h : Q u s)
  (hd : (x == ("__debug__" : Str)) = false := by decide) : wpAny (model X.prog X.w) X.A (eval (.Name x pos) X.env) Q E s :=
 Calls.Name_function_global I.ok.kind hg (Calls.loadGlobal_global (by rw [I.ok.glob]; exact I.mod.glob.keeps I.bk) hm h) hd
theorem a0f {E : Value → Shared → Prop} {pins : List (Addr × Obj)} {s : Shared} {σ : St} {H : Hp} {x : Str} {u : Value} {pos : Pos} {Q : Value → Shared → Prop} (I : Inv X pins σ H s) (hg : Gl X x) (hm : X.mg x = none) (hv : bootBuiltins x = some u) (h : Q u s)
  (hn : x ≠ "__name__" := by decide) (hd : (x == ("__debug__" : Str)) = false := by decide) : wpAny (model X.prog X.w) X.A (eval (.Name x pos) X.env) Q E s := by
 obtain ⟨mb, h1, h2⟩ := I.mod.blt
 exact Calls.Name_function_global I.ok.kind hg (Calls.loadGlobal_builtin (by rw [I.ok.glob]; exact I.mod.glob.keeps I.bk) hm (by rw [I.ok.blt]; exact h1.keeps I.bk) ((h2 x hn).trans hv) h) hd
theorem a8Z {x : Str} {v : V} {u : Value} {pos : Pos} (hg : Gl X x) (hm : X.mg x = none) (hv : bootBuiltins x = some u) (r : RelV v u) (hn : x ≠ "__name__" := by decide) (hd : (x == ("__debug__" : Str)) = false := by decide) : PE X (.Name x pos) (tC v) :=
 fun _ _ _ H _ I h => a0f I hg hm hv ⟨v, H, I, r, h⟩ hn hd

variable {a b : Expr} {ta tb : TE} {pos : Pos}
variable {tA tB' : TT} {rest : List Expr}
noncomputable def b0g (t u : TT) : TT := fun σ H Q => t σ H fun c H1 => if c = true then u σ H1 Q else Q false H1
noncomputable def tOr (t u : TT) : TT := fun σ H Q => t σ H fun c H1 => if c = true then Q true H1 else u σ H1 Q
noncomputable def a9n (t : TT) : TT := fun σ H Q => t σ H fun c H1 => Q (!c) H1
theorem b0S (ha : PT X a tA) : PW X (.BoolOp .And [a] pos) tA := by
 intro wh pins s σ H Q I h
 refine isTrue_and (thn (ha pins s σ H Q I h) fun c s1 e => ?_)
 cases c with
 | true => exact isTrue_and_nil e
 | false => exact e
theorem a92 (ha : PT X a tA) : PW X (.BoolOp .Or [a] pos) tA := by
 intro wh pins s σ H Q I h
 refine isTrue_or (thn (ha pins s σ H Q I h) fun c s1 e => ?_)
 cases c with
 | false => exact isTrue_or_nil e
 | true => exact e
theorem b2d (ha : PT X a tA) (hb : PW X (.BoolOp .And (b :: rest) pos) tB') : PW X (.BoolOp .And (a :: b :: rest) pos) (b0g tA tB') := by
 intro wh pins s σ H Q I h
 refine isTrue_and (thn (ha pins s σ H _ I h) fun c s1 ⟨H1, I1, q1⟩ => ?_)
 cases c with
 | true => exact hb wh pins s1 σ H1 Q I1 q1
 | false => exact ⟨H1, I1, q1⟩
theorem b0F (ha : PT X a tA) (hb : PW X (.BoolOp .Or (b :: rest) pos) tB') : PW X (.BoolOp .Or (a :: b :: rest) pos) (tOr tA tB') := by
 intro wh pins s σ H Q I h
 refine isTrue_or (thn (ha pins s σ H _ I h) fun c s1 ⟨H1, I1, q1⟩ => ?_)
 cases c with
 | true => exact ⟨H1, I1, q1⟩
 | false => exact hb wh pins s1 σ H1 Q I1 q1
theorem b0s (ha : PT X a tA) : PT X (.UnaryOp .Not a pos) (a9n tA) := by
 intro pins s σ H Q I h
 exact isTrue_not (ha pins s σ H (fun c H1 => Q (!c) H1) I h)
noncomputable def a79 (ta tb : TE) : TE := fun σ H Q => ta σ H fun x H1 => ∃ c, x = .bl c ∧ if c = true then tb σ H1 Q else Q (.bl false) H1
noncomputable def a9W (ta : TE) : TE := fun σ H Q => ta σ H fun x H1 => ∃ c, x = .bl c ∧ Q (.bl (!c)) H1
theorem b2S {op} {t : TE} (h : PE X a t) : PE X (.BoolOp op [a] pos) t := fun pins s σ H Q I hw => BoolOp_one (h pins s σ H Q I hw)
theorem b3Y (ha : PE X a ta) (hb : PE X (.BoolOp .And (b :: rest) pos) tb) : PE X (.BoolOp .And (a :: b :: rest) pos) (a79 ta tb) := by
 intro pins s σ H Q I h
 refine BoolOp_and (thn (ha pins s σ H _ I h) fun v s1 ⟨x, H1, I1, r1, q1⟩ => ?_)
 obtain ⟨c, rfl, q1⟩ := q1
 cases r1
 refine wpAny_truthy_bool ?_
 cases c with
 | true => exact hb pins s1 σ H1 Q I1 q1
 | false => exact ⟨.bl false, H1, I1, rfl, q1⟩
theorem a88 (ha : PE X a ta) : PE X (.UnaryOp .Not a pos) (a9W ta) := by
 intro pins s σ H Q I h
 refine UnaryOp_ (thn (ha pins s σ H _ I h) fun v s1 ⟨x, H1, I1, r1, q1⟩ => ?_)
 obtain ⟨c, rfl, q1⟩ := q1
 cases r1
 exact not_of (wpAny_truthy_bool ⟨.bl (!c), H1, I1, rfl, q1⟩)
noncomputable def tIf (t : TT) (ta tb : TE) : TE := fun σ H Q => t σ H fun c H1 => if c = true then ta σ H1 Q else tb σ H1 Q
theorem b1E {c : Expr} (hc : PT X c tA) (ha : PE X a ta) (hb : PE X b tb) : PE X (.IfExp c a b pos) (tIf tA ta tb) := by
 intro pins s σ H Q I h
 refine wpAny_IfExp (thn (hc pins s σ H _ I h) fun d s1 ⟨H1, I1, q1⟩ => ?_)
 cases d with
 | true => exact ha pins s1 σ H1 Q I1 q1
 | false => exact hb pins s1 σ H1 Q I1 q1
end
end L2

namespace L2
open PySem PySem.Spec PyProof.Rows

noncomputable def SqL (K : PySem.W.Frag) (H : Hp) (a : Addr) (xs : List V) : Prop :=
 Rd H a (.lst xs) ∨
  ∃ (o : Obj) (its : Array Value) (n : Nat), K.lookup a = some o ∧ o.cls = .type "list" ∧ o.dict = none ∧ o.data = .seq its n ∧ its.size ≤ sizeLine ∧ Vals xs its.toList
noncomputable def SqT (K : PySem.W.Frag) (H : Hp) (a : Addr) (xs : List V) : Prop :=
 Rd H a (.tup xs) ∨
  ∃ (o : Obj) (its : Array Value) (n : Nat), K.lookup a = some o ∧ o.cls = .type "tuple" ∧ o.data = .seq its n ∧ its.size ≤ sizeLine ∧ Vals xs its.toList
noncomputable def b1Z : Value → Option V
 | .none => some .non
 | .bool b => some (.bl b)
 | .int i _ => some (.int i)
 | .str x _ => some (.str x)
 | .bytes b _ => some (.byt b)
 | .float b _ => some (.flt b)
 | .ref a => some (.ref a)
 | .type n => some (.ty n)
 | _ => none
theorem RelV.abs {x : V} {u : Value} (r : RelV x u) : b1Z u = some x := by
 cases x with
 | non => cases r; rfl
 | bl _ => cases r; rfl
 | int _ => obtain ⟨t, rfl⟩ := r; rfl
 | str _ => obtain ⟨t, rfl⟩ := r; rfl
 | byt _ => obtain ⟨t, rfl⟩ := r; rfl
 | flt _ => obtain ⟨t, rfl⟩ := r; rfl
 | ref _ => cases r; rfl
 | ty _ => cases r; rfl
theorem RelV.inj {x y : V} {u : Value} (r : RelV x u) (q : RelV y u) : x = y := Option.some.inj (r.abs.symm.trans q.abs)
theorem Vals.inj : ∀ {xs ys : List V} {us : List Value}, Vals xs us → Vals ys us → xs = ys
 | _, _, _, .nil, .nil => rfl
 | _, _, _, .cons r t, .cons r' t' => by rw [r.inj r', Vals.inj t t']
section
variable {X : Cx} {pins : List (Addr × Obj)} {σ : St} {H : Hp} {s : Shared} {a : Addr} {xs ys : List V}
theorem SqL.of {K : PySem.W.Frag} (h : H a = some (.lst xs)) : SqL K H a xs := .inl (.inl h)
theorem SqT.of {K : PySem.W.Frag} (h : H a = some (.tup xs)) : SqT K H a xs := .inl (.inl h)
theorem Inv.list (I : Inv X pins σ H s) (h : SqL X.K H a xs) : ∃ its : List Value, Vals xs its ∧ PlainL s.heap a its.toArray ∧ xs.length ≤ sizeLine := by
 rcases h with h | ⟨o, its, n, hk, hc, hd, hs, hz, r⟩
 ·obtain ⟨z, its, n, r, e⟩ := h.ok I.hok
  exact ⟨its, r, ⟨_, n, e, rfl, rfl, rfl⟩, z⟩
 ·refine ⟨its.toList, r, ⟨o, n, I.kIn a o hk, hc, hd, by simpa using hs⟩, ?_⟩
  have e := r.length
  simp only [Array.length_toList] at e
  omega
theorem Inv.tuple (I : Inv X pins σ H s) (h : SqT X.K H a xs) : ∃ its : List Value, Vals xs its ∧ IsTup s.heap a its.toArray ∧ xs.length ≤ sizeLine := by
 rcases h with h | ⟨o, its, n, hk, hc, hs, hz, r⟩
 ·obtain ⟨z, its, r, p⟩ := h.ok I.hok
  exact ⟨its, r, p, z⟩
 ·refine ⟨its.toList, r, ⟨o, I.kIn a o hk, hc, n, by simpa using hs⟩, ?_⟩
  have e := r.length
  simp only [Array.length_toList] at e
  omega
theorem Inv.list_inj (I : Inv X pins σ H s) (h : SqL X.K H a xs) (h' : SqL X.K H a ys) : xs = ys := by
 obtain ⟨its, r, ⟨o, n, e, _, _, d⟩, _⟩ := I.list h
 obtain ⟨its', r', ⟨o', n', e', _, _, d'⟩, _⟩ := I.list h'
 rw [e] at e'; cases e'
 rw [d] at d'
 injection d' with d1 _
 have : its = its' := by simpa using congrArg Array.toList d1
 subst this
 exact r.inj r'
theorem Inv.tuple_inj (I : Inv X pins σ H s) (h : SqT X.K H a xs) (h' : SqT X.K H a ys) : xs = ys := by
 obtain ⟨its, r, ⟨o, e, _, n, d⟩, _⟩ := I.tuple h
 obtain ⟨its', r', ⟨o', e', _, n', d'⟩, _⟩ := I.tuple h'
 rw [e] at e'; cases e'
 rw [d] at d'
 injection d' with d1 _
 have : its = its' := by simpa using congrArg Array.toList d1
 subst this
 exact r.inj r'
end

noncomputable abbrev Cx.wish (X : Cx) (E : Value → Shared → Prop) : Cx := { X with xe := E }
noncomputable abbrev Cx.nox (X : Cx) : Cx := X.wish fun _ _ => False
theorem Cx.Ok.wish {X : Cx} (ok : X.Ok) (E : Value → Shared → Prop) : (X.wish E).Ok :=
 ⟨ok.mod, ok.kind, ok.glob, ok.blt, ok.above, ok.inj, ok.has, ok.cab, ok.hd, ok.frames, ok.stk, ok.exf, ok.bs, ok.bsz, ok.noex, ok.exfs, ok.funs, ok.frf⟩
theorem Cx.Ok.unwish {X : Cx} {E : Value → Shared → Prop} (ok : (X.wish E).Ok) : X.Ok :=
 ⟨ok.mod, ok.kind, ok.glob, ok.blt, ok.above, ok.inj, ok.has, ok.cab, ok.hd, ok.frames, ok.stk, ok.exf, ok.bs, ok.bsz, ok.noex, ok.exfs, ok.funs, ok.frf⟩
section
variable {X : Cx} {pins : List (Addr × Obj)} {σ : St} {H : Hp} {s : Shared} {E : Value → Shared → Prop}
theorem Inv.wish (I : Inv X pins σ H s) (E : Value → Shared → Prop) : Inv (X.wish E) pins σ H s := ⟨I.ok.wish E, I.os, I.bare, I.base, I.loc, I.cell, I.free, I.freeC, I.pin, I.hok, I.len⟩
theorem Inv.unwish (I : Inv (X.wish E) pins σ H s) : Inv X pins σ H s := ⟨I.ok.unwish, I.os, I.bare, I.base, I.loc, I.cell, I.free, I.freeC, I.pin, I.hok, I.len⟩
theorem SP.unwish {D : Ends} {f : Flow} {s' : Shared} (h : SP (X.wish E) pins D f s') : SP X pins D f s' := by
 cases f with
 | next => obtain ⟨σ', H', I, q⟩ := h; exact ⟨σ', H', I.unwish, q⟩
 | brk => obtain ⟨σ', H', I, q⟩ := h; exact ⟨σ', H', I.unwish, q⟩
 | cont => obtain ⟨σ', H', I, q⟩ := h; exact ⟨σ', H', I.unwish, q⟩
 | ret u => obtain ⟨v, σ', H', I, r, q⟩ := h; exact ⟨v, σ', H', I.unwish, r, q⟩
theorem PSs.nox {st : List Stmt} {t : TS} (h : PSs X.nox st t) : PSs X st t := fun pins s σ H D I hw =>
 wpAny_mono (h pins s σ H D (I.wish _) hw) (fun _ _ q => q.unwish) fun _ _ z => False.elim z
end

section
variable {X : Cx} {st : Stmt} {rest : List Stmt} {t u : TS} {e : Expr} {te : TE} {pos : Pos}
noncomputable def b02 : TS := fun D σ H => D.nx σ H
noncomputable def a9h (t u : TS) : TS := fun D σ H => t { D with nx := u D } σ H
theorem b0B : PSs X [] b02 := fun _ _ σ H _ I h => wpAny_execs_nil ⟨σ, H, I, h⟩
theorem b0M (h1 : PS X st t) (h2 : PSs X rest u) : PSs X (st :: rest) (a9h t u) := by
 intro pins s σ H D I h
 refine wpAny_execs_cons (thn (h1 pins s σ H { D with nx := u D } I h) fun f s1 q => ?_)
 cases f with
 | next =>
  obtain ⟨σ', H', I', q⟩ := q
  exact h2 pins s1 σ' H' D I' q
 | ret v => exact q
 | brk => exact q
 | cont => exact q
theorem b3K (h1 : PS X st t) : PSs X [st] t := by
 intro pins s σ H D I h
 refine wpAny_execs_cons (thn (h1 pins s σ H D I h) fun f s1 q => ?_)
 cases f with
 | next => exact wpAny_execs_nil q
 | ret v => exact q
 | brk => exact q
 | cont => exact q
theorem Inv.quiet {pins : List (Addr × Obj)} {σ : St} {H : Hp} {s : Shared} (I : Inv X pins σ H s) : interactive X.env = false := by simp [interactive, I.ok.kind]
noncomputable def b0O (te : TE) : TS := fun D σ H => te σ H fun _ H1 => D.nx σ H1
theorem a8m (he : PE X e te) (hs : swapsWith e none pos.line X.env = pure false := by rfl) : PS X (.Expr e pos) (b0O te) := by
 intro pins s σ H D I h
 exact wpAny_Expr_any (thn (he pins s σ H _ I h) fun v s1 ⟨x, H1, I1, r1, q1⟩ => ⟨σ, H1, I1, q1⟩) I.quiet hs
noncomputable def b4h (te : TE) : TS := fun D σ H => te σ H D.rt
theorem b1R (he : PE X e te) : PS X (.Return (some e) pos) (b4h te) := by
 intro pins s σ H D I h
 exact wpAny_Return_some (thn (he pins s σ H _ I h) fun v s1 ⟨x, H1, I1, r1, q1⟩ => ⟨x, σ, H1, I1, r1, q1⟩)
noncomputable def b2w (c : TT) (t u : TS) : TS := fun D σ H => c σ H fun b H1 => if b = true then t D σ H1 else u D σ H1
theorem a8Q {c : Expr} {a b : List Stmt} {tc : TT} (hc : PT X c tc) (ha : PSs X a t) (hb : PSs X b u) : PS X (.If c a b pos) (b2w tc t u) := by
 intro pins s σ H D I h
 refine wpAny_If (thn (hc pins s σ H _ I h) fun d s1 ⟨H1, I1, q1⟩ => ?_)
 cases d with
 | true => exact ha pins s1 σ H1 D I1 q1
 | false => exact hb pins s1 σ H1 D I1 q1
end

noncomputable abbrev TG := V → St → Hp → (St → Hp → Prop) → Prop
noncomputable abbrev TGs := List V → St → Hp → (St → Hp → Prop) → Prop
noncomputable def PG (X : Cx) (target : Expr) (t : TG) : Prop :=
 ∀ (pins : List (Addr × Obj)) (s : Shared) (σ : St) (H : Hp) (v : V) (u : Value) (Q : St → Hp → Prop), Inv X pins σ H s → RelV v u → t v σ H Q →
  wpAny (model X.prog X.w) X.A (assign target X.env u) (fun _ s' => ∃ σ' H', Inv X pins σ' H' s' ∧ Q σ' H') X.xe s
noncomputable def PGs (X : Cx) (ts : List Expr) (t : TGs) : Prop :=
 ∀ (pins : List (Addr × Obj)) (s : Shared) (σ : St) (H : Hp) (vs : List V) (us : List Value) (Q : St → Hp → Prop), Inv X pins σ H s → Vals vs us → t vs σ H Q →
  wpAny (model X.prog X.w) X.A (assignInOrder ((assignEach ts X.env).map (·.2)) us) (fun _ s' => ∃ σ' H', Inv X pins σ' H' s' ∧ Q σ' H') X.xe s
section
variable {X : Cx} {pos : Pos}
noncomputable def V9 (i : Nat) : TG := fun v σ H Q => Q (σ.set i (some v)) H
theorem C2 {i : Nat} {x : Str} (hN : X.N.Nodup) (hi : X.N[i]? = some x) (hx : Loc X.env.scope x) (hf : X.fn x = true ∨ X.env.scope.names.lookup x = some .local := by first | exact .inl rfl | exact .inr rfl | assumption) : PG X (.Name x pos) (V9 i) := by
 intro pins s σ H v u Q I r h
 exact wpAny_assign_Name (a1O I hN hi hx r (fun s' I' => ⟨_, H, I', h⟩) hf)
noncomputable def a5g : TGs := fun vs σ H Q => vs = [] ∧ Q σ H
noncomputable def a3F (t : TG) (u : TGs) : TGs := fun vs σ H Q => ∃ v r, vs = v :: r ∧ t v σ H fun σ' H' => u r σ' H' Q
theorem a5t : PGs X [] a5g := by
 intro pins s σ H vs us Q I r h
 obtain ⟨e, h⟩ := h
 subst e
 cases r
 exact assignInOrder_nil ⟨σ, H, I, h⟩
theorem a4J {e : Expr} {es : List Expr} {t : TG} {u : TGs} (h1 : PG X e t) (h2 : PGs X es u)
  (hs : (assignEach (e :: es) X.env).map (·.2) = assign e X.env :: (assignEach es X.env).map (·.2) := by rfl) : PGs X (e :: es) (a3F t u) := by
 intro pins s σ H vs us Q I r h
 obtain ⟨v, vr, e1, h⟩ := h
 subst e1
 cases r with
 | cons r rr =>
  rw [hs]
  refine assignInOrder_cons (thn (h1 pins s σ H _ _ _ I r h) fun _ s1 ⟨σ1, H1, I1, q1⟩ => ?_)
  exact h2 pins s1 σ1 H1 _ _ Q I1 rr q1
noncomputable def a6R (K : PySem.W.Frag) (n : Nat) (t : TGs) : TG := fun v σ H Q => ∃ a xs, v = .ref a ∧ SqT K H a xs ∧ xs.length = n ∧ t xs σ H Q
theorem a5d {es : List Expr} {k : Nat} {t : TGs} {n : Nat} (hc : X.calm = true) (h : PGs X es t)
  (hn : (assignEach es X.env).length = n := by rfl) (hst : (assignEach es X.env).findIdx? (·.1) = none := by rfl) : PG X (.Tuple es k pos) (a6R X.K n t) := by
 intro pins s σ H v u Q I r hw
 obtain ⟨a, xs, e1, hq, hl, hw⟩ := hw
 subst e1
 cases r
 obtain ⟨its, rv, ht, hz⟩ := I.tuple hq
 refine assign_Tuple_tuple (I.ok.hd hc) ht (by simp [hn, ← hl, rv.length]) hst fun h' hx => ?_
 have I1 : Inv X pins σ H { s with heap := h' } := I.kept (t' := s.toks) fun b o e => hx b o (Nat.ne_of_lt (Heap.lt_size e)) e
 exact h pins _ σ H xs _ Q I1 (by simpa using rv) hw
noncomputable def a4M (te : TE) (g : TG) : TS := fun D σ H => te σ H fun x H1 => g x σ H1 D.nx
theorem a9I {tg e : Expr} {te : TE} {g : TG} (he : PE X e te) (hg : PG X tg g) (hs : swapsWithSole [tg] e pos.line X.env = pure false := by rfl) (hw : swappedStores [tg] e X.env = pure none := by rfl)
  (h1 : (assignEach [tg] X.env).map (·.2) = [assign tg X.env] := by rfl) : PS X (.Assign [tg] e pos) (a4M te g) := by
 intro pins s σ H D I h
 refine wpAny_Assign_stores (thn (he pins s σ H _ I h) fun v s1 ⟨x, H1, I1, r1, q1⟩ => ?_) hs hw
 rw [h1]
 exact thn (hg pins s1 σ H1 x v _ I1 r1 q1) fun _ s2 q => q
theorem a7f {i : Nat} {x : Str} {e : Expr} {te : TE} {pos' : Pos} (hN : X.N.Nodup) (hi : X.N[i]? = some x) (hx : Loc X.env.scope x) (he : PE X e te) (hs : swapsWith e (some (.Name x pos')) pos.line X.env = pure false := by rfl) (hf : X.fn x = true ∨ X.env.scope.names.lookup x = some .local := by first | exact .inl rfl | exact .inr rfl | assumption) :
  PS X (.Assign [.Name x pos'] e pos) (a4M te (V9 i)) := by
 intro pins s σ H D I h
 refine wpAny_Assign_Name (thn (he pins s σ H _ I h) fun v s1 ⟨y, H1, I1, r1, q1⟩ => ?_) hs
 exact a1O I1 hN hi hx r1 (fun s2 I2 => ⟨_, H1, I2, q1⟩) hf
noncomputable def b3m (i j : Nat) (ta : TA) : TS := fun D σ H => ta σ H fun vs H1 => ∃ v w, vs = [v, w] ∧ D.nx ((σ.set i (some v)).set j (some w)) H1
theorem b03 {i j : Nat} {x y : Str} {a b : Expr} {ta : TA} {px py pt : Pos} {kt k2 pt2} (hc : X.calm = true) (hN : X.N.Nodup) (hi : X.N[i]? = some x) (hj : X.N[j]? = some y) (hij : i ≠ j)
  (hx : X.env.scope.names.lookup x = some .local) (hy : X.env.scope.names.lookup y = some .local) (ha : PA X [a, b] ta)
  (hw : swappedStores [.Tuple [.Name x px, .Name y py] kt pt] (.Tuple [a, b] k2 pt2) X.env = pure (some [x, y]))
  (hs : swapsWithSole [.Tuple [.Name x px, .Name y py] kt pt] (.Tuple [a, b] k2 pt2) pos.line X.env = pure false := by rfl) :
  PS X (.Assign [.Tuple [.Name x px, .Name y py] kt pt] (.Tuple [a, b] k2 pt2) pos) (b3m i j ta) := by
 intro pins s σ H D I h
 rw [exec_Assign_arm]
 refine wpAny_bind (wpAny_standAt ?_)
 rw [hs]
 refine wpAny_bind (wpAny_pure ?_)
 rw [if_neg (by decide)]
 refine wpAny_bind (Tuple_ (thn (ha _ pins s σ H _ I h) fun us s1 ⟨vs, H1, I1, r1, q1⟩ => ?_))
 obtain ⟨v, w, e1, q1⟩ := q1
 subst e1
 obtain ⟨u1, u2, rfl, rv, rw'⟩ : ∃ u1 u2, us = [u1, u2] ∧ RelV v u1 ∧ RelV w u2 := by
  cases r1 with
  | cons p q =>
   cases q with
   | cons p' q' =>
    cases q'
    exact ⟨_, _, rfl, p, p'⟩
 refine wpAny_newObj_type ?_ (by show 2 ≤ sizeLine; decide)
 have I2 : Inv X pins σ H1 { s1 with heap := s1.heap.push { cls := .type "tuple", data := .seq [u1, u2].toArray } } := I1.kept (t' := s1.toks) fun b o e => Heap.get?_push_of_some _ e
 rw [hw]
 refine wpAny_bind (wpAny_pure ?_)
 show wpAny (model X.prog X.w) X.A (do rule "assign.swapped-stores"; let items ← unpackItems (.ref s1.heap.objs.size) 2 none; assignInOrder [fun v => bindName X.env y v, fun v => bindName X.env x v] items.reverse; pure Flow.next) _ _ _
 refine wpAny_bind (wpAny_rule (wpAny_bind (unpackItems_tuple (items := #[u1, u2]) (I.ok.hd hc) (IsTup.new s1.heap _) fun h' hx' => ?_)))
 have I3 := I2.kept (h' := h') (t' := s1.toks) fun b o e => hx' b o (Nat.ne_of_lt (Heap.lt_size e)) e
 show wpAny _ _ (assignInOrder [fun v => bindName X.env y v, fun v => bindName X.env x v] [u2, u1] >>= fun _ => pure Flow.next) _ _ _
 refine wpAny_bind (assignInOrder_cons (wpAny_bindName (a1O I3 hN hj (.inl hy) rw' (fun s2 I4 => ?_) (.inr hy))))
 refine assignInOrder_cons (wpAny_bindName (a1O I4 hN hi (.inl hx) rv (fun s3 I5 => assignInOrder_nil (wpAny_pure ?_)) (.inr hx)))
 rw [List.set_comm _ _ (Ne.symm hij)] at I5
 exact ⟨_, H1, I5, q1⟩
end

section
variable {X : Cx} {pos : Pos}
noncomputable def b0J (c : TT) (tb : TS) : TS := fun D σ H => ∃ W : Nat → St → Hp → Prop, (∃ m, W m σ H) ∧ ∀ m σ H, W m σ H →
 c σ H fun b H1 => if b = true then ∃ N : St → Hp → Prop, (∀ σ' H', N σ' H' → ∃ m', m' < m ∧ W m' σ' H') ∧ tb { D with nx := N, ct := N, bk := D.nx } σ H1 else D.nx σ H1
theorem a9Z {c : Expr} {body : List Stmt} {tc : TT} {tb : TS} (hp : PassesOwn (model X.prog X.w) X.A X.env X.xe) (hc : PT X c tc) (hb : PSs X body tb) : PS X (.While c body [] pos) (b0J tc tb) := by
 intro pins s σ H D I h
 obtain ⟨W, ⟨m0, w0⟩, turn⟩ := h
 refine wpAny_While (codeAny_whileLoop (fun n s' => ∃ σ' H', Inv X pins σ' H' s' ∧ W n σ' H') ?_ m0 ⟨σ, H, I, w0⟩)
 rintro n s1 ⟨σ1, H1, I1, w1⟩
 refine wpAny_passesOwn hp (thn (hc pins s1 σ1 H1 _ I1 (turn n σ1 H1 w1)) fun b s2 ⟨H2, I2, q2⟩ => ?_)
 cases b with
 | true =>
  obtain ⟨N, hN, q2⟩ := q2
  rw [if_pos rfl]
  refine wpAny_passesOwn hp (thn (hb pins s2 σ1 H2 _ I2 q2) fun f s3 q3 => ?_)
  cases f with
  | next =>
   obtain ⟨σ3, H3, I3, n3⟩ := q3
   obtain ⟨m', hm, w3⟩ := hN σ3 H3 n3
   exact ⟨m', hm, σ3, H3, I3, w3⟩
  | cont =>
   obtain ⟨σ3, H3, I3, n3⟩ := q3
   obtain ⟨m', hm, w3⟩ := hN σ3 H3 n3
   exact ⟨m', hm, σ3, H3, I3, w3⟩
  | brk => exact q3
  | ret v => exact q3
 | false =>
  rw [if_neg Bool.false_ne_true]
  exact wpAny_execs_nil ⟨σ1, H2, I2, q2⟩
end

structure It where
 go : Nat → Hp → Prop
 yld : Nat → Hp → V → Hp → Prop
 stop : Nat → Hp → Prop
noncomputable def R6 (X : Cx) (pins : List (Addr × Obj)) (H : Hp) (b : Addr) : Prop :=
 H b = none ∧ b ≠ X.env.locals ∧ b ∉ X.fs ∧ (b ∈ X.ex ∨ X.s₀.heap.objs.size ≤ b) ∧ (∀ x c, X.env.cells.lookup x = some c → c ≠ b) ∧ ∀ p ∈ X.pn ++ pins, p.1 ≠ b
theorem Inv.fpOk {X : Cx} {pins : List (Addr × Obj)} {σ : St} {H H' : Hp} {s : Shared} {b : Addr} (I : Inv X pins σ H s) (hb : s.heap.objs.size ≤ b) (hn : H' b = none) : R6 X pins H' b := by
 refine ⟨hn, Nat.ne_of_gt (Nat.lt_of_lt_of_le I.lt hb), I.nofs hb, .inr (Nat.le_trans I.sz hb), fun x c e z => ?_, fun p hp z => ?_⟩
 ·obtain ⟨v, q⟩ := I.cell x c e
  exact absurd (Nat.lt_of_lt_of_le q.lt (by rw [z]; exact hb)) (Nat.lt_irrefl _)
 ·exact absurd (Nat.lt_of_lt_of_le (Heap.lt_size (I.pin p hp).1) (by rw [z]; exact hb)) (Nat.lt_irrefl _)
structure Turn (P : Program) (w : World) (K : PySem.W.Frag) (tg : Expr) (J : It) (fp : List Addr) (it : Addr) (tn : Nat → Heap → Prop) : Prop where
 mem : it ∈ fp
 obj : ∀ i h, tn i h → ∀ b ∈ fp, ∃ o, h.get? b = some o ∧ ∀ v, o.data ≠ .cell v
 keep : ∀ i h h', tn i h → (∀ b ∈ fp, ∀ o, h.get? b = some o → h'.get? b = some o) → tn i h'
 item : ∀ (X : Cx), X.prog = P → X.w = w → X.K = K → X.calm = true → ∀ (i : Nat) (pins : List (Addr × Obj)) (s : Shared) (σ : St) (H : Hp) (E : Value → Shared → Prop), Inv X pins σ H s → (∀ b ∈ fp, R6 X pins H b) → tn i s.heap → J.go i H →
  wpAny (model P w) X.A (pyNext (.ref it)) (fun r s1 => ∃ u, r = some u ∧
   wpAny (model P w) X.A (letOwnedTupleGo tg (.ref it) u) (fun _ s2 => ∃ x H', Inv X pins σ H' s2 ∧ RelV x u ∧ J.yld i H x H' ∧ tn (i + 1) s2.heap ∧ ∀ b ∈ fp, H' b = none) E s1) E s
 done : ∀ (X : Cx), X.prog = P → X.w = w → X.K = K → X.calm = true → ∀ (i : Nat) (pins : List (Addr × Obj)) (s : Shared) (σ : St) (H : Hp) (E : Value → Shared → Prop), Inv X pins σ H s → (∀ b ∈ fp, R6 X pins H b) → tn i s.heap → J.stop i H →
  wpAny (model P w) X.A (pyNext (.ref it)) (fun r s1 => r = none ∧ Inv X pins σ H s1) E s
 self : ∀ (A : Around) (i : Nat) (s : Shared) (Q : Value → Shared → Prop) (E : Value → Shared → Prop), tn i s.heap → Q (.ref it) s → wpAny (model P w) A (pyIter (.ref it)) Q E s
noncomputable abbrev TI := St → Hp → (It → Hp → Prop) → Prop
noncomputable def PIE (X : Cx) (pins : List (Addr × Obj)) (σ : St) (tg : Expr) (R : It → Hp → Prop) (itv : Value) (s2 : Shared) : Prop :=
 ∃ (it : Addr) (fp : List Addr) (tn : Nat → Heap → Prop) (J : It) (H' : Hp), itv = .ref it ∧ Inv X pins σ H' s2 ∧ Turn X.prog X.w X.K tg J fp it tn ∧ tn 0 s2.heap ∧ (∀ b ∈ fp, R6 X pins H' b) ∧ R J H'
noncomputable def PI (X : Cx) (tg iter : Expr) (wi : TI) : Prop :=
 ∀ (pins : List (Addr × Obj)) (s : Shared) (σ : St) (H : Hp) (R : It → Hp → Prop), Inv X pins σ H s → wi σ H R →
  wpAny (model X.prog X.w) X.A (eval iter X.env) (fun v s1 => wpAny (model X.prog X.w) X.A (pyIter v) (PIE X pins σ tg R) X.xe s1) X.xe s

theorem a4O {M : Model} {A : Around} {E : Value → Shared → Prop} {s : Shared} {tg : Expr} {it : Addr} {u : Value} {o : Obj} {n : String} {vs : Array Value} {Q : Unit → Shared → Prop} (ho : s.heap.get? it = some o) (hc : o.cls = .type n) (hd : o.data = .fields vs)
    (hn : ["enumerate", "zip", "dict_itemiterator", "dict_reverseitemiterator", "odict_iterator", "itertools.zip_longest", "itertools.pairwise"].contains n = false) (hQ : Q () s) : wpAny M A (letOwnedTupleGo tg (.ref it) u) Q E s := by
  unfold letOwnedTupleGo
  cases tg <;> first
    | exact wpAny_pure hQ
    | (cases u <;> first
        | exact wpAny_pure hQ
        | (refine wpAny_bind (wpAny_load ho ?_)
           rw [hc, hd]
           show wpAny M A (if (["enumerate", "zip", "dict_itemiterator", "dict_reverseitemiterator", "odict_iterator", "itertools.zip_longest", "itertools.pairwise"].contains n && vs[0]? == some (rawInt _)) = true then _ else _) Q E s
           rw [if_neg (by intro h; rw [hn, Bool.false_and] at h; cases h)]
           exact wpAny_pure hQ))

noncomputable def Itl (K : PySem.W.Frag) (a : Addr) : It :=
 ⟨fun i H => ∃ xs x, SqL K H a xs ∧ xs[i]? = some x, fun i H x H' => H' = H ∧ ∀ xs, SqL K H a xs → xs[i]? = some x, fun i H => ∃ xs, SqL K H a xs ∧ xs.length ≤ i⟩
noncomputable def Itt (K : PySem.W.Frag) (a : Addr) : It :=
 ⟨fun i H => ∃ xs x, SqT K H a xs ∧ xs[i]? = some x, fun i H x H' => H' = H ∧ ∀ xs, SqT K H a xs → xs[i]? = some x, fun i H => ∃ xs, SqT K H a xs ∧ xs.length ≤ i⟩
noncomputable def Itr (lo : Int) (n : Nat) : It := ⟨fun i _ => i < n, fun i H x H' => H' = H ∧ x = .int (lo + i), fun i _ => n ≤ i⟩
theorem b0a {P : Program} {w : World} {K : PySem.W.Frag} {tg : Expr} (a it : Addr) : Turn P w K tg (Itl K a) [it] it (fun i h => h.IsListIter it a i) where
 mem := by simp
 obj := fun i h st b hb => by
  have e : b = it := by simpa using hb
  subst e
  obtain ⟨o, e, c, d⟩ := st
  exact ⟨o, e, fun v z => by rw [d] at z; cases z⟩
 keep := fun i h h' st k => st.at fun o e => k it (by simp) o e
 item := by
  intro X hP hw hK hc i pins s σ H E I hf st hg
  subst hP hw hK
  obtain ⟨xs, x, hq, hx⟩ := hg
  obtain ⟨its, rv, p, hz⟩ := I.list hq
  obtain ⟨u, hu, ru⟩ := rv.get hx
  obtain ⟨f0, f1, f2, f3, f4, f5⟩ := hf it (by simp)
  refine wpAny_pyNext_list_item st p.isList (x := u) (by simpa using hu) fun h' st' sb => ?_
  have I1 : Inv X pins σ H { s with heap := h' } := I.turned (t' := s.toks) (fun b o hb e => (sb.2 b hb).trans e) f0 f1 f3 f4 f5
  obtain ⟨o, e, c, d⟩ := id st'
  exact ⟨u, rfl, a4O (s := { s with heap := h' }) e c d (by decide) ⟨x, H, I1, ru, ⟨rfl, fun ys hy => by rw [I.list_inj hy hq]; exact hx⟩, st', fun b hb => (hf b hb).1⟩⟩
 done := by
  intro X hP hw hK hc i pins s σ H E I hf st hg
  subst hP hw hK
  obtain ⟨xs, hq, hx⟩ := hg
  obtain ⟨its, rv, p, hz⟩ := I.list hq
  obtain ⟨f0, f1, f2, f3, f4, f5⟩ := hf it (by simp)
  have hl := rv.length
  exact wpAny_pyNext_list_end (I.ok.hd hc) st p.isList (by simp; omega) fun h' eb => ⟨rfl, I.turned (t' := s.toks) (fun b o hb e => eb b o hb e) f0 f1 f3 f4 f5⟩
 self := fun _ _ _ _ _ st h => wpAny_pyIter_listiter st h
theorem b0p {P : Program} {w : World} {K : PySem.W.Frag} {tg : Expr} (a it : Addr) : Turn P w K tg (Itt K a) [it] it (fun i h => h.IsTupleIter it a i) where
 mem := by simp
 obj := fun i h st b hb => by
  have e : b = it := by simpa using hb
  subst e
  obtain ⟨o, e, c, d⟩ := st
  exact ⟨o, e, fun v z => by rw [d] at z; cases z⟩
 keep := fun i h h' st k => st.at fun o e => k it (by simp) o e
 item := by
  intro X hP hw hK hc i pins s σ H E I hf st hg
  subst hP hw hK
  obtain ⟨xs, x, hq, hx⟩ := hg
  obtain ⟨its, rv, p, hz⟩ := I.tuple hq
  obtain ⟨u, hu, ru⟩ := rv.get hx
  obtain ⟨f0, f1, f2, f3, f4, f5⟩ := hf it (by simp)
  refine wpAny_pyNext_tuple_item st (show s.heap.IsTuple a its.toArray from p) (x := u) (by simpa using hu) fun h' st' sb => ?_
  have I1 : Inv X pins σ H { s with heap := h' } := I.turned (t' := s.toks) (fun b o hb e => (sb.2 b hb).trans e) f0 f1 f3 f4 f5
  obtain ⟨o, e, c, d⟩ := id st'
  exact ⟨u, rfl, a4O (s := { s with heap := h' }) e c d (by decide) ⟨x, H, I1, ru, ⟨rfl, fun ys hy => by rw [I.tuple_inj hy hq]; exact hx⟩, st', fun b hb => (hf b hb).1⟩⟩
 done := by
  intro X hP hw hK hc i pins s σ H E I hf st hg
  subst hP hw hK
  obtain ⟨xs, hq, hx⟩ := hg
  obtain ⟨its, rv, p, hz⟩ := I.tuple hq
  obtain ⟨f0, f1, f2, f3, f4, f5⟩ := hf it (by simp)
  have hl := rv.length
  exact wpAny_pyNext_tuple_end (I.ok.hd hc) st (show s.heap.IsTuple a its.toArray from p) (by simp; omega) fun h' eb => ⟨rfl, I.turned (t' := s.toks) (fun b o hb e => eb b o hb e) f0 f1 f3 f4 f5⟩
 self := fun _ _ _ _ _ st h => wpAny_pyIter_tupleiter st h
theorem a8H {P : Program} {w : World} {K : PySem.W.Frag} {tg : Expr} (it : Addr) (lo : Int) (n : Nat) : Turn P w K tg (Itr lo n) [it] it (fun i h => IsRangeIter h it (lo + (i : Nat) * 1) ((n : Int) - (i : Nat)) 1) where
 mem := by simp
 obj := fun i h st b hb => by
  have e : b = it := by simpa using hb
  subst e
  exact ⟨_, st, fun v z => by
   have z' : Data.fields _ = Data.cell v := z
   cases z'⟩
 keep := fun i h h' st k => k it (by simp) _ st
 item := by
  intro X hP hw hK hc i pins s σ H E I hf st hg
  subst hP hw hK
  obtain ⟨f0, f1, f2, f3, f4, f5⟩ := hf it (by simp)
  have W := Walks.range (prog := X.prog) (w := X.w) (I.ok.hd hc) it lo 1 n
  refine W.item i s _ _ hg st fun v h' tk hv st' kk => ?_
  obtain ⟨t, rfl⟩ := hv
  have I1 : Inv X pins σ H { s with heap := h', toks := tk } := I.turned (fun b o hb e => kk b o (by simpa using hb) e) f0 f1 f3 f4 f5
  refine ⟨_, rfl, a4O (s := { s with heap := h', toks := tk }) (n := "range_iterator") st' rfl rfl (by decide) ⟨.int (lo + i), H, I1, ⟨t, ?_⟩, ⟨rfl, rfl⟩, st', fun b hb => (hf b hb).1⟩⟩
  rw [Int.mul_one]
 done := by
  intro X hP hw hK hc i pins s σ H E I hf st hg
  subst hP hw hK
  obtain ⟨f0, f1, f2, f3, f4, f5⟩ := hf it (by simp)
  exact wpAny_pyNext_range_end (I.ok.hd hc) st (by have : n ≤ i := hg; omega) fun h' eb => ⟨rfl, I.turned (t' := s.toks) (fun b o hb e => eb b o hb e) f0 f1 f3 f4 f5⟩
 self := fun _ _ _ _ _ st h => wpAny_pyIter_rangeiter st h
end L2

namespace L2
open PySem PySem.Spec PyProof.Rows
section
variable {X : Cx} {tg : Expr}
theorem b1K {pins : List (Addr × Obj)} {σ : St} {H : Hp} {s : Shared} {R : It → Hp → Prop} {E : Value → Shared → Prop} {lo hi : Int} {t u v : Tok} {tk : Nat} (I : Inv X pins σ H s) (h1 : -(2 ^ 62) ≤ lo) (h2 : lo < 2 ^ 62) (h3 : -(2 ^ 62) ≤ hi) (h4 : hi < 2 ^ 62)
  (q : R (Itr lo (hi - lo).toNat) H) : wpAny (model X.prog X.w) X.A (pyIter (.ref s.heap.objs.size)) (PIE X pins σ tg R) E { s with heap := s.heap.push { cls := .type "range", data := .fields #[.int lo t, .int hi u, .int 1 v] }, toks := tk } := by
 refine wpAny_pyIter_range (IsRange.new ..) (small_one h1 h2 h3 h4) ?_
 have I1 : Inv X pins σ H { s with heap := s.heap.push { cls := .type "range", data := .fields #[.int lo t, .int hi u, .int 1 v] }, toks := tk } := I.kept fun b o e => Heap.get?_push_of_some _ e
 refine ⟨(s.heap.push { cls := .type "range", data := .fields #[.int lo t, .int hi u, .int 1 v] }).objs.size, [(s.heap.push { cls := .type "range", data := .fields #[.int lo t, .int hi u, .int 1 v] }).objs.size], _, _, H, rfl,
  I1.kept (t' := tk) fun b o e => Heap.get?_push_of_some _ e, a8H _ lo (hi - lo).toNat, ?_, fun b hb => ?_, q⟩
 ·have e1 : lo + ((0 : Nat) : Int) * 1 = lo := by simp
  have e2 : (((hi - lo).toNat : Nat) : Int) - ((0 : Nat) : Int) = Builtin.Range.rangeSize lo hi 1 := by rw [rangeSize_one]; split <;> omega
  show IsRangeIter _ _ (lo + ((0 : Nat) : Int) * 1) ((((hi - lo).toNat : Nat) : Int) - ((0 : Nat) : Int)) 1
  rw [e1, e2]
  exact Heap.get?_push_size _ rfl
 ·have e : b = (s.heap.push { cls := .type "range", data := .fields #[.int lo t, .int hi u, .int 1 v] }).objs.size := by simpa using hb
  subst e
  exact I1.fpOk (Nat.le_refl _) (I1.hok.fresh (Nat.le_refl _))
noncomputable def b0I (ta : TA) : TI := fun σ H R => ta σ H fun vs H1 => ∃ j : Int, vs = [.int j] ∧ -(2 ^ 62) ≤ j ∧ j < 2 ^ 62 ∧ R (Itr 0 j.toNat) H1
theorem a63 {a : Expr} {ta : TA} {p pos : Pos} (hg : Gl X "range") (hm : X.mg "range" = none) (ha : PA X [a] ta) (hs : starEach [a] X.env = [(false, eval a X.env)] := by rfl) : PI X tg (.Call (.Name "range" p) [a] [] pos) (b0I ta) := by
 intro pins s σ H R I h
 refine Call_ (a0f I hg hm boot_range (PyProof.Rows.callWith_type1 (thn (ha pos pins s σ H _ I h) fun us s1 ⟨vs, H1, I1, r1, q1⟩ => ?_) hs rfl))
 obtain ⟨j, e, q1, q2, q⟩ := q1
 subst e
 cases r1 with
 | cons r rr =>
  cases rr
  obtain ⟨t, rfl⟩ := r
  exact call_range_1 (b1K I1 (by first | decide | omega) (by first | decide | omega) q1 q2 (by simpa using q))
noncomputable def b3h (wi : TI) (g : TG) (tb : TS) : TS := fun D σ H => wi σ H fun J H1 => ∃ W : Nat → Nat → St → Hp → Prop, (∃ m, W 0 m σ H1) ∧ ∀ i m σ H, W i m σ H →
 (J.stop i H ∧ D.nx σ H) ∨ (J.go i H ∧ ∃ N : St → Hp → Prop, (∀ σ' H', N σ' H' → ∃ m', m' < m ∧ W (i + 1) m' σ' H') ∧ ∀ x H', J.yld i H x H' → g x σ H' fun σ2 H2 => tb { D with nx := N, ct := N, bk := D.nx } σ2 H2)
noncomputable def a0I (fp : List Addr) (h : Heap) : List (Addr × Obj) := fp.filterMap fun b => (h.get? b).map fun o => (b, o)
theorem a1B {fp : List Addr} {h : Heap} {b : Addr} {o : Obj} (hb : b ∈ fp) (e : h.get? b = some o) : (b, o) ∈ a0I fp h := List.mem_filterMap.mpr ⟨b, hb, by rw [e]; rfl⟩
theorem b0K {fp : List Addr} {h : Heap} {p : Addr × Obj} (hp : p ∈ a0I fp h) : p.1 ∈ fp ∧ h.get? p.1 = some p.2 := by
 obtain ⟨b, hb, e⟩ := List.mem_filterMap.mp hp
 cases q : h.get? b with
 | none => rw [q] at e; cases e
 | some o =>
  rw [q] at e
  have e' : (b, o) = p := Option.some.inj e
  subst e'
  exact ⟨hb, q⟩
theorem Inv.pinned {pins : List (Addr × Obj)} {σ : St} {H : Hp} {s : Shared} {fp : List Addr} (I : Inv X pins σ H s) (hf : ∀ b ∈ fp, R6 X pins H b) (ho : ∀ b ∈ fp, ∃ o, s.heap.get? b = some o ∧ ∀ v, o.data ≠ .cell v) : Inv X (pins ++ a0I fp s.heap) σ H s :=
 I.pins_of fun p hp => (List.mem_append.mp hp).elim (fun z => I.pin p (List.mem_append_right _ z)) fun z => by
  obtain ⟨hb, e⟩ := b0K z
  obtain ⟨f0, f1, f2, _⟩ := hf p.1 hb
  obtain ⟨o, e', d⟩ := ho p.1 hb
  rw [e] at e'; cases e'
  exact ⟨e, f0, f1, f2, d⟩
theorem Inv.unpinned {pins pl : List (Addr × Obj)} {σ : St} {H : Hp} {s : Shared} (I : Inv X (pins ++ pl) σ H s) : Inv X pins σ H s := I.pins_of fun p hp => I.pin p (List.mem_append_right _ (List.mem_append_left _ hp))
theorem a6O {iter : Expr} {body : List Stmt} {wi : TI} {g : TG} {tb : TS} {pos : Pos} (hp : PassesOwn (model X.prog X.w) X.A X.env X.xe) (hc : X.calm = true) (hi : PI X tg iter wi) (hg : PG X tg g) (hb : PSs X body tb)
  (hs : ∀ x, foldedSetIterable iter X.env x = pure x := by intro _; rfl) : PS X (.For tg iter body [] pos) (b3h wi g tb) := by
 intro pins s σ H D I h
 refine wpAny_For (thn (hi pins s σ H _ I h) fun v s1 h1 => thn h1 fun itv s2 h2 => ?_) hs
 obtain ⟨it, fp, tn, J, H2, e, I2, T, st2, f2, W, ⟨m0, w0⟩, turn⟩ := h2
 subst e
 have stat : ∀ {H' : Hp}, (∀ b ∈ fp, H' b = none) → ∀ b ∈ fp, R6 X pins H' b := fun hn b hb => ⟨hn b hb, (f2 b hb).2⟩
 refine codeAny_forLoop_any (fun n s' => ∃ i σ' H', Inv X pins σ' H' s' ∧ tn i s'.heap ∧ (∀ b ∈ fp, H' b = none) ∧ W i n σ' H') ?_ m0 ⟨0, σ, H2, I2, st2, fun b hb => (f2 b hb).1, w0⟩
 rintro n s3 ⟨i, σ3, H3, I3, st3, fr3, w3⟩
 rcases turn i n σ3 H3 w3 with ⟨stop, qn⟩ | ⟨go, N, hN, step⟩
 ·refine wpAny_passesOwn hp (thn (T.done X rfl rfl rfl hc i pins s3 σ3 H3 X.xe I3 (stat fr3) st3 stop) fun r s4 ⟨hr, I4⟩ => ?_)
  subst hr
  exact wpAny_execs_nil ⟨σ3, H3, I4, qn⟩
 ·refine wpAny_passesOwn hp (thn (T.item X rfl rfl rfl hc i pins s3 σ3 H3 X.xe I3 (stat fr3) st3 go) fun r s4 ⟨u, hr, h4⟩ => ?_)
  subst hr
  refine wpAny_passesOwn hp (thn h4 fun _ s5 ⟨x, H5, I5, r5, y5, st5, fr5⟩ => ?_)
  have I5' := I5.pinned (stat fr5) (T.obj _ _ st5)
  refine wpAny_passesOwn hp (thn (hg _ s5 σ3 H5 x u _ I5' r5 (step x H5 y5)) fun _ s6 ⟨σ6, H6, I6, q6⟩ => ?_)
  refine wpAny_passesOwn hp (thn (hb _ s6 σ6 H6 _ I6 q6) fun f s7 q7 => ?_)
  have again : ∀ {σ7 : St} {H7 : Hp}, Inv X (pins ++ a0I fp s5.heap) σ7 H7 s7 → N σ7 H7 → ∃ m, m < n ∧ ∃ i σ' H', Inv X pins σ' H' s7 ∧ tn i s7.heap ∧ (∀ b ∈ fp, H' b = none) ∧ W i m σ' H' := fun {σ7 H7} I7 n7 => by
   obtain ⟨m', hm, w7⟩ := hN σ7 H7 n7
   refine ⟨m', hm, i + 1, σ7, H7, I7.unpinned, T.keep _ _ _ st5 fun b hb o e => (I7.pin (b, o) (List.mem_append_right _ (List.mem_append_right _ (a1B hb e)))).1, fun b hb => ?_, w7⟩
   obtain ⟨o, e, d⟩ := T.obj _ _ st5 b hb
   exact (I7.pin (b, o) (List.mem_append_right _ (List.mem_append_right _ (a1B hb e)))).2.1
  cases f with
  | next => obtain ⟨σ7, H7, I7, n7⟩ := q7; exact again I7 n7
  | cont => obtain ⟨σ7, H7, I7, n7⟩ := q7; exact again I7 n7
  | brk => obtain ⟨σ7, H7, I7, q7⟩ := q7; exact ⟨σ7, H7, I7.unpinned, q7⟩
  | ret v => obtain ⟨x7, σ7, H7, I7, r7, q7⟩ := q7; exact ⟨x7, σ7, H7, I7.unpinned, r7, q7⟩
end

theorem a8V {K : PySem.W.Frag} {a : Addr} {xs : List V} {g : TG} {tb : TS} {D : Ends} {σ : St} {H : Hp} (Pv : Nat → St → Hp → Prop) (h0 : Pv 0 σ H) (hl : ∀ i σ H, i ≤ xs.length → Pv i σ H → SqL K H a xs)
  (hs : ∀ i x σ H, xs[i]? = some x → Pv i σ H → g x σ H fun σ2 H2 => tb { D with nx := Pv (i + 1), ct := Pv (i + 1), bk := D.nx } σ2 H2) (hd : ∀ σ H, Pv xs.length σ H → D.nx σ H) :
  ∃ W : Nat → Nat → St → Hp → Prop, (∃ m, W 0 m σ H) ∧ ∀ i m σ H, W i m σ H →
   ((Itl K a).stop i H ∧ D.nx σ H) ∨ ((Itl K a).go i H ∧ ∃ N : St → Hp → Prop, (∀ σ' H', N σ' H' → ∃ m', m' < m ∧ W (i + 1) m' σ' H') ∧ ∀ x H', (Itl K a).yld i H x H' → g x σ H' fun σ2 H2 => tb { D with nx := N, ct := N, bk := D.nx } σ2 H2) := by
 refine ⟨fun i m σ H => m = xs.length - i ∧ i ≤ xs.length ∧ Pv i σ H, ⟨xs.length, by simp, Nat.zero_le _, h0⟩, ?_⟩
 rintro i m σ H ⟨rfl, hi, p⟩
 have q := hl i σ H hi p
 by_cases hlt : i < xs.length
 ·refine .inr ⟨⟨xs, xs[i], q, by simp [hlt]⟩, Pv (i + 1), fun σ' H' p' => ⟨xs.length - (i + 1), by omega, rfl, hlt, p'⟩, fun x H' y => ?_⟩
  obtain ⟨e, y⟩ := y
  subst e
  exact hs i x σ _ (y xs q) p
 ·have e : i = xs.length := by omega
  subst e
  exact .inl ⟨⟨xs, q, Nat.le_refl _⟩, hd σ H p⟩
theorem b0C {K : PySem.W.Frag} {a : Addr} {xs : List V} {g : TG} {tb : TS} {D : Ends} {σ : St} {H : Hp} (Pv : Nat → St → Hp → Prop) (h0 : Pv 0 σ H) (hl : ∀ i σ H, i ≤ xs.length → Pv i σ H → SqT K H a xs)
  (hs : ∀ i x σ H, xs[i]? = some x → Pv i σ H → g x σ H fun σ2 H2 => tb { D with nx := Pv (i + 1), ct := Pv (i + 1), bk := D.nx } σ2 H2) (hd : ∀ σ H, Pv xs.length σ H → D.nx σ H) :
  ∃ W : Nat → Nat → St → Hp → Prop, (∃ m, W 0 m σ H) ∧ ∀ i m σ H, W i m σ H →
   ((Itt K a).stop i H ∧ D.nx σ H) ∨ ((Itt K a).go i H ∧ ∃ N : St → Hp → Prop, (∀ σ' H', N σ' H' → ∃ m', m' < m ∧ W (i + 1) m' σ' H') ∧ ∀ x H', (Itt K a).yld i H x H' → g x σ H' fun σ2 H2 => tb { D with nx := N, ct := N, bk := D.nx } σ2 H2) := by
 refine ⟨fun i m σ H => m = xs.length - i ∧ i ≤ xs.length ∧ Pv i σ H, ⟨xs.length, by simp, Nat.zero_le _, h0⟩, ?_⟩
 rintro i m σ H ⟨rfl, hi, p⟩
 have q := hl i σ H hi p
 by_cases hlt : i < xs.length
 ·refine .inr ⟨⟨xs, xs[i], q, by simp [hlt]⟩, Pv (i + 1), fun σ' H' p' => ⟨xs.length - (i + 1), by omega, rfl, hlt, p'⟩, fun x H' y => ?_⟩
  obtain ⟨e, y⟩ := y
  subst e
  exact hs i x σ _ (y xs q) p
 ·have e : i = xs.length := by omega
  subst e
  exact .inl ⟨⟨xs, q, Nat.le_refl _⟩, hd σ H p⟩
theorem b1a {lo : Int} {n : Nat} {g : TG} {tb : TS} {D : Ends} {σ : St} {H : Hp} (Pv : Nat → St → Hp → Prop) (h0 : Pv 0 σ H)
  (hs : ∀ i σ H, i < n → Pv i σ H → g (.int (lo + i)) σ H fun σ2 H2 => tb { D with nx := Pv (i + 1), ct := Pv (i + 1), bk := D.nx } σ2 H2) (hd : ∀ σ H, Pv n σ H → D.nx σ H) :
  ∃ W : Nat → Nat → St → Hp → Prop, (∃ m, W 0 m σ H) ∧ ∀ i m σ H, W i m σ H →
   ((Itr lo n).stop i H ∧ D.nx σ H) ∨ ((Itr lo n).go i H ∧ ∃ N : St → Hp → Prop, (∀ σ' H', N σ' H' → ∃ m', m' < m ∧ W (i + 1) m' σ' H') ∧ ∀ x H', (Itr lo n).yld i H x H' → g x σ H' fun σ2 H2 => tb { D with nx := N, ct := N, bk := D.nx } σ2 H2) := by
 refine ⟨fun i m σ H => m = n - i ∧ i ≤ n ∧ Pv i σ H, ⟨n, by simp, Nat.zero_le _, h0⟩, ?_⟩
 rintro i m σ H ⟨rfl, hi, p⟩
 by_cases hlt : i < n
 ·refine .inr ⟨hlt, Pv (i + 1), fun σ' H' p' => ⟨n - (i + 1), by omega, rfl, hlt, p'⟩, fun x H' y => ?_⟩
  obtain ⟨e, y⟩ := y
  subst e y
  exact hs i σ _ hlt p
 ·have e : i = n := by omega
  subst e
  exact .inl ⟨Nat.le_refl _, hd σ H p⟩
end L2

namespace L2
open PySem PySem.Spec PyProof.Rows

noncomputable abbrev R2 := V → V → Hp → VK → Prop
noncomputable def OpR (X : Cx) (f : Value → Value → Sem Value) (r : R2) : Prop :=
 ∀ (pins : List (Addr × Obj)) (s : Shared) (σ : St) (H : Hp) (x y : V) (v u : Value) (Q : VK), Inv X pins σ H s → RelV x v → RelV y u → r x y H Q →
  wpAny (model X.prog X.w) X.A (f v u) (EP X pins σ Q) X.xe s
noncomputable def UnR (X : Cx) (f : Value → Sem Value) (r : V → Hp → VK → Prop) : Prop :=
 ∀ (pins : List (Addr × Obj)) (s : Shared) (σ : St) (H : Hp) (x : V) (v : Value) (Q : VK), Inv X pins σ H s → RelV x v → r x H Q →
  wpAny (model X.prog X.w) X.A (f v) (EP X pins σ Q) X.xe s
noncomputable def CallR (X : Cx) (f : Value) (r : List V → Hp → VK → Prop) : Prop :=
 ∀ (pins : List (Addr × Obj)) (s : Shared) (σ : St) (H : Hp) (xs : List V) (us : List Value) (Q : VK), Inv X pins σ H s → Vals xs us → r xs H Q →
  wpAny (model X.prog X.w) X.A (call f us) (EP X pins σ Q) X.xe s
noncomputable def b1r (X : Cx) (r : V → Hp → (Bool → Hp → Prop) → Prop) : Prop :=
 ∀ (pins : List (Addr × Obj)) (s : Shared) (σ : St) (H : Hp) (x : V) (v : Value) (Q : Bool → Hp → Prop), Inv X pins σ H s → RelV x v → r x H Q →
  wpAny (model X.prog X.w) X.A (truthy v) (TP X pins σ Q) X.xe s

noncomputable def tOp (r : R2) (ta tb : TE) : TE := fun σ H Q => ta σ H fun x H1 => tb σ H1 fun y H2 => r x y H2 Q
noncomputable def tUn (r : V → Hp → VK → Prop) (ta : TE) : TE := fun σ H Q => ta σ H fun x H1 => r x H1 Q
noncomputable def rI (C : Int → Int → Prop) (g : Int → Int → V) : R2 := fun x y H Q => ∃ i j, x = .int i ∧ y = .int j ∧ C i j ∧ Q (g i j) H
noncomputable def rI0 (g : Int → Int → V) : R2 := fun x y H Q => ∃ i j, x = .int i ∧ y = .int j ∧ Q (g i j) H
noncomputable def rU (g : Int → V) : V → Hp → VK → Prop := fun x H Q => ∃ i, x = .int i ∧ Q (g i) H

section
variable {X : Cx} {a b c : Expr} {ta tb tc : TE} {pos : Pos}

theorem a2z (ha : PE X a ta) (hb : PE X b tb) {pins : List (Addr × Obj)} {s : Shared} {σ : St} {H : Hp} {R : V → V → Hp → Prop} (I : Inv X pins σ H s)
  (h : ta σ H fun x H1 => tb σ H1 fun y H2 => R x y H2) {Q : Value → Shared → Prop} {f : Value → Value → Sem Value}
  (hf : ∀ v u s2 x y H2, Inv X pins σ H2 s2 → RelV x v → RelV y u → R x y H2 → wpAny (model X.prog X.w) X.A (f v u) Q X.xe s2) :
  wpAny (model X.prog X.w) X.A (eval a X.env) (fun v s₁ => wpAny (model X.prog X.w) X.A (eval b X.env) (fun u s₂ => wpAny (model X.prog X.w) X.A (f v u) Q X.xe s₂) X.xe s₁) X.xe s := by
 refine thn (ha pins s σ H _ I h) fun v s1 ⟨x, H1, I1, r1, q1⟩ => ?_
 refine thn (hb pins s1 σ H1 _ I1 q1) fun u s2 ⟨y, H2, I2, r2, q2⟩ => ?_
 exact hf v u s2 x y H2 I2 r1 r2 q2

theorem b3D {op : Operator} {r : R2} (ho : OpR X (binaryOp op) r) (ha : PE X a ta) (hb : PE X b tb) : PE X (.BinOp a op b pos) (tOp r ta tb) := by
 intro pins s σ H Q I h
 exact wpAny_BinOp (a2z ha hb I h fun v u s2 x y H2 I2 rx ry q => ho pins s2 σ H2 x y v u Q I2 rx ry q)
theorem b2F {op : UnaryOp} {r : V → Hp → VK → Prop} (ho : UnR X (unaryOp op) r) (ha : PE X a ta) : PE X (.UnaryOp op a pos) (tUn r ta) := by
 intro pins s σ H Q I h
 exact UnaryOp_ (thn (ha pins s σ H _ I h) fun v s1 ⟨x, H1, I1, r1, q1⟩ => ho pins s1 σ H1 x v Q I1 r1 q1)
theorem opI {f : Value → Value → Sem Value} {C : Int → Int → Prop} {g : Int → Int → Int}
  (rule : ∀ (i j : Int) (t u : Tok) (s : Shared) (Q : Value → Shared → Prop) (E : Value → Shared → Prop), C i j → Q (.int (g i j) s.toks) { s with toks := s.toks + 1 } → wpAny (model X.prog X.w) X.A (f (.int i t) (.int j u)) Q E s) :
  OpR X f (rI C fun i j => .int (g i j)) := by
 intro pins s σ H x y v u Q I rx ry h
 obtain ⟨i, j, rfl, rfl, hc, q⟩ := h
 obtain ⟨t, rfl⟩ := rx
 obtain ⟨t', rfl⟩ := ry
 exact rule i j t t' s _ _ hc ⟨.int (g i j), H, I.tok _, ⟨_, rfl⟩, q⟩
theorem a7v {f : Value → Value → Sem Value} {g : Int → Int → Int}
  (rule : ∀ (i j : Int) (t u : Tok) (s : Shared) (Q : Value → Shared → Prop) (E : Value → Shared → Prop), Q (.int (g i j) s.toks) { s with toks := s.toks + 1 } → wpAny (model X.prog X.w) X.A (f (.int i t) (.int j u)) Q E s) :
  OpR X f (rI0 fun i j => .int (g i j)) := by
 intro pins s σ H x y v u Q I rx ry h
 obtain ⟨i, j, rfl, rfl, q⟩ := h
 obtain ⟨t, rfl⟩ := rx
 obtain ⟨t', rfl⟩ := ry
 exact rule i j t t' s _ _ ⟨.int (g i j), H, I.tok _, ⟨_, rfl⟩, q⟩
theorem a2s {f : Value → Value → Sem Value} {g : Int → Int → Bool}
  (rule : ∀ (i j : Int) (t u : Tok) (s : Shared) (Q : Value → Shared → Prop) (E : Value → Shared → Prop), Q (.bool (g i j)) s → wpAny (model X.prog X.w) X.A (f (.int i t) (.int j u)) Q E s) :
  OpR X f (rI0 fun i j => .bl (g i j)) := by
 intro pins s σ H x y v u Q I rx ry h
 obtain ⟨i, j, rfl, rfl, q⟩ := h
 obtain ⟨t, rfl⟩ := rx
 obtain ⟨t', rfl⟩ := ry
 exact rule i j t t' s _ _ ⟨.bl (g i j), H, I, rfl, q⟩

noncomputable def a7j (i j : Int) : Prop := 0 ≤ j ∧ j ≤ 1000000 ∧ i.natAbs < 2 ^ 64
theorem op_add : OpR X (binaryOp .Add) (rI0 fun i j => .int (i + j)) := a7v fun _ _ _ _ _ _ _ q => add_int q
theorem G8 : OpR X (binaryOp .Sub) (rI0 fun i j => .int (i - j)) := a7v fun _ _ _ _ _ _ _ q => sub_int q
theorem L1 : OpR X (binaryOp .Mod) (rI (fun _ j => j ≠ 0) fun i j => .int (i.fmod j)) := opI fun _ _ _ _ _ _ _ hc q => mod_int' hc q
theorem a7Y : OpR X (binaryOp .Pow) (rI a7j fun i j => .int (i ^ j.toNat)) := opI fun _ _ _ _ _ _ _ hc q => pow_int_small hc.1 hc.2.1 hc.2.2 q
theorem unI {f : Value → Sem Value} {g : Int → Int}
  (rule : ∀ (i : Int) (t : Tok) (s : Shared) (Q : Value → Shared → Prop) (E : Value → Shared → Prop), Q (.int (g i) s.toks) { s with toks := s.toks + 1 } → wpAny (model X.prog X.w) X.A (f (.int i t)) Q E s) :
  UnR X f (rU fun i => .int (g i)) := by
 intro pins s σ H x v Q I rx h
 obtain ⟨i, rfl, q⟩ := h
 obtain ⟨t, rfl⟩ := rx
 exact rule i t s _ _ ⟨.int (g i), H, I.tok _, ⟨_, rfl⟩, q⟩
theorem O9 : UnR X (unaryOp .USub) (rU fun i => .int (-i)) := unI fun _ _ _ _ _ q => neg_int q
end

noncomputable def a5x : V → V → Bool
 | .non, .non => true | .non, .int _ => true | .int _, .non => true | .non, .bl _ => true | .bl _, .non => true | .non, .str _ => true | .str _, .non => true
 | .int _, .int _ => true | .bl _, .bl _ => true | .str _, .str _ => true | .byt _, .byt _ => true
 | .int _, .str _ => true | .str _, .int _ => true | .bl _, .str _ => true | .str _, .bl _ => true
 | _, _ => false
noncomputable def rEq : R2 := fun x y H Q => a5x x y = true ∧ Q (.bl (decide (x = y))) H
noncomputable def rNe : R2 := fun x y H Q => a5x x y = true ∧ Q (.bl (!decide (x = y))) H

theorem a5w {i j : Int} : decide (V.int i = V.int j) = (i == j) := by
 rw [Bool.eq_iff_iff]
 simp
theorem a5c {i j : Bool} : decide (V.bl i = V.bl j) = (i == j) := by
 rw [Bool.eq_iff_iff]
 simp
theorem a60 {i j : Str} : decide (V.str i = V.str j) = (i == j) := by
 rw [Bool.eq_iff_iff]
 simp
theorem a6t {i j : Array UInt8} : decide (V.byt i = V.byt j) = (i.toList == j.toList) := by
 rw [Bool.eq_iff_iff]
 cases i
 cases j
 simp

section
variable {X : Cx} {a b c : Expr} {ta tb tc : TE} {pos : Pos}
theorem A7 {pins : List (Addr × Obj)} {σ : St} {H : Hp} {s : Shared} {Q : VK} {k k' : Bool} (I : Inv X pins σ H s) (q : Q (.bl k) H) (e : k = k') : EP X pins σ Q (.bool k') s := by
 subst e
 exact ⟨.bl k, H, I, rfl, q⟩
theorem op_eq : OpR X (compareOp .Eq) rEq := by
 intro pins s σ H x y v u Q I rx ry h
 obtain ⟨hs, q⟩ := h
 cases x with
 | non =>
  cases rx
  cases y with
  | non => cases ry; exact PySem.EqNone.eq_none_none (A7 I q (by simp))
  | bl j => cases ry; exact PySem.EqNone.eq_none_bool (A7 I q (by simp))
  | int j => obtain ⟨t', rfl⟩ := ry; exact PySem.EqNone.eq_none_int (A7 I q (by simp))
  | str j => obtain ⟨t', rfl⟩ := ry; exact PySem.EqNone.eq_none_str (A7 I q (by simp))
  | _ => exact absurd (show false = true from hs) Bool.false_ne_true
 | bl i =>
  cases rx
  cases y with
  | non => cases ry; exact PySem.EqNone.eq_bool_none (A7 I q (by simp))
  | bl j => cases ry; exact eq_bool (A7 I q a5c)
  | str j => obtain ⟨t', rfl⟩ := ry; exact PySem.EqMixed.eq_bool_str (A7 I q (by simp))
  | _ => exact absurd (show false = true from hs) Bool.false_ne_true
 | int i =>
  obtain ⟨t, rfl⟩ := rx
  cases y with
  | non => cases ry; exact PySem.EqNone.eq_int_none (A7 I q (by simp))
  | int j => obtain ⟨t', rfl⟩ := ry; exact eq_int (A7 I q a5w)
  | str j => obtain ⟨t', rfl⟩ := ry; exact PySem.EqMixed.eq_int_str (A7 I q (by simp))
  | _ => exact absurd (show false = true from hs) Bool.false_ne_true
 | str i =>
  obtain ⟨t, rfl⟩ := rx
  cases y with
  | non => cases ry; exact PySem.EqNone.eq_str_none (A7 I q (by simp))
  | bl j => cases ry; exact PySem.EqMixed.eq_str_bool (A7 I q (by simp))
  | int j => obtain ⟨t', rfl⟩ := ry; exact PySem.EqMixed.eq_str_int (A7 I q (by simp))
  | str j => obtain ⟨t', rfl⟩ := ry; exact eq_str (A7 I q a60)
  | _ => exact absurd (show false = true from hs) Bool.false_ne_true
 | byt i =>
  obtain ⟨t, rfl⟩ := rx
  cases y with
  | byt j => obtain ⟨t', rfl⟩ := ry; exact PySem.W.eq_bytes (A7 I q a6t)
  | _ => exact absurd (show false = true from hs) Bool.false_ne_true
 | _ => cases y <;> exact absurd (show false = true from hs) Bool.false_ne_true
theorem op_ne : OpR X (compareOp .NotEq) rNe := by
 intro pins s σ H x y v u Q I rx ry h
 obtain ⟨hs, q⟩ := h
 cases x with
 | non =>
  cases rx
  cases y with
  | non => cases ry; exact PySem.EqNone.ne_none_none (A7 I q (by simp))
  | bl j => cases ry; exact PySem.EqNone.ne_none_bool (A7 I q (by simp))
  | int j => obtain ⟨t', rfl⟩ := ry; exact PySem.EqNone.ne_none_int (A7 I q (by simp))
  | str j => obtain ⟨t', rfl⟩ := ry; exact PySem.EqNone.ne_none_str (A7 I q (by simp))
  | _ => exact absurd (show false = true from hs) Bool.false_ne_true
 | bl i =>
  cases rx
  cases y with
  | non => cases ry; exact PySem.EqNone.ne_bool_none (A7 I q (by simp))
  | bl j => cases ry; exact ne_bool (A7 I q (congrArg not a5c))
  | str j => obtain ⟨t', rfl⟩ := ry; exact PySem.EqMixed.ne_bool_str (A7 I q (by simp))
  | _ => exact absurd (show false = true from hs) Bool.false_ne_true
 | int i =>
  obtain ⟨t, rfl⟩ := rx
  cases y with
  | non => cases ry; exact PySem.EqNone.ne_int_none (A7 I q (by simp))
  | int j => obtain ⟨t', rfl⟩ := ry; exact ne_int (A7 I q (congrArg not a5w))
  | str j => obtain ⟨t', rfl⟩ := ry; exact PySem.EqMixed.ne_int_str (A7 I q (by simp))
  | _ => exact absurd (show false = true from hs) Bool.false_ne_true
 | str i =>
  obtain ⟨t, rfl⟩ := rx
  cases y with
  | non => cases ry; exact PySem.EqNone.ne_str_none (A7 I q (by simp))
  | bl j => cases ry; exact PySem.EqMixed.ne_str_bool (A7 I q (by simp))
  | int j => obtain ⟨t', rfl⟩ := ry; exact PySem.EqMixed.ne_str_int (A7 I q (by simp))
  | str j => obtain ⟨t', rfl⟩ := ry; exact ne_str (A7 I q (congrArg not a60))
  | _ => exact absurd (show false = true from hs) Bool.false_ne_true
 | byt i =>
  obtain ⟨t, rfl⟩ := rx
  cases y with
  | byt j => obtain ⟨t', rfl⟩ := ry; exact PySem.W.ne_bytes (A7 I q (congrArg not a6t))
  | _ => exact absurd (show false = true from hs) Bool.false_ne_true
 | _ => cases y <;> exact absurd (show false = true from hs) Bool.false_ne_true

theorem P1 : OpR X (compareOp .Lt) (rI0 fun i j => .bl (decide (i < j))) := a2s fun _ _ _ _ _ _ _ q => lt_int q
theorem a3G : OpR X (compareOp .LtE) (rI0 fun i j => .bl (decide (i ≤ j))) := a2s fun _ _ _ _ _ _ _ q => le_int q
theorem R0 : OpR X (compareOp .Gt) (rI0 fun i j => .bl (decide (j < i))) := a2s fun _ _ _ _ _ _ _ q => gt_int q
theorem a5X : OpR X (compareOp .GtE) (rI0 fun i j => .bl (decide (j ≤ i))) := a2s fun _ _ _ _ _ _ _ q => ge_int q
theorem OpR.or {f : Value → Value → Sem Value} {r r' : R2} (h : OpR X f r) (h' : OpR X f r') : OpR X f (fun x y H Q => r x y H Q ∨ r' x y H Q) := by
 intro pins s σ H x y v u Q I rx ry q
 rcases q with q | q
 ·exact h pins s σ H x y v u Q I rx ry q
 ·exact h' pins s σ H x y v u Q I rx ry q

theorem v6 (b : Expr) {op : CmpOp} (h : op ≠ .In := by decide) (h2 : op ≠ .NotIn := by decide) : behindInMarks op b = false := by
 have e1 : (op == CmpOp.In) = false := by cases op <;> first | rfl | exact absurd rfl h
 have e2 : (op == CmpOp.NotIn) = false := by cases op <;> first | rfl | exact absurd rfl h2
 cases b <;> simp [behindInMarks, e1, e2]
theorem b1i {op : CmpOp} {r : R2} (ho : OpR X (compareOp op) r) (ha : PE X a ta) (hb : PE X b tb) (hm : behindInMarks op b = false) : PE X (.Compare a [op] [b] pos) (tOp r ta tb) := by
 intro pins s σ H Q I h
 exact wpAny_Compare1 (a2z ha hb I h fun v u s2 x y H2 I2 rx ry q => ho pins s2 σ H2 x y v u Q I2 rx ry q) hm
noncomputable def a8j (t : TE) : TT := fun σ H Q => t σ H fun x H' => ∃ k, x = .bl k ∧ Q k H'
theorem a9E {op : CmpOp} {r : R2} (ho : OpR X (compareOp op) r) (ha : PE X a ta) (hb : PE X b tb) (hm : behindInMarks op b = false) : PT X (.Compare a [op] [b] pos) (a8j (tOp r ta tb)) := by
 intro pins s σ H Q I h
 refine wpAny_isTrue_Compare1 (thn (ha pins s σ H _ I h) fun v s1 ⟨x, H1, I1, r1, q1⟩ => thn (hb pins s1 σ H1 _ I1 q1) fun u s2 ⟨y, H2, I2, r2, q2⟩ =>
  thn (ho pins s2 σ H2 x y v u _ I2 r1 r2 q2) fun c s3 ⟨z, H3, I3, r3, k, e, q3⟩ => ?_) hm
 subst e
 cases r3
 exact wpAny_truthy_bool ⟨H3, I3, q3⟩
noncomputable def a5q (K : PySem.W.Frag) (x : V) (H : Hp) (k : Bool) : Prop :=
 match x with
 | .non => k = false
 | .bl b => k = b
 | .int i => k = (i != 0)
 | .str y => y.length ≤ sizeLine ∧ k = ((y.length : Int) != 0)
 | .byt y => y.size ≤ sizeLine ∧ k = ((y.size : Int) != 0)
 | .ref p => (∃ xs, SqL K H p xs ∧ k = !xs.isEmpty) ∨ (∃ xs, SqT K H p xs ∧ k = !xs.isEmpty) ∨ ∃ kvs, H p = some (.dK kvs) ∧ k = !kvs.isEmpty
 | _ => False
theorem a9b {κ : Type} {kvs : List (κ × V)} {vs : List (κ × Value)} (r : KV kvs vs) : (!vs.isEmpty) = !kvs.isEmpty := by
 cases r <;> rfl
theorem a6X {xs : List V} {its : List Value} (r : Vals xs its) : (!its.toArray.isEmpty) = !xs.isEmpty := by
 cases r <;> simp
theorem a0U : (sizeLine : Nat) < 2 ^ 63 := by rw [sizeLine_eq]; decide
theorem b2u : b1r X (fun x H Q => ∃ k, a5q X.K x H k ∧ Q k H) := by
 intro pins s σ H x v Q I rx h
 obtain ⟨k, e, q⟩ := h
 have hl := a0U
 have hs : sizeLine = 16777216 := sizeLine_eq
 cases x with
 | non =>
  cases rx
  have e' : k = false := e
  subst e'
  exact truthy_none ⟨H, I, q⟩
 | bl b =>
  cases rx
  have e' : k = b := e
  subst e'
  exact wpAny_truthy_bool ⟨H, I, q⟩
 | int i =>
  obtain ⟨t, rfl⟩ := rx
  have e' : k = (i != 0) := e
  subst e'
  exact PySem.P.truthy_int ⟨H, I, q⟩
 | str y =>
  obtain ⟨t, rfl⟩ := rx
  obtain ⟨hy, e'⟩ : y.length ≤ sizeLine ∧ k = ((y.length : Int) != 0) := e
  subst e'
  exact PySem.P.truthy_str (by first | decide | omega) ⟨H, I.tok _, q⟩
 | byt y =>
  obtain ⟨t, rfl⟩ := rx
  obtain ⟨hy, e'⟩ : y.size ≤ sizeLine ∧ k = ((y.size : Int) != 0) := e
  subst e'
  exact PySem.W.truthy_bytes (by first | decide | omega) ⟨H, I.tok _, q⟩
 | ref p =>
  cases rx
  have e' : (∃ xs, SqL X.K H p xs ∧ k = !xs.isEmpty) ∨ (∃ xs, SqT X.K H p xs ∧ k = !xs.isEmpty) ∨ ∃ kvs, H p = some (.dK kvs) ∧ k = !kvs.isEmpty := e
  rcases e' with ⟨xs, hx, e'⟩ | ⟨xs, hx, e'⟩ | ⟨kvs, hx, e'⟩
  ·subst e'
   obtain ⟨its, r, pl, hz⟩ := I.list hx
   have hlen := r.length
   exact wpAny_truthy_list pl.isList (by simp only [List.size_toArray]; omega) ⟨H, I.tok _, by rw [a6X r]; exact q⟩
  ·subst e'
   obtain ⟨its, r, pl, hz⟩ := I.tuple hx
   have hlen := r.length
   exact truthy_tuple pl (by simp only [List.size_toArray]; omega) ⟨H, I.tok _, by rw [a6X r]; exact q⟩
  ·subst e'
   obtain ⟨hz, hS, vs, r, m⟩ : kvs.length ≤ sizeLine ∧ (p == sysModules) = false ∧ ∃ vs, KV kvs vs ∧ s.heap.DictOf (D9 X.prog X.w) p vs := I.hok p _ hx
   have hlen : kvs.length = vs.length := Paired.length r
   exact wpAny_truthy_dict hS m (by first | decide | omega) ⟨H, I.tok _, by rw [a9b r]; exact q⟩
 | _ => exact (show False from e).elim
theorem b2c (ha : PE X a ta) (he : ∀ whole, isTrue a X.env whole = (do let v ← whole; standAt a.pos; holding [v] (truthy v))) :
  PT X a (fun σ H Q => ta σ H fun x H' => ∃ k, a5q X.K x H' k ∧ Q k H') := by
 intro pins s σ H Q I h
 exact isTrue_plain (thn (ha pins s σ H _ I h) fun v s1 ⟨x, H1, I1, r1, q1⟩ => b2u pins s1 σ H1 x v Q I1 r1 q1) (he _)

theorem b0H : OpR X (binaryOp .Add) (fun x y H Q => ∃ i j, x = .str i ∧ y = .str j ∧ i.length + j.length ≤ sizeLine ∧ Q (.str (i ++ j)) H) := by
 intro pins s σ H x y v u Q I rx ry h
 obtain ⟨i, j, rfl, rfl, hz, q⟩ := h
 obtain ⟨t, rfl⟩ := rx
 obtain ⟨t', rfl⟩ := ry
 exact add_str (fun t' tk => ⟨.str (i ++ j), H, I.tok _, ⟨_, rfl⟩, q⟩) hz
theorem S6 {x : V} {us : List Value} (r : Vals [x] us) : ∃ u, us = [u] ∧ RelV x u := by
 cases r with
 | cons r1 r2 => cases r2; exact ⟨_, rfl, r1⟩
theorem a8G {x y : V} {us : List Value} (r : Vals [x, y] us) : ∃ u w', us = [u, w'] ∧ RelV x u ∧ RelV y w' := by
 cases r with
 | cons r1 r2 =>
  cases r2 with
  | cons r3 r4 => cases r4; exact ⟨_, _, rfl, r1, r3⟩
theorem a2r : CallR X (.builtin "abs") (fun xs H Q => ∃ i, xs = [.int i] ∧ Q (.int (if i < 0 then -i else i)) H) := by
 intro pins s σ H xs us Q I r h
 obtain ⟨i, rfl, q⟩ := h
 obtain ⟨u, rfl, t, rfl⟩ := S6 r
 exact call_abs_int fun u tk => ⟨.int (if i < 0 then -i else i), H, I.tok _, ⟨_, rfl⟩, q⟩
theorem b2I : CallR X (.type "int") (fun xs H Q => (∃ i, xs = [.int i] ∧ Q (.int i) H) ∨ ∃ k, xs = [.bl k] ∧ Q (.int (if k then 1 else 0)) H) := by
 intro pins s σ H xs us Q I r h
 rcases h with ⟨i, rfl, q⟩ | ⟨k, rfl, q⟩
 ·obtain ⟨u, rfl, t, rfl⟩ := S6 r
  exact call_int_int ⟨.int i, H, I, ⟨_, rfl⟩, q⟩
 ·obtain ⟨u, rfl, r1⟩ := S6 r
  cases r1
  exact call_int_bool ⟨.int (if k then 1 else 0), H, I.tok _, ⟨_, rfl⟩, q⟩
end
end L2

namespace L2
open PySem PySem.Spec PyProof.Rows

section
variable {prog : Program} {w : World} {A : Around} {E : Value → Shared → Prop} {s : Shared} {K : PySem.W.Frag} {x dx C f : Addr} {mA : Str → Option Value} {name : Str} {v : Value}

end

theorem RelO.some_of {v : V} {o : Option Value} (r : RelO (some v) o) : ∃ u, o = some u ∧ RelV v u := by
 cases o with
 | none => exact (show False from r).elim
 | some u => exact ⟨u, rfl, r⟩
section
variable {P : Program} {w : World} {H H' : Hp} {h h' : Heap} {a C dx : Addr} {fs fs' : List (Str × V)}
end

section
variable {X : Cx} {pins : List (Addr × Obj)} {σ : St} {H : Hp} {s : Shared} {a C dx : Addr} {fs : List (Str × V)} {f : Str} {v : V} {A : Around} {E : Value → Shared → Prop}

end

section
variable {X : Cx} {o e value : Expr} {f : Str} {pos pos' tpos : Pos} {ta tv : TE}
end

section
variable {X : Cx} {pins : List (Addr × Obj)} {σ : St} {H : Hp} {s : Shared} {A : Around} {E : Value → Shared → Prop} {Q : Value → Shared → Prop} {c : Value} {b : Bool}
end
end L2

namespace L2
open PySem PySem.Spec PyProof.Rows

structure Room (k : Nat) (A : Around) : Prop where
 hd : A.handled = none
 dp : A.depth + 3 * k + 5 < recursionLimit
 un : A.units + 16 * k + 200 < cLine
 gd : A.guards = some []
theorem Room.mono {j k : Nat} {A : Around} (r : Room k A) (h : j ≤ k) : Room j A := ⟨r.hd, by have := r.dp; omega, by have := r.un; omega, r.gd⟩
theorem Room.deeper {k : Nat} {A : Around} (r : Room (k + 1) A) (env : Env) : Room k (A.deeper env) :=
 ⟨r.hd, by have := r.dp; show A.depth + 1 + 3 * k + 5 < _; omega, by have := r.un; show A.units + 3 + 16 * k + 200 < _; omega, r.gd⟩
theorem Room.depth {k : Nat} {A : Around} (r : Room k A) : A.depth < recursionLimit := by have := r.dp; omega
theorem Room.units {k : Nat} {A : Around} (r : Room k A) : A.units + 64 < cLine := by have := r.un; omega
noncomputable def a9c : TA := fun _ H Q => Q [] H
noncomputable def b1W (ta : TE) (tr : TA) : TA := fun σ H Q => ta σ H fun x H1 => tr σ H1 fun xs H2 => Q (x :: xs) H2
section
variable {X : Cx} {e : Expr} {es : List Expr} {te : TE} {t : TA} {pos : Pos}
theorem a2h : PA X [] a9c := fun _ _ _ _ H Q I h => Calls.spliced_nil ⟨[], H, I, .nil, h⟩
theorem a0X (ha : PE X e te) (hr : PA X es t) (hs : starEach (e :: es) X.env = (false, eval e X.env) :: starEach es X.env := by rfl) : PA X (e :: es) (b1W te t) := by
 intro pos pins s σ H Q I h
 rw [hs]
 show wpAny _ _ (spliced ((false, eval e X.env) :: backTo pos (starEach es X.env))) _ _ s
 refine Calls.spliced_cons (thn (ha pins s σ H _ I h) fun u s1 ⟨x, H1, I1, r1, q1⟩ => ?_)
 exact thn (hr pos pins s1 σ H1 _ I1 q1) fun us s2 ⟨xs, H2, I2, r2, q2⟩ => ⟨x :: xs, H2, I2, .cons r1 r2, q2⟩

noncomputable def a9F (t : TA) : TE := fun σ H Q => t σ H fun xs H1 => xs.length ≤ sizeLine ∧ ∀ p, H1 p = none → Q (.ref p) (upd H1 p (.tup xs))
noncomputable def b4v (t : TA) : TE := fun σ H Q => t σ H fun xs H1 => xs.length ≤ sizeLine ∧ ∀ p, H1 p = none → Q (.ref p) (upd H1 p (.lst xs))
theorem a9m {x1} (h : PA X es t) : PE X (.Tuple es x1 pos) (a9F t) := by
 intro pins s σ H Q I hq
 refine wpAny_Tuple_spliced (thn (h pos pins s σ H _ I hq) fun us s1 ⟨xs, H1, I1, r, z, q⟩ => ⟨by rw [← r.length]; exact z, ?_⟩)
 have hf : H1 s1.heap.objs.size = none := I1.hok.fresh (Nat.le_refl _)
 refine ⟨.ref s1.heap.objs.size, upd H1 s1.heap.objs.size (.tup xs), I1.laid (t' := s1.toks) (fun b u e => Heap.get?_push_of_some _ e) (Nat.le_refl _) ?_, rfl, q _ hf⟩
 exact ⟨z, us, r, ⟨_, Heap.get?_push_size _ rfl, rfl, _, rfl⟩⟩
theorem b1m (h : PA X es t) : PE X (.List es pos) (b4v t) := by
 intro pins s σ H Q I hq
 refine wpAny_List_spliced (thn (h pos pins s σ H _ I hq) fun us s1 ⟨xs, H1, I1, r, z, q⟩ => ⟨by rw [← r.length]; exact z, ?_⟩)
 have hf : H1 s1.heap.objs.size = none := I1.hok.fresh (Nat.le_refl _)
 refine ⟨.ref s1.heap.objs.size, upd H1 s1.heap.objs.size (.lst xs), I1.laid (t' := s1.toks) (fun b u e => Heap.get?_push_of_some _ e) (Nat.le_refl _) ?_, rfl, q _ hf⟩
 exact ⟨z, us, 0, r, Heap.get?_push_size _ rfl⟩
end

noncomputable abbrev Sp := List V → Hp → VK → XK → Prop
noncomputable abbrev CXT := List Env → Hp → Shared → XK → Value → Shared → Prop

structure Env0 (P : Program) (w : World) (K : PySem.W.Frag) (mg : Str → Option Value) (base : Heap) (A : Around) (outer : List Env) (s : Shared) (H : Hp) : Prop where
 frames : A.frames = some outer
 mod : Mod K mg base
 bs : ∀ b o, base.get? b = some o → s.heap.get? b = some o ∧ H b = none
 bsz : base.objs.size ≤ s.heap.objs.size
 funs : s.heap.FunFrames base outer
 frf : ∀ b ∈ frs outer, H b = none
 hok : HOk P w H s.heap
 bare : AllBare s.gens
noncomputable def CE (outer : List Env) (P : Program) (w : World) (H : Hp) (s : Shared) (Q : VK) (u : Value) (s' : Shared) : Prop :=
 ∃ v H', s'.os = s.os ∧ AllBare s'.gens ∧ Un (frs outer) [] H H' s.heap s'.heap ∧ HOk P w H' s'.heap ∧ RelV v u ∧ Q v H'
noncomputable def CR (CX : CXT) (outer : List Env) (P : Program) (w : World) (H : Hp) (s : Shared) (Q : VK) (E : XK) (r : Result) (s' : Shared) : Prop :=
 match r with
 | .ok (.ret u) => CE outer P w H s Q u s'
 | .ok _ => False
 | .error e => CX outer H s E e s'
structure FnOk (P : Program) (w : World) (K : PySem.W.Frag) (mg : Str → Option Value) (base : Heap) (CX : CXT) (k : Nat) (f : Addr) (fd : FuncData) (ps : List Str) (sp : Sp) : Prop where
 len : ∀ vs H Q E, sp vs H Q E → vs.length = ps.length
 run : ∀ (A : Around) (outer : List Env) (s : Shared) (H : Hp) (args : Args) (us : List Value) (vs : List V) (Q : VK) (E : XK), Room k A → Env0 P w K mg base A outer s H → BindsTo s fd args (ps.zip us) → Vals vs us → sp vs H Q E →
  codeAny (model P w) A (.call (.ref f) args) (CR CX outer P w H s Q E) s
section
variable {X : Cx} {pins : List (Addr × Obj)} {σ : St} {H : Hp} {s s' : Shared}
theorem Inv.env0 (I : Inv X pins σ H s) : Env0 X.prog X.w X.K X.mg X.base X.A X.stack s H :=
 ⟨I.ok.frames, I.ok.mod, I.bs, Nat.le_trans I.ok.bsz I.sz, I.stack, I.stkFree, I.hok, I.bare⟩
theorem Inv.after {Q : VK} {u : Value} (I : Inv X pins σ H s) (h : CE X.stack X.prog X.w H s Q u s') : EP X pins σ Q u s' := by
 obtain ⟨v, H', os, bare, un, hok, r, q⟩ := h
 obtain ⟨hh, g, d, t, os'⟩ := s'
 obtain rfl : os' = s.os := os
 exact ⟨v, H', I.call (h' := hh) (g' := g) (d' := d) (t' := t) (ch := []) un hok bare (fun b z => absurd z (by simp)), r, q⟩
end

noncomputable def a6k (sp : Sp) (dvs : List V) (E : XK) (t : TA) : TE := fun σ H Q => t σ H fun vs H1 => sp (vs ++ dvs) H1 Q E
noncomputable def Binds (K : PySem.W.Frag) (fd : FuncData) (ps : List Str) (ds : List Value) : Prop :=
 ∀ (s : Shared) (us : List Value), K.In s.heap → (us ++ ds).length = ps.length → BindsTo s fd ⟨us, []⟩ (ps.zip (us ++ ds))
theorem Binds.all {K : PySem.W.Frag} {fd : FuncData} {ps : List Str} (h : ∀ us : List Value, us.length = ps.length → bindArgs fd ⟨us, []⟩ = pure (ps.zip us)) : Binds K fd ps [] := fun s us _ hl => by
 rw [List.append_nil] at hl ⊢
 exact .of_eq (h us hl)

noncomputable def a4s (CX : CXT) (X : Cx) (E : XK) : Prop := ∀ (pins : List (Addr × Obj)) (σ : St) (H : Hp) (s : Shared) (e : Value) (s' : Shared), Inv X pins σ H s → CX X.stack H s E e s' → X.xe e s'

section
variable {X : Cx} {CX : CXT} {k : Nat} {f C : Addr} {fd : FuncData} {ps : List Str} {sp : Sp} {dvs : List V} {ds : List Value} {E : XK} {x m : Str} {p pos apos : Pos} {e o : Expr} {es : List Expr} {ta : TE} {t : TA}

theorem b4w {pins : List (Addr × Obj)} {σ : St} {H : Hp} {s : Shared} {Q : VK} {us : List Value} {vs : List V} (F : FnOk X.prog X.w X.K X.mg X.base CX k f fd ps sp) (hr : Room k X.A) (hb : Binds X.K fd ps ds) (hd : Vals dvs ds) (hx : a4s CX X E)
  (I : Inv X pins σ H s) (r : Vals vs us) (h : sp (vs ++ dvs) H Q E) : wpAny (model X.prog X.w) X.A (call (.ref f) us) (EP X pins σ Q) X.xe s := by
 have r2 : Vals (vs ++ dvs) (us ++ ds) := r.append hd
 have hl : (us ++ ds).length = ps.length := by rw [← r2.length]; exact F.len _ _ _ _ h
 refine wpAny_call (codeAny_mono (F.run X.A X.stack s H ⟨us, []⟩ (us ++ ds) (vs ++ dvs) Q E hr I.env0 (hb s us I.kIn hl) r2 h) fun r s' hq => ?_)
 cases r with
 | error e => exact hx pins σ H s e s' I hq
 | ok fl =>
  cases fl with
  | ret u => exact I.after hq
  | next => exact False.elim hq
  | brk => exact False.elim hq
  | cont => exact False.elim hq

theorem a9g (F : FnOk X.prog X.w X.K X.mg X.base CX k f fd ps sp) (hr : Room k X.A) (hg : Gl X x) (hm : X.mg x = some (.ref f)) (hk : PySem.W.keepIn X.K (.ref f) = true) (hb : Binds X.K fd ps ds) (hd : Vals dvs ds) (hx : a4s CX X E)
  (ha : PA X (e :: es) t) (hdb : (x == ("__debug__" : Str)) = false := by decide) (he : starEach (e :: es) X.env = (false, eval e X.env) :: starEach es X.env := by rfl) (hpl : (backTo pos (starEach es X.env)).any (·.1) = false := by rfl) :
  PE X (.Call (.Name x p) (e :: es) [] pos) (a6k sp dvs E t) := by
 intro pins s σ H Q I h
 refine wpAny_Call_Name_kw (a7N I hg hm ?_ hdb)
 refine PySem.W.callWith_K (h₀ := X.base) I.ok.mod.kin hk (thn (ha pos pins s σ H _ I h) fun us s1 ⟨vs, H1, I1, r, q⟩ => ⟨I1.kIn, ?_⟩) he hpl
 exact b4w F hr hb hd hx I1 r q
end

section
variable {X : Cx} {CX : CXT} {k : Nat} {f C : Addr} {fd : FuncData} {ps ks : List Str} {sp : Sp} {E : XK} {x m : Str} {p pos apos kpos : Pos} {e o : Expr} {es : List Expr} {kws : List Keyword} {te ta : TE} {t tk : TA} {nm : Option Str}
variable {g : List Value → List Value → List Value} {gV : List V → List V → List V}
end

structure FnScope (N P : List Str) (sc : Scope) : Prop where
 kind : sc.kind = .function
 co : sc.isCoroutine = false
 gen : sc.isGenerator = false
 nd : N.Nodup
 pre : N.take P.length = P
 par : ∀ x ∈ P, sc.names.lookup x = some .local ∨ sc.names.lookup x = some .cell
 nofree : ∀ y ∈ sc.names, y.2 ≠ .free

theorem a6V {kindOf : Str → Option NameKind} {x : Str} : ∀ {binds : List (Str × Value)} {m : Str → Option Value}, (∀ v, (x, v) ∉ binds) → bindL kindOf binds m x = m x
 | [], _, _ => rfl
 | (n, v) :: r, m, h => by
  unfold bindL
  rw [a6V fun w hw => h w (List.mem_cons_of_mem _ hw)]
  split
  ·have : x ≠ n := by rintro rfl; exact h v List.mem_cons_self
   simp [this]
  ·rfl
theorem a5z {kindOf : Str → Option NameKind} {x : Str} : ∀ {binds : List (Str × Value)} {m : Str → Option Value}, (∀ v, (x, v) ∉ binds) → bindC kindOf binds m x = m x
 | [], _, _ => rfl
 | (n, v) :: r, m, h => by
  unfold bindC
  rw [a5z fun w hw => h w (List.mem_cons_of_mem _ hw)]
  split
  ·rfl
  ·have : x ≠ n := by rintro rfl; exact h v List.mem_cons_self
   simp [this]
theorem a6b {kindOf : Str → Option NameKind} {x : Str} {v : Value} : ∀ {P : List Str} {vs : List Value} {i : Nat} {m : Str → Option Value}, P.Nodup → P[i]? = some x → vs[i]? = some v → kindOf x = some .local →
  bindL kindOf (P.zip vs) m x = some v
 | [], _, _, _, _, h, _, _ => by simp at h
 | _ :: _, [], _, _, _, _, h, _ => by simp at h
 | p :: P, w :: vs, 0, m, nd, h1, h2, hk => by
  simp at h1 h2; subst h1; subst h2
  show bindL kindOf ((p, w) :: P.zip vs) m p = _
  unfold bindL
  rw [a6V fun v hv => (List.nodup_cons.mp nd).1 (List.of_mem_zip hv).1, if_pos hk]
  simp
 | p :: P, w :: vs, i + 1, m, nd, h1, h2, hk => by
  show bindL kindOf ((p, w) :: P.zip vs) m x = _
  unfold bindL
  exact a6b (i := i) (List.nodup_cons.mp nd).2 (by simpa using h1) (by simpa using h2) hk
theorem a6S {kindOf : Str → Option NameKind} {x : Str} {v : Value} : ∀ {P : List Str} {vs : List Value} {i : Nat} {m : Str → Option Value}, P.Nodup → P[i]? = some x → vs[i]? = some v → kindOf x ≠ some .local →
  bindC kindOf (P.zip vs) m x = some v
 | [], _, _, _, _, h, _, _ => by simp at h
 | _ :: _, [], _, _, _, _, h, _ => by simp at h
 | p :: P, w :: vs, 0, m, nd, h1, h2, hk => by
  simp at h1 h2; subst h1; subst h2
  show bindC kindOf ((p, w) :: P.zip vs) m p = _
  unfold bindC
  rw [a5z fun v hv => (List.nodup_cons.mp nd).1 (List.of_mem_zip hv).1, if_neg hk]
  simp
 | p :: P, w :: vs, i + 1, m, nd, h1, h2, hk => by
  show bindC kindOf ((p, w) :: P.zip vs) m x = _
  unfold bindC
  exact a6S (i := i) (List.nodup_cons.mp nd).2 (by simpa using h1) (by simpa using h2) hk

noncomputable def start (N : List Str) (vs : List V) : St := vs.map some ++ List.replicate (N.length - vs.length) none

noncomputable def Q6 (CX : CXT) (P : Program) (w : World) (K : PySem.W.Frag) (mg : Str → Option Value) (base : Heap) (N : List Str) (qual : Str) (scope : Scope) (f : Addr) (cd : Value) (A : Around) (outer : List Env) (s : Shared) (H : Hp) (E : XK) : Cx where
 prog := P
 w := w
 K := K
 mg := mg
 base := base
 A := A.deeper (envOfC qual scope s.heap.objs.size f cd)
 N := N
 s₀ := s
 H₀ := H
 env := envOfC qual scope s.heap.objs.size f cd
 outer := outer
 stack := envOfC qual scope s.heap.objs.size f cd :: outer
 ex := []
 calm := true
 fn := fun _ => true
 pn := []
 xe := fun e s' => wpAny (model P w) (A.deeper (envOfC qual scope s.heap.objs.size f cd)) (leaving (envOfC qual scope s.heap.objs.size f cd) e) (fun _ s'' => CX outer H s E e s'') (fun e' s'' => CX outer H s E e' s'') s'

theorem a4Y {sc : Scope} {n : Nat} {x : Str} (h : sc.names.lookup x = some .cell) : ∃ c, (cellsFrom n sc.names []).lookup x = some c := by
 have q := PySem.W.cellsFrom_some sc.names n [] (.inl h)
 exact Option.isSome_iff_exists.mp q

theorem b1b {CX : CXT} {P : Program} {w : World} {K : PySem.W.Frag} {mg : Str → Option Value} {base : Heap} {N ps : List Str} {qual : Str} {scope : Scope} {f : Addr} {cd : Value} {A : Around} {outer : List Env} {s s1 : Shared} {H : Hp} {E : XK} {us : List Value} {vs : List V}
  (S : FnScope N ps scope) (hd : A.handled = none) (e0 : Env0 P w K mg base A outer s H) (hl : vs.length = ps.length) (r : Vals vs us)
  (x : InCallC s s.heap.objs.size (bindL (envOfC qual scope s.heap.objs.size f cd).kindOf (ps.zip us) fun _ => none) (cellsFrom (s.heap.objs.size + 1) scope.names []) (bindC (envOfC qual scope s.heap.objs.size f cd).kindOf (ps.zip us) fun _ => none) s1) :
  Inv (Q6 CX P w K mg base N qual scope f cd A outer s H E) [] (start N vs) H s1 := by
 have hpl : ps.length ≤ N.length := by have := congrArg List.length S.pre; rw [List.length_take] at this; omega
 obtain ⟨h1, tk, rfl, hk⟩ := x.done
 have noA : ∀ b : Addr, b ∉ (Q6 CX P w K mg base N qual scope f cd A outer s H E).ex := fun b z => absurd (show b ∈ ([] : List Addr) from z) (by simp)
 refine ⟨⟨e0.mod, S.kind, rfl, rfl, Nat.le_refl _, fun y z c h1 h2 => ?_, fun y hy => ?_, fun y c _ h => ?_, fun _ => hd, Around.frames_deeper e0.frames, .inr ⟨rfl, rfl⟩, fun b z => absurd z (noA b), e0.bs, e0.bsz, fun b _ _ => noA b, fun b z => absurd z (noA b), e0.funs, e0.frf⟩,
  rfl, e0.bare, Un.kept hk, ⟨_, x.toInCall.ns, fun i y v h1 h2 h3 => ?_⟩, fun y c h => ⟨_, x.cell y c h⟩, e0.hok.fresh (Nat.le_refl _), fun y c h => ?_, fun p hp => absurd (show p ∈ ([] : List (Addr × Obj)) from hp) (by simp), e0.hok.kept hk, ?_⟩
 ·exact name_of_addr x.apart (PySem.mem_of_lookup h1) (PySem.mem_of_lookup h2)
 ·have hy : scope.names.lookup y = some .cell ∨ scope.names.lookup y = some .free := hy
  rcases hy with hy | hy
  ·exact a4Y hy
  ·exact absurd rfl (S.nofree _ (PySem.mem_of_lookup hy))
 ·exact Nat.le_of_lt (x.above y c (PySem.mem_of_lookup h))
 ·have hi : i < vs.length := by
   unfold start at h2
   by_cases hi : i < vs.length
   ·exact hi
   ·rw [List.getElem?_append_right (by simpa using hi)] at h2
    rw [List.getElem?_replicate] at h2
    split at h2 <;> cases h2
  have ha : vs[i]? = some v := by
   unfold start at h2
   rw [List.getElem?_append_left (by simpa using hi), List.getElem?_map] at h2
   cases e : vs[i]? with
   | none => rw [e] at h2; cases h2
   | some a => rw [e] at h2; cases h2; rfl
  obtain ⟨u, hu, rv⟩ := r.get ha
  have hp : ps[i]? = some y := by
   rw [← S.pre, List.getElem?_take_of_lt (by first | decide | omega)]; exact h1
  have ndP : ps.Nodup := by rw [← S.pre]; exact S.nd.sublist (List.take_sublist _ _)
  refine ⟨u, rv, ?_⟩
  rcases S.par y (List.mem_of_getElem? hp) with k | k
  ·exact .inl ⟨k, a6b ndP hp hu k⟩
  ·obtain ⟨c, e⟩ := a4Y (n := s.heap.objs.size + 1) k
   refine .inr ⟨.inl k, c, e, ?_⟩
   have q := x.cell y c e
   rw [a6S ndP hp hu (by show scope.names.lookup y ≠ _; rw [k]; decide)] at q
   exact q
 ·exact e0.hok.fresh (Nat.le_of_lt (x.above y c (PySem.mem_of_lookup h)))
 ·unfold start
  show _ = N.length
  rw [List.length_append, List.length_map, List.length_replicate]
  omega

theorem b2G {CX : CXT} {P : Program} {w : World} {K : PySem.W.Frag} {mg : Str → Option Value} {base : Heap} {k : Nat} {f : Addr} {name qual : Str} {params : Arguments} {body : List Stmt} {scope : Scope} {dV kV doc pm cdv ct oc : Value} {an od : Option Addr}
  {osl : Array (Option Value)} {N ps : List Str} {sp : Sp} (lk : K.lookup f = some ⟨oc, od, .func (PySem.W.fnOf name qual params body scope dV kV doc pm an cdv ct), osl⟩) (hcd : PySem.W.codeIn K cdv qual = true) (S : FnScope N ps scope)
  (len : ∀ vs H Q E, sp vs H Q E → vs.length = ps.length)
  (hbody : ∀ (A : Around) (outer : List Env) (s : Shared) (H : Hp) (vs : List V) (Q : VK) (E : XK), Room k (A.deeper (envOfC qual scope s.heap.objs.size f cdv)) → sp vs H Q E →
   ∃ t, PSs (Q6 CX P w K mg base N qual scope f cdv A outer s H E) body t ∧ t { nx := fun _ H' => Q .non H', rt := Q } (start N vs) H) :
  FnOk P w K mg base CX (k + 1) f (PySem.W.fnOf name qual params body scope dV kV doc pm an cdv ct) ps sp := by
 refine ⟨len, fun A outer s H args us vs Q E hr e0 hb r hsp => ?_⟩
 have hl := len _ _ _ _ hsp
 have KX : K.In s.heap := e0.mod.kin.keeps fun b o e => (e0.bs b o e).1
 have lim : s.heap.NoLimit := e0.mod.nolimit.keeps fun b o e => (e0.bs b o e).1
 have hkind : ∀ y ∈ ps.zip us, scope.names.lookup y.1 = some .local ∨ (scope.names.lookup y.1 = some .cell ∧ ((cellsFrom (s.heap.objs.size + 1) scope.names []).lookup y.1).isSome = true) := fun ⟨n, v⟩ hy => by
  rcases S.par n (List.of_mem_zip hy).1 with q | q
  ·exact .inl q
  ·exact .inr ⟨q, PySem.W.cellsFrom_some _ _ _ (.inl q)⟩
 refine codeAny_call_function hr.depth (KX _ _ lk) rfl S.co S.gen rfl (PySem.W.codeRec_of KX hcd) (hb _ _ _ _ ?_)
 refine wpAny_newFunctionEnv_cells S.kind hkind fun env he s1 x => ?_
 subst he
 refine ⟨lim.keeps x.toInCall.keep, codeAny_func ?_⟩
 obtain ⟨t, ht, hq⟩ := hbody A outer s H vs Q E (hr.deeper _) hsp
 have I : Inv (Q6 CX P w K mg base N qual scope f cdv A outer s H E) [] (start N vs) H s1 := b1b S hr.hd e0 hl r x
 refine wpAny_mono (ht [] s1 (start N vs) H _ I hq) (fun fl s' hs => ?_) fun e s' hs => hs
 have fin : ∀ {σ' : St} {H' : Hp} {v : V} {u : Value}, Inv (Q6 CX P w K mg base N qual scope f cdv A outer s H E) [] σ' H' s' → RelV v u → Q v H' → CE outer P w H s Q u s' :=
  fun {σ' H' v u} J rv q => ⟨v, H', J.os, J.bare, J.base, J.hok, rv, q⟩
 cases fl with
 | ret u =>
  obtain ⟨v, σ', H', J, rv, q⟩ := hs
  exact fin J rv q
 | next =>
  obtain ⟨σ', H', J, q⟩ := hs
  exact fin (v := V.non) (u := Value.none) J rfl q
 | brk =>
  obtain ⟨_, _, _, q⟩ := hs
  exact False.elim q
 | cont =>
  obtain ⟨_, _, _, q⟩ := hs
  exact False.elim q
end L2

namespace L2
open PySem PySem.Spec PyProof.Rows
section
variable {X : Cx} {x : Str} {p pos : Pos} {e : Expr} {es : List Expr} {t : TA} {id T : String} {r : List V → Hp → VK → Prop}

noncomputable def tCB (r : List V → Hp → VK → Prop) (t : TA) : TE := fun σ H Q => t σ H fun vs H1 => r vs H1 Q
theorem a5H (hc : CallR X (.builtin id) r) (hg : Gl X x) (hm : X.mg x = none) (hv : bootBuiltins x = some (.builtin id)) (ha : PA X (e :: es) t) (hn : x ≠ "__name__" := by decide) (hdb : (x == ("__debug__" : Str)) = false := by decide)
  (he : starEach (e :: es) X.env = (false, eval e X.env) :: starEach es X.env := by rfl) (hpl : (backTo pos (starEach es X.env)).any (·.1) = false := by rfl) : PE X (.Call (.Name x p) (e :: es) [] pos) (tCB r t) := by
 intro pins s σ H Q I h
 refine wpAny_Call_Name_kw (a0f I hg hm hv ?_ hn hdb)
 exact PyProof.Rows.callWith_builtin1 (thn (ha pos pins s σ H _ I h) fun us s1 ⟨vs, H1, I1, r1, q1⟩ => hc pins s1 σ H1 vs us Q I1 r1 q1) he hpl
theorem b4m (hc : CallR X (.type T) r) (hg : Gl X x) (hm : X.mg x = none) (hv : bootBuiltins x = some (.type T)) (ha : PA X (e :: es) t) (hn : x ≠ "__name__" := by decide) (hdb : (x == ("__debug__" : Str)) = false := by decide)
  (he : starEach (e :: es) X.env = (false, eval e X.env) :: starEach es X.env := by rfl) (hpl : (backTo pos (starEach es X.env)).any (·.1) = false := by rfl) : PE X (.Call (.Name x p) (e :: es) [] pos) (tCB r t) := by
 intro pins s σ H Q I h
 refine wpAny_Call_Name_kw (a0f I hg hm hv ?_ hn hdb)
 exact PyProof.Rows.callWith_type1 (thn (ha pos pins s σ H _ I h) fun us s1 ⟨vs, H1, I1, r1, q1⟩ => hc pins s1 σ H1 vs us Q I1 r1 q1) he hpl
end
end L2

namespace HT
open PySem PyProof.Rows

section
open PySem.SeqAt
open PySem.AutoSeq1 (wpAny_loadPart')
open PySem.MeetsSeq PySem.MeetsSeq2 PySem.MeetsSeq3

end

section
variable {prog : Program} {w : World} {A : Around} {E : Value → Shared → Prop} {s : Shared}

theorem cat_tup {t b : Addr} {vs ws : List Value} {Q : Value → Shared → Prop} (ht : IsTup s.heap t vs.toArray) (hb : IsTup s.heap b ws.toArray) (hv : vs ≠ [])
  (h1 : ws = [] → Q (.ref t) s) (h2 : ws ≠ [] → Q (.ref s.heap.objs.size) { s with heap := s.heap.push { cls := .type "tuple", data := .seq (vs ++ ws).toArray } })
  (hsz : vs.length + ws.length ≤ sizeLine) : wpAny (model prog w) A (binaryOp .Add (.ref t) (.ref b)) Q E s := by
 obtain ⟨⟨cls, dd, data, sl⟩, ho, hc, n, hd⟩ := id ht
 obtain ⟨⟨cls2, dd2, data2, sl2⟩, ho2, hc2, n2, hd2⟩ := id hb
 simp only at hc hd hc2 hd2
 subst hc hd hc2 hd2
 have e : vs.toArray ++ ws.toArray = (vs ++ ws).toArray := by simp
 by_cases hw : ws = []
 ·exact concat_meets ⟨_, ho, rfl⟩ ⟨_, ho2, rfl⟩ noFill_tuple_add seq_tuple_add PySem.F.slot_tuple_add PySem.F.entry_tuple_add (PySem.F.args_tuple_add_2 _ _)
   (tuple_addW1 t b vs.toArray ws.toArray n n2 dd dd2 sl sl2 (by simpa using hv) (by simp [hw])) ⟨ho, ho2, h1 hw⟩
 ·refine concat_meets ⟨_, ho, rfl⟩ ⟨_, ho2, rfl⟩ noFill_tuple_add seq_tuple_add PySem.F.slot_tuple_add PySem.F.entry_tuple_add (PySem.F.args_tuple_add_2 _ _)
   (tuple_addW2 t b vs.toArray ws.toArray n n2 dd dd2 sl sl2 (by simpa using hv) (by simpa using hw) (by rw [List.size_toArray, List.size_toArray]; exact hsz)) ⟨ho, ho2, ?_⟩
  rw [e]
  exact h2 hw

noncomputable def sIx (n d : Nat) : Option Int → Nat
 | none => d
 | some v => if v < 0 then (v + (n : Int)).toNat else min v.toNat n
theorem sIx_nat (n d k : Nat) : sIx n d (some (k : Int)) = min k n := by
 show (if (k : Int) < 0 then ((k : Int) + (n : Int)).toNat else min (k : Int).toNat n) = min k n
 rw [if_neg (by first | decide | omega), Int.toNat_natCast]
theorem b07 (n d : Nat) (hd : d ≤ n) (o : Option Int) : sIx n d o ≤ n := by
 cases o with
 | none => exact hd
 | some v =>
  show (if v < 0 then (v + (n : Int)).toNat else min v.toNat n) ≤ n
  by_cases hv : v < 0
  ·rw [if_pos hv]; omega
  ·rw [if_neg hv]; exact Nat.min_le_right _ _
theorem a7w (v : Int) (n d : Nat) : (if v < 0 then max (v + (n : Int)) 0 else min v (n : Int)) = ((sIx n d (some v) : Nat) : Int) := by
 show (if v < 0 then max (v + (n : Int)) 0 else min v (n : Int)) = (((if v < 0 then (v + (n : Int)).toNat else min v.toNat n) : Nat) : Int)
 by_cases hv : v < 0
 ·simp only [if_pos hv]; omega
 ·simp only [if_neg hv]; omega
theorem a9H (lo hi : Option Int) (n : Nat) : Builtin.Slice.sliceAdjust lo hi 1 (n : Int) = (((sIx n 0 lo : Nat) : Int), ((sIx n n hi : Nat) : Int)) := by
 have h1 : ¬ ((1 : Int) < 0) := by omega
 unfold Builtin.Slice.sliceAdjust
 simp only [h1, if_false]
 refine Prod.ext ?_ ?_
 ·cases lo with
  | none => rfl
  | some v => exact a7w v n 0
 ·cases hi with
  | none => rfl
  | some v => exact a7w v n n
theorem b4k (i j : Nat) : Builtin.Slice.slicePlaces (i : Int) (j : Int) 1 = j - i := by
 unfold Builtin.Slice.slicePlaces
 have h1 : (1 : Int) > 0 := by omega
 simp only [h1, if_true, Int.ediv_one]
 split <;> omega
theorem a7k {v : Value} {o : Option Int} {Q : Option Int → Shared → Prop} (p : IsPart v o) (h : Q o s) : wpAny (model prog w) A (Builtin.Slice.slicePartIndex v) Q E s := by
 cases p with
 | none => exact slicePart_none h
 | int i t => exact slicePart_int h
theorem a6l {sl : Addr} {vl vu : Value} {lo hi : Option Int} {n : Nat} {Q : Int × Int × Nat → Shared → Prop} (hs : s.heap.IsSliceOf sl vl vu .none) (pl : IsPart vl lo) (pu : IsPart vu hi)
  (h : Q (((sIx n 0 lo : Nat) : Int), 1, sIx n n hi - sIx n 0 lo) s) : wpAny (model prog w) A (Builtin.Slice.sliceApplied (.ref sl) (pure (n : Int))) Q E s := by
 obtain ⟨os, hos, hcs, hds⟩ := id hs
 unfold Builtin.Slice.sliceApplied Builtin.Slice.sliceFields
 refine wpAny_bind (wpAny_bind (wpAny_field hos hds (x := vl) rfl (wpAny_bind (wpAny_field hos hds (x := vu) rfl (wpAny_bind (wpAny_field hos hds (x := .none) rfl (wpAny_pure ?_)))))))
 refine wpAny_bind (slicePart_none ?_)
 show wpAny _ _ (if ((1 : Int) == 0) = true then _ else _) _ _ s
 rw [if_neg (by decide)]
 refine wpAny_bind (a7k pl (wpAny_bind (a7k pu (wpAny_bind (wpAny_pure ?_)))))
 show wpAny _ _ (match Builtin.Slice.sliceAdjust lo hi 1 (n : Int) with | (lo, hi) => pure (lo, (1 : Int), Builtin.Slice.slicePlaces lo hi 1)) _ _ s
 rw [a9H lo hi n]
 show wpAny _ _ (pure (((sIx n 0 lo : Nat) : Int), (1 : Int), Builtin.Slice.slicePlaces ((sIx n 0 lo : Nat) : Int) ((sIx n n hi : Nat) : Int) 1)) _ _ s
 rw [b4k]
 exact wpAny_pure h
theorem a7C (xs : Array Value) (i k : Nat) : ((List.range k).filterMap fun (m : Nat) => xs[((i : Int) + (m : Int) * 1).toNat]?).toArray = ((xs.toList.drop i).take k).toArray := by
 have e : (fun (m : Nat) => xs[((i : Int) + (m : Int) * 1).toNat]?) = fun m => xs[i + m]? := by
  funext m
  have : ((i : Int) + (m : Int) * 1).toNat = i + m := by omega
  rw [this]
 rw [e]
 have := pick_run xs i k
 rw [List.filterMap_map] at this
 have e2 : ((fun x => xs[x]?) ∘ fun x => i + x) = fun m => xs[i + m]? := rfl
 rw [e2] at this
 rw [this]

theorem getItem_tuple_cut {t sl : Addr} {items : Array Value} {vl vu : Value} {lo hi : Option Int} {Q : Value → Shared → Prop} (ht : IsTup s.heap t items) (hs : s.heap.IsSliceOf sl vl vu .none) (pl : IsPart vl lo) (pu : IsPart vu hi)
  (hw : ¬ (sIx items.size 0 lo = 0 ∧ sIx items.size items.size hi = items.size))
  (h : Q (.ref s.heap.objs.size) { s with heap := s.heap.push { cls := .type "tuple", data := .seq ((items.toList.drop (sIx items.size 0 lo)).take (sIx items.size items.size hi - sIx items.size 0 lo)).toArray } })
  (hsz : items.size ≤ sizeLine) : wpAny (model prog w) A (getItem (.ref t) (.ref sl)) Q E s := by
 have htake : sizeOk (.seq ((items.toList.drop (sIx items.size 0 lo)).take (sIx items.size items.size hi - sIx items.size 0 lo)).toArray) := by
  show ((items.toList.drop (sIx items.size 0 lo)).take (sIx items.size items.size hi - sIx items.size 0 lo)).toArray.size ≤ sizeLine
  rw [List.size_toArray, List.length_take, List.length_drop, Array.length_toList]
  omega
 have hj : sIx items.size items.size hi ≤ items.size := b07 _ _ (Nat.le_refl _) hi
 obtain ⟨os, hos, hcs, hds⟩ := id hs
 have hTs : s.TypeIs (.ref sl) "slice" := ⟨os, hos, hcs⟩
 unfold getItem
 try with_reducible refine wpAny_holding ?_
 first | refine wpAny_bind (wpAny_pure ?_) | skip
 refine wpAny_bind (wpAny_sequenceKey ht.typeIs (by decide) ?_)
 refine wpAny_bind (wpAny_callSpecial?_slot (name := Str.ofString "__getitem__") ht.typeIs PyProof.Rows.slot_tuple_getitem
  (wpAny_call_entry PyProof.Rows.slot_tuple_getitem ht.typeIs entry_tuple_getitem ?_ (args_tuple_getitem _ _)))
 show wpAny _ _ (Builtin.Tuple.tupleItemsOf (.ref t) >>= _) _ _ s
 refine wpAny_bind (tupleItemsOf_ ht ?_)
 refine wpAny_bind (wpAny_typeOf hTs ?_)
 rw [if_pos (by decide)]
 refine wpAny_bind (a6l hs pl pu ?_)
 have hno : ¬ ((((sIx items.size 0 lo : Nat) : Int) == 0 && (1 : Int) == 1 && (sIx items.size items.size hi - sIx items.size 0 lo) == items.size) = true) := by
  intro q
  rw [Bool.and_eq_true, Bool.and_eq_true] at q
  have q1 : ((sIx items.size 0 lo : Nat) : Int) = 0 := eq_of_beq q.1.1
  have q2 : sIx items.size items.size hi - sIx items.size 0 lo = items.size := eq_of_beq q.2
  exact hw ⟨by omega, by omega⟩
 show wpAny _ _ (if (((sIx items.size 0 lo : Nat) : Int) == 0 && (1 : Int) == 1 && (sIx items.size items.size hi - sIx items.size 0 lo) == items.size) = true then _ else _) _ _ s
 rw [if_neg hno, a7C]
 first
  | exact wpAny_bind (m := Builtin.Tuple.tupleExact _) (wpAny_newObj_type (wpAny_pure ⟨_, rfl, wpAny_pure h⟩) htake)
  | exact wpAny_bind (m := Builtin.Tuple.tupleExact _) (wpAny_newObj_type (wpAny_bind (wpAny_pure (wpAny_pure ⟨_, rfl, wpAny_pure h⟩))) htake)
  | exact wpAny_bind (wpAny_bind (m := Builtin.Tuple.tupleExact _) (wpAny_newObj_type (wpAny_pure (wpAny_pure ⟨_, rfl, wpAny_pure h⟩)) htake))
  | exact wpAny_bind (wpAny_bind (m := Builtin.Tuple.tupleExact _) (wpAny_newObj_type (wpAny_pure ⟨_, rfl, wpAny_pure h⟩) htake))
end
end HT

namespace L2
open PySem PySem.Spec PyProof.Rows

noncomputable abbrev TO := St → Hp → (Option Int → Hp → Prop) → Prop
noncomputable def PO (X : Cx) (e : Option Expr) (t : TO) : Prop :=
 ∀ (pins : List (Addr × Obj)) (s : Shared) (σ : St) (H : Hp) (Q : Option Int → Hp → Prop), Inv X pins σ H s → t σ H Q →
  wpAny (model X.prog X.w) X.A (evalPart e X.env) (fun u s' => ∃ o H', Inv X pins σ H' s' ∧ IsPart u o ∧ Q o H') X.xe s
noncomputable def b06 : TO := fun _ H Q => Q none H
noncomputable def a9x (t : TE) : TO := fun σ H Q => t σ H fun x H1 => ∃ i, x = .int i ∧ Q (some i) H1

section
variable {X : Cx} {e : Expr} {te : TE} {lo hi : Option Expr} {tl th : TO} {pos p2 : Pos}

theorem a6I : PO X none b06 := by
 intro pins s σ H Q I h
 rw [evalPart_none]
 exact wpAny_pure ⟨none, H, I, .none, h⟩
theorem a7a (h : PE X e te) : PO X (some e) (a9x te) := by
 intro pins s σ H Q I hw
 rw [evalPart_some]
 refine thn (h pins s σ H _ I hw) fun u s1 ⟨x, H1, I1, r1, q1⟩ => ?_
 obtain ⟨i, rfl, q⟩ := q1
 obtain ⟨t, rfl⟩ := r1
 exact ⟨some i, H1, I1, .int i t, q⟩

noncomputable def SlR (X : Cx) (r : V → Option Int → Option Int → Hp → VK → Prop) : Prop :=
 ∀ (pins : List (Addr × Obj)) (s : Shared) (σ : St) (H : Hp) (x : V) (v vl vu : Value) (lo hi : Option Int) (sl : Addr) (Q : VK), Inv X pins σ H s → RelV x v → s.heap.IsSliceOf sl vl vu .none → IsPart vl lo → IsPart vu hi → r x lo hi H Q →
  ∃ T id, typeLookup (.type T) "__getitem__" = pure (some (.builtin id)) ∧ s.TypeIs v T ∧ wpAny (model X.prog X.w) X.A (getItem v (.ref sl)) (EP X pins σ Q) X.xe s
theorem SlR.or {r r' : V → Option Int → Option Int → Hp → VK → Prop} (h : SlR X r) (h' : SlR X r') : SlR X (fun x lo hi H Q => r x lo hi H Q ∨ r' x lo hi H Q) := by
 intro pins s σ H x v vl vu lo hi sl Q I rx hs pl pu q
 rcases q with q | q
 ·exact h pins s σ H x v vl vu lo hi sl Q I rx hs pl pu q
 ·exact h' pins s σ H x v vl vu lo hi sl Q I rx hs pl pu q
noncomputable def tSl (r : V → Option Int → Option Int → Hp → VK → Prop) (te : TE) (tl th : TO) : TE := fun σ H Q => te σ H fun x H1 => tl σ H1 fun l H2 => th σ H2 fun u H3 => r x l u H3 Q
theorem a6Y {r : V → Option Int → Option Int → Hp → VK → Prop} (hr : SlR X r) (he : PE X e te) (hl : PO X lo tl) (hu : PO X hi th) : PE X (.Subscript e (.Slice lo hi none p2) pos) (tSl r te tl th) := by
 intro pins s σ H Q I h
 refine Subscript_ (thn (he pins s σ H _ I h) fun v s1 ⟨x, H1, I1, r1, q1⟩ => ?_)
 refine wpAny_Slice (thn (hl pins s1 σ H1 _ I1 q1) fun vl s2 ⟨l, H2, I2, pl, q2⟩ => thn (hu pins s2 σ H2 _ I2 q2) fun vu s3 ⟨u, H3, I3, pu, q3⟩ => ?_)
 rw [evalPart_none]
 refine wpAny_pure ?_
 have I4 : Inv X pins σ H3 { s3 with heap := s3.heap.push { cls := .type "slice", data := .fields #[vl, vu, .none] } } := I3.kept (t' := s3.toks) fun b ob q => Heap.get?_push_of_some _ q
 obtain ⟨T, id, hT, ht, hg⟩ := hr pins { s3 with heap := s3.heap.push { cls := .type "slice", data := .fields #[vl, vu, .none] } } σ H3 x v vl vu l u s3.heap.objs.size Q I4 r1 (Heap.IsSliceOf.new ..) pl pu q3
 show wpAny (model X.prog X.w) X.A (subscriptTail e (.Slice lo hi none p2) v (.ref s3.heap.objs.size)) (EP X pins σ Q) X.xe { s3 with heap := s3.heap.push { cls := .type "slice", data := .fields #[vl, vu, .none] } }
 exact tail_any (ops := [.ref s3.heap.objs.size, v]) ht hT hg (by with_unfolding_all rfl)

noncomputable def K6 (xs : List V) (lo hi : Option Int) : List V := (xs.drop (HT.sIx xs.length 0 lo)).take (HT.sIx xs.length xs.length hi - HT.sIx xs.length 0 lo)
theorem a7p (xs : List V) (lo hi : Option Int) : (K6 xs lo hi).length ≤ xs.length := by
 unfold K6
 rw [List.length_take, List.length_drop]
 omega
noncomputable def a82 (K : PySem.W.Frag) : V → Option Int → Option Int → Hp → VK → Prop := fun x lo hi H Q => ∃ a xs, x = .ref a ∧ SqT K H a xs ∧
 ¬ (HT.sIx xs.length 0 lo = 0 ∧ HT.sIx xs.length xs.length hi = xs.length) ∧ ∀ p, H p = none → Q (.ref p) (upd H p (.tup (K6 xs lo hi)))
theorem b1s : SlR X (a82 X.K) := by
 intro pins s σ H x v vl vu lo hi sl Q I rx hs pl pu h
 obtain ⟨a, xs, rfl, hx, hw, q⟩ := h
 cases rx
 obtain ⟨its, r, ht, hz⟩ := I.tuple hx
 have hlen : its.toArray.size = xs.length := by rw [List.size_toArray]; exact r.length.symm
 refine ⟨"tuple", _, PyProof.Rows.slot_tuple_getitem.lookup, ht.typeIs, ?_⟩
 refine HT.getItem_tuple_cut ht hs pl pu (by rw [hlen]; exact hw) ?_ (by rw [hlen]; exact hz)
 rw [hlen]
 refine ⟨.ref s.heap.objs.size, _, I.laid (t' := s.toks) (o := .tup (K6 xs lo hi)) (fun b ob q => Heap.get?_push_of_some _ q) (Nat.le_refl _) ?_, rfl, q _ (I.hok.fresh (Nat.le_refl _))⟩
 exact ⟨Nat.le_trans (a7p xs lo hi) hz, _, (r.drop (HT.sIx xs.length 0 lo)).take (HT.sIx xs.length xs.length hi - HT.sIx xs.length 0 lo), IsTup.new _ _⟩

noncomputable def a6H (K : PySem.W.Frag) : R2 := fun x y H Q => ∃ a b xs ys, x = .ref a ∧ y = .ref b ∧ SqT K H a xs ∧ SqT K H b ys ∧ xs ≠ [] ∧ xs.length + ys.length ≤ sizeLine ∧
 (ys = [] → Q (.ref a) H) ∧ (ys ≠ [] → ∀ p, H p = none → Q (.ref p) (upd H p (.tup (xs ++ ys))))
theorem Vals.nil_iff {xs : List V} {us : List Value} (r : Vals xs us) : us = [] ↔ xs = [] := by
 cases r with
 | nil => simp
 | cons _ _ => simp
theorem b4p : OpR X (binaryOp .Add) (a6H X.K) := by
 intro pins s σ H x y v u Q I rx ry h
 obtain ⟨a, b, xs, ys, rfl, rfl, ha, hb, hx, hz, q1, q2⟩ := h
 cases rx
 cases ry
 obtain ⟨its, r1, p1, _⟩ := I.tuple ha
 obtain ⟨its2, r2, p2, _⟩ := I.tuple hb
 refine HT.cat_tup p1 p2 (fun z => hx (r1.nil_iff.mp z)) (fun z => ⟨.ref a, H, I, rfl, q1 (r2.nil_iff.mp z)⟩) (fun z => ?_) (by rw [← r1.length, ← r2.length]; exact hz)
 refine ⟨.ref s.heap.objs.size, _, I.laid (t' := s.toks) (o := .tup (xs ++ ys)) (fun b ob q => Heap.get?_push_of_some _ q) (Nat.le_refl _) ?_, rfl, q2 (fun w => z (r2.nil_iff.mpr w)) _ (I.hok.fresh (Nat.le_refl _))⟩
 exact ⟨by rw [List.length_append]; exact hz, _, r1.append r2, IsTup.new _ _⟩
end
end L2

namespace L2
open PySem PySem.Spec PyProof.Rows

noncomputable def ixN (n : Nat) (i : Int) : Option Nat := if 0 ≤ i then (if i < n then some i.toNat else none) else if -(n : Int) ≤ i then some (i + n).toNat else none
noncomputable def atI {α : Type} (xs : List α) (i : Int) : Option α := (ixN xs.length i).bind fun j => xs[j]?
theorem b2K {n : Nat} {i : Int} {j : Nat} (h : ixN n i = some j) : seqIndex? i n = some j ∧ j < n ∧ -(n : Int) ≤ i ∧ i < n := by
 unfold ixN at h
 by_cases h0 : 0 ≤ i
 ·rw [if_pos h0] at h
  by_cases h1 : i < n
  ·rw [if_pos h1] at h
   have e : i.toNat = j := Option.some.inj h
   exact ⟨by rw [seqIndex_of h0 h1, e], by omega, by omega, h1⟩
  ·rw [if_neg h1] at h; cases h
 ·rw [if_neg h0] at h
  by_cases h1 : -(n : Int) ≤ i
  ·rw [if_pos h1] at h
   have e : (i + n).toNat = j := Option.some.inj h
   exact ⟨by rw [seqIndex_neg (by first | decide | omega) h1, e], by omega, h1, by omega⟩
  ·rw [if_neg h1] at h; cases h
theorem a6J {α : Type} {xs : List α} {i : Int} {v : α} (h : atI xs i = some v) : ∃ j, seqIndex? i xs.length = some j ∧ xs[j]? = some v ∧ j < xs.length ∧ -(xs.length : Int) ≤ i ∧ i < xs.length := by
 unfold atI at h
 cases e : ixN xs.length i with
 | none => rw [e] at h; cases h
 | some j =>
  rw [e] at h
  obtain ⟨h1, h2, h3, h4⟩ := b2K e
  exact ⟨j, h1, h, h2, h3, h4⟩
theorem V6 {α : Type} (xs : List α) (v : α) : atI (xs ++ [v]) (-1) = some v := by
 have hl : (xs ++ [v]).length = xs.length + 1 := by simp
 have e : ixN (xs ++ [v]).length (-1) = some xs.length := by
  unfold ixN
  rw [hl, if_neg (by decide), if_pos (by first | decide | omega)]
  congr 1
  omega
 unfold atI
 rw [e]
 show (xs ++ [v])[xs.length]? = some v
 simp

noncomputable def a59 (b : Expr) : Prop := ∀ o i, subscripted b false o i = operate [o, i] (getItem o i)
noncomputable def IxR (X : Cx) (r : R2) : Prop :=
 ∀ (value slice : Expr) (pins : List (Addr × Obj)) (s : Shared) (σ : St) (H : Hp) (x y : V) (v u : Value) (Q : VK), Inv X pins σ H s → RelV x v → RelV y u → r x y H Q →
  subscripted slice false v u = operate [v, u] (getItem v u) → wpAny (model X.prog X.w) X.A (subscriptTail value slice v u) (EP X pins σ Q) X.xe s
noncomputable def MtR (X : Cx) (id : String) (r : V → List V → Hp → VK → Prop) : Prop :=
 ∀ (pins : List (Addr × Obj)) (s : Shared) (σ : St) (H : Hp) (x : V) (xs : List V) (v : Value) (us : List Value) (Q : VK), Inv X pins σ H s → RelV x v → Vals xs us → r x xs H Q →
  wpAny (model X.prog X.w) X.A (call (.builtin id) (v :: us)) (EP X pins σ Q) X.xe s
section
variable {X : Cx} {a b : Expr} {ta tb : TE} {pos : Pos}
theorem IxR.or {r r' : R2} (h : IxR X r) (h' : IxR X r') : IxR X (fun x y H Q => r x y H Q ∨ r' x y H Q) := by
 intro value slice pins s σ H x y v u Q I rx ry q hs
 rcases q with q | q
 ·exact h value slice pins s σ H x y v u Q I rx ry q hs
 ·exact h' value slice pins s σ H x y v u Q I rx ry q hs
theorem a7I {r : R2} (hr : IxR X r) (ha : PE X a ta) (hb : PE X b tb) (hs : a59 b) : PE X (.Subscript a b pos) (tOp r ta tb) := by
 intro pins s σ H Q I h
 exact Subscript_ (a2z ha hb I h fun v u s2 x y H2 I2 rx ry q => hr a b pins s2 σ H2 x y v u Q I2 rx ry q (hs _ _))

noncomputable def a3J (K : PySem.W.Frag) : R2 := fun x y H Q => ∃ p xs i v, x = .ref p ∧ y = .int i ∧ SqL K H p xs ∧ atI xs i = some v ∧ Q v H
noncomputable def a3V (K : PySem.W.Frag) : R2 := fun x y H Q => ∃ p xs i v, x = .ref p ∧ y = .int i ∧ SqT K H p xs ∧ atI xs i = some v ∧ Q v H
theorem ix_list : IxR X (a3J X.K) := by
 intro value slice pins s σ H x y v u Q I rx ry h hs
 obtain ⟨p, xs, i, z, rfl, rfl, hq, he, q⟩ := h
 cases rx
 obtain ⟨t, rfl⟩ := ry
 obtain ⟨its, r, pl, hz⟩ := I.list hq
 obtain ⟨j, h1, h2, h3, h4, h5⟩ := a6J he
 obtain ⟨w, ew, rw'⟩ := r.get h2
 have hl := r.length
 have hn := a0U
 have fin : EP X pins σ Q w s := ⟨z, H, I, rw', q⟩
 by_cases h0 : 0 ≤ i
 ·have hj : i.toNat = j := by
   rw [seqIndex_of h0 h5] at h1
   exact Option.some.inj h1
  exact item_listR pl.isList h0 (by first | decide | omega) (by rw [hj]; simpa using ew) fin hs
 ·have hj : (i + (its.toArray.size : Int)).toNat = j := by
   rw [seqIndex_neg (by first | decide | omega) h4] at h1
   rw [List.size_toArray, ← hl]
   exact Option.some.inj h1
  exact subscriptTail_builtinR (x := w) pl.isList.typeIs slot_list_getitem.lookup
   (wpAny_getItem_list_neg (Q := fun r s' => r = w ∧ EP X pins σ Q r s') pl.isList (by first | decide | omega) (by rw [List.size_toArray] <;> omega) (by first | decide | omega) (by rw [hj]; simpa using ew) ⟨rfl, fin⟩) hs
theorem a8u : IxR X (a3V X.K) := by
 intro value slice pins s σ H x y v u Q I rx ry h hs
 obtain ⟨p, xs, i, z, rfl, rfl, hq, he, q⟩ := h
 cases rx
 obtain ⟨t, rfl⟩ := ry
 obtain ⟨its, r, pl, hz⟩ := I.tuple hq
 obtain ⟨j, h1, h2, h3, h4, h5⟩ := a6J he
 obtain ⟨w, ew, rw'⟩ := r.get h2
 have hl := r.length
 have hn := a0U
 have fin : EP X pins σ Q w s := ⟨z, H, I, rw', q⟩
 exact subscriptTail_builtinR (x := w) pl.typeIs slot_tuple_getitem.lookup
  (getItem_tuple (j := j) (Q := fun r s' => r = w ∧ EP X pins σ Q r s') pl (by first | decide | omega) (by first | decide | omega) (by rw [List.size_toArray, ← hl]; exact h1) (by simpa using ew) ⟨rfl, fin⟩) hs
theorem b1F (lo hi : Option Int) (n : Nat) : (sliceBounds lo hi none n).1 = ((HT.sIx n 0 lo : Nat) : Int) ∧ (sliceBounds lo hi none n).2.1 = ((HT.sIx n n hi : Nat) : Int) ∧ (sliceBounds lo hi none n).2.2 = 1 := by
 refine ⟨?_, ?_, rfl⟩
 ·cases lo with
  | none => simp [sliceBounds, HT.sIx]
  | some i =>
   simp only [sliceBounds, HT.sIx, Option.getD_none, show (1 : Int) > 0 by decide, if_true]
   by_cases h : i < 0
   ·simp only [h, if_true] <;> omega
   ·simp only [h, if_false] <;> omega
 ·cases hi with
  | none => simp [sliceBounds, HT.sIx]
  | some i =>
   simp only [sliceBounds, HT.sIx, Option.getD_none, show (1 : Int) > 0 by decide, if_true]
   by_cases h : i < 0
   ·simp only [h, if_true] <;> omega
   ·simp only [h, if_false] <;> omega
theorem a8n (its : List Value) (lo hi : Option Int) : slicePick its.toArray lo hi none = ((its.drop (HT.sIx its.length 0 lo)).take (HT.sIx its.length its.length hi - HT.sIx its.length 0 lo)).toArray := by
 obtain ⟨h1, h2, h3⟩ := b1F lo hi its.toArray.size
 unfold slicePick
 rw [h1, h2, h3]
 simp only [sliceRange_one, pick_run, List.size_toArray] <;> rfl
noncomputable def b08 (K : PySem.W.Frag) : V → Option Int → Option Int → Hp → VK → Prop := fun x lo hi H Q => ∃ a xs, x = .ref a ∧ SqL K H a xs ∧ ∀ p, H p = none → Q (.ref p) (upd H p (.lst (K6 xs lo hi)))
theorem a6m : SlR X (b08 X.K) := by
 intro pins s σ H x v vl vu lo hi sl Q I rx hs pl pu h
 obtain ⟨a, xs, rfl, hx, q⟩ := h
 cases rx
 obtain ⟨its, r, ht, hz⟩ := I.list hx
 have hlen := r.length
 refine ⟨"list", _, slot_list_getitem.lookup, ht.isList.typeIs, ?_⟩
 refine wpAny_getItem_list_slice ht.isList hs pl pu .none (by simp) ?_ (by rw [List.size_toArray] <;> omega)
 rw [a8n, ← hlen]
 refine ⟨.ref s.heap.objs.size, _, I.laid (t' := s.toks) (o := .lst (K6 xs lo hi)) (fun b ob q => Heap.get?_push_of_some _ q) (Nat.le_refl _) ?_, rfl, q _ (I.hok.fresh (Nat.le_refl _))⟩
 exact ⟨Nat.le_trans (a7p xs lo hi) hz, _, 0, (r.drop (HT.sIx xs.length 0 lo)).take (HT.sIx xs.length xs.length hi - HT.sIx xs.length 0 lo), Heap.get?_push_size _ rfl⟩

theorem call_len_seq : CallR X (.builtin "len") (fun xs H Q => ∃ p ys, xs = [.ref p] ∧ (SqL X.K H p ys ∨ SqT X.K H p ys) ∧ Q (.int ys.length) H) := by
 intro pins s σ H xs us Q I r h
 obtain ⟨p, ys, rfl, hq, q⟩ := h
 obtain ⟨u, rfl, rx⟩ := S6 r
 cases rx
 have hn := a0U
 rcases hq with hq | hq
 ·obtain ⟨its, r', pl, hz⟩ := I.list hq
  have hlen := r'.length
  exact Calls.call_len_list pl.isList (by simp only [List.size_toArray] <;> omega) ⟨.int ys.length, H, I.tok _, ⟨s.toks + 1, by rw [List.size_toArray, hlen]⟩, q⟩
 ·obtain ⟨its, r', pl, hz⟩ := I.tuple hq
  have hlen := r'.length
  exact len_tuple pl (by simp only [List.size_toArray] <;> omega) ⟨.int ys.length, H, I.tok _, ⟨s.toks + 1, by rw [List.size_toArray, hlen]⟩, q⟩
theorem b1y : CallR X (.builtin "len") (fun xs H Q => ∃ z, xs = [.str z] ∧ z.length ≤ sizeLine ∧ Q (.int z.length) H) := by
 intro pins s σ H xs us Q I r h
 obtain ⟨z, rfl, hz, q⟩ := h
 obtain ⟨u, rfl, t, rfl⟩ := S6 r
 have hn := a0U
 exact len_str (by first | decide | omega) ⟨.int z.length, H, I.tok _, ⟨_, rfl⟩, q⟩
theorem CallR.or {f : Value} {r r' : List V → Hp → VK → Prop} (h : CallR X f r) (h' : CallR X f r') : CallR X f (fun xs H Q => r xs H Q ∨ r' xs H Q) := by
 intro pins s σ H xs us Q I rs q
 rcases q with q | q
 ·exact h pins s σ H xs us Q I rs q
 ·exact h' pins s σ H xs us Q I rs q
theorem R7 : CallR X (.type "tuple") (fun xs H Q => ∃ p ys, xs = [.ref p] ∧ ((SqL X.K H p ys ∧ ∀ l, H l = none → Q (.ref l) (upd H l (.tup ys))) ∨ (SqT X.K H p ys ∧ Q (.ref p) H))) := by
 intro pins s σ H xs us Q I r h
 obtain ⟨p, ys, rfl, h⟩ := h
 obtain ⟨u, rfl, rx⟩ := S6 r
 cases rx
 rcases h with ⟨hq, q⟩ | ⟨hq, q⟩
 ·obtain ⟨its, r', pl, hz⟩ := I.list hq
  have hlen := r'.length
  refine call_tuple_list pl.isList (fun h' kp => ?_) (by simp only [List.size_toArray] <;> omega)
  have I1 : Inv X pins σ H { s with heap := h' } := I.kept (t' := s.toks) kp
  have I2 : Inv X pins σ (upd H h'.objs.size (.tup ys)) { s with heap := h'.push { cls := .type "tuple", data := .seq its.toArray } } :=
   I1.laid (t' := s.toks) (fun b o e => Heap.get?_push_of_some _ e) (Nat.le_refl _) (show ObjOk X.prog X.w _ _ _ (.tup ys) from ⟨hz, its, r', IsTup.new _ _⟩)
  exact ⟨.ref h'.objs.size, _, I2, rfl, q _ (I1.hok.fresh (Nat.le_refl _))⟩
 ·obtain ⟨its, r', pl, hz⟩ := I.tuple hq
  exact call_tuple_same pl ⟨.ref p, H, I, rfl, q⟩

noncomputable def tyV (K : PySem.W.Frag) (T : String) (x : V) (H : Hp) : Prop := match x with
 | .str _ => T = "str"
 | .int _ => T = "int"
 | .ref p => (T = "list" ∧ ∃ xs, SqL K H p xs) ∨ (T = "tuple" ∧ ∃ o, K.lookup p = some o ∧ o.cls = .type "tuple" ∧ o.dict = none) ∨
   (T = "dict" ∧ ((∃ kvs, H p = some (.dK kvs)) ∨ ∃ kvs, H p = some (.dT kvs))) ∨ (T = "set" ∧ ∃ S n, H p = some (.set S n))
 | _ => False
theorem b0l {pins : List (Addr × Obj)} {σ : St} {H : Hp} {s : Shared} {T : String} {x : V} {v : Value} (I : Inv X pins σ H s) (r : RelV x v) (ty : tyV X.K T x H) :
  s.TypeIs v T ∧ ∀ a, v = .ref a → ∃ ob, s.heap.get? a = some ob ∧ ob.dict = none := by
 cases x with
 | str z =>
  obtain ⟨t, rfl⟩ := r
  cases (show T = "str" from ty)
  exact ⟨typeIs_str s z t, fun _ e => nomatch e⟩
 | int i =>
  obtain ⟨t, rfl⟩ := r
  cases (show T = "int" from ty)
  exact ⟨typeIs_int s i t, fun _ e => nomatch e⟩
 | ref p =>
  cases r
  rcases ty with ⟨rfl, xs, hq⟩ | ⟨rfl, o, hk, hc, hd⟩ | ⟨rfl, hk⟩ | ⟨rfl, S, n, hk⟩
  ·obtain ⟨its, _, pl, _⟩ := I.list hq
   refine ⟨pl.isList.typeIs, fun a e => ?_⟩
   cases e
   obtain ⟨o, n, e, c, hd, _⟩ := pl
   exact ⟨o, e, hd⟩
  ·refine ⟨⟨o, I.kIn p o hk, hc⟩, fun a e => ?_⟩
   cases e
   exact ⟨o, I.kIn _ o hk, hd⟩
  ·have z : ∃ o, s.heap.get? p = some o ∧ o.ExactDict := by
    rcases hk with ⟨kvs, hk⟩ | ⟨kvs, hk⟩
    ·obtain ⟨_, _, _, _, o, _, _, e, ex, _⟩ := I.hok p _ hk
     exact ⟨o, e, ex⟩
    ·obtain ⟨_, _, _, _, o, _, _, e, ex, _⟩ := I.hok p _ hk
     exact ⟨o, e, ex⟩
   obtain ⟨o, e, ex⟩ := z
   refine ⟨⟨o, e, ex.1⟩, fun a e2 => ?_⟩
   cases e2
   exact ⟨o, e, ex.2.1⟩
  ·obtain ⟨o, _, _, _, e, ex, _⟩ := I.hok p _ hk
   refine ⟨⟨o, e, ex.1⟩, fun a e2 => ?_⟩
   cases e2
   exact ⟨o, e, ex.2.1⟩
 | _ => exact False.elim ty
noncomputable def tBM (K : PySem.W.Frag) (T : String) (r : V → List V → Hp → VK → Prop) (to : TE) (t : TA) : TE := fun σ H Q => to σ H fun x H1 => tyV K T x H1 ∧ t σ H1 fun xs H2 => r x xs H2 Q
variable {o e : Expr} {es : List Expr} {to : TE} {t : TA} {name : Str} {apos cpos : Pos} {T id : String} {r : V → List V → Hp → VK → Prop}
theorem b1S (pa : PlainAttrs T) (slot : Slot T name id) (hty : typeOf (.builtin id) = pure (.type "method_descriptor")) (hm : MtR X id r) (ho : PE X o to) (ha : PA X (e :: es) t)
  (hbase : attributeBase o name X.env (eval o X.env) = eval o X.env := by rfl)
  (hfew : ((backTo cpos (starEach (e :: es) X.env)).all (fun x => !x.1) && (backToKw cpos (keywordEach [] X.env)).all (fun x => x.1.isSome)
   && decide ((e :: es).length + ([] : List Keyword).length + (if ([] : List Keyword).isEmpty then 0 else 1) < 30)) = true := by rfl)
  (hline : (apos.endLine == cpos.line) = true := by rfl) (hs : starEach (e :: es) X.env = (false, eval e X.env) :: starEach es X.env := by rfl) (hplain : (backTo cpos (starEach es X.env)).any (·.1) = false := by rfl) :
  PE X (.Call (.Attribute o name apos) (e :: es) [] cpos) (tBM X.K T r to t) := by
 intro pins s σ H Q I h
 refine wpAny_Call_method_late hbase hfew hline rfl (thn (ho pins s σ H _ I h) fun v s1 ⟨x, H1, I1, r1, ty, q1⟩ => ?_)
 obtain ⟨h1, h2⟩ := b0l I1 r1 ty
 refine ⟨T, id, pa, slot, hty, h1, h2, ?_⟩
 have hA := ha cpos pins s1 σ H1 _ I1 q1
 rw [hs] at hA ⊢
 refine Calls.callWith_builtin (by show (false || (backTo cpos (starEach es X.env)).any (·.1)) = false; rw [hplain] <;> rfl) (Calls.evalArgs_plain ?_)
 exact thn hA fun us s2 ⟨vs, H2, I2, r2, q2⟩ => hm pins s2 σ H2 x vs v us Q I2 r1 r2 q2
end
end L2

namespace L2
open PySem PySem.Spec PyProof.Rows

noncomputable def MtM (X : Cx) (id : String) (r : V → List V → Hp → VK → Prop) : Prop :=
 ∀ (pins : List (Addr × Obj)) (s : Shared) (σ : St) (H : Hp) (x : V) (xs : List V) (v : Value) (us : List Value) (Q : VK), Inv X pins σ H s → RelV x v → Vals xs us → r x xs H Q →
  wpAny (model X.prog X.w) X.A (call (.builtin id) (v :: us)) (EP X pins σ Q) X.xe s

theorem Vals.one : ∀ {x : V} {us : List Value}, Vals [x] us → ∃ u, us = [u] ∧ RelV x u
 | _, _, .cons r .nil => ⟨_, rfl, r⟩
theorem Vals.rep {xs : List V} {us : List Value} (h : Vals xs us) : ∀ k : Nat, Vals (List.replicate k xs).flatten (List.replicate k us).flatten
 | 0 => .nil
 | k + 1 => by
  rw [List.replicate_succ, List.replicate_succ, List.flatten_cons, List.flatten_cons]
  exact Vals.append h (Vals.rep h k)
theorem a5u (its : List Value) : ∀ (k : Nat) (acc : List Value),
  List.foldl (fun x1 x2 => x1 ++ x2) acc.toArray (List.replicate k its.toArray) = (acc ++ (List.replicate k its).flatten).toArray
 | 0, acc => by simp
 | k + 1, acc => by
  have e : acc.toArray ++ its.toArray = (acc ++ its).toArray := by simp
  have e2 : (acc ++ its) ++ (List.replicate k its).flatten = acc ++ (List.replicate (k + 1) its).flatten := by
   rw [List.replicate_succ, List.flatten_cons, List.append_assoc]
  rw [← e2, ← a5u its k (acc ++ its), ← e, List.replicate_succ, List.foldl_cons]

section
variable {X : Cx} {pins : List (Addr × Obj)} {σ : St} {H : Hp} {s : Shared} {l b : Addr} {xs ys zs : List V}

theorem Inv.lset {its its' : List Value} {n : Nat} {f : Array Value → Array Value} {t' : Nat} (I : Inv X pins σ H s) (hH : H l = some (.lst xs))
  (e : s.heap.get? l = some { cls := .type "list", data := .seq its.toArray n }) (hf : f its.toArray = its'.toArray) (hv : Vals ys its') (hz : ys.length ≤ sizeLine) :
  Inv X pins σ (upd H l (.lst ys)) { s with heap := s.heap.update l (Obj.mapSeq f), toks := t' } := by
 have q := PySem.IsL.update e f
 rw [hf] at q
 refine I.write (x := l) (e := l) (by rw [hH]; exact trivial) (.inl rfl) (fun b' u hb hu => (Heap.get?_update_other s.heap (Obj.mapSeq f) (Ne.symm hb)).trans hu) ⟨_, q⟩ ?_
 exact ⟨hz, its', _, hv, q⟩
theorem Inv.lnew {its : List Value} {t' : Nat} (I : Inv X pins σ H s) (hv : Vals ys its) (hz : ys.length ≤ sizeLine) :
  Inv X pins σ (upd H s.heap.objs.size (.lst ys)) { s with heap := s.heap.push { cls := .type "list", data := .seq its.toArray }, toks := t' } :=
 I.laid (fun _ _ q => Heap.get?_push_of_some _ q) (Nat.le_refl _) ⟨hz, its, 0, hv, Heap.get?_push_size _ rfl⟩
theorem Inv.fresh (I : Inv X pins σ H s) : H s.heap.objs.size = none := I.hok.fresh (Nat.le_refl _)
theorem Inv.lstM (I : Inv X pins σ H s) (hH : H l = some (.lst xs)) : xs.length ≤ sizeLine ∧ ∃ (its : List Value) (n : Nat), Vals xs its ∧ xs.length = its.length ∧ s.heap.get? l = some { cls := .type "list", data := .seq its.toArray n } := by
 obtain ⟨z, its, n, r, e⟩ := I.hok l _ hH
 exact ⟨z, its, n, r, r.length, e⟩

theorem b3l {n : Nat} (h : n ≤ sizeLine) : Builtin.List.listTooLong n = false := by
 unfold Builtin.List.listTooLong
 exact decide_eq_false (by first | decide | omega)
end

section
variable {X : Cx}

noncomputable def b4r : V → List V → Hp → VK → Prop := fun x vs H Q => ∃ l xs y, x = .ref l ∧ vs = [y] ∧ H l = some (.lst xs) ∧ xs.length < sizeLine ∧ Q .non (upd H l (.lst (xs ++ [y])))
theorem a5W : MtM X "list.append" b4r := by
 intro pins s σ H x vs v us Q I rx rv h
 obtain ⟨l, xs, y, rfl, rfl, hH, hz, q⟩ := h
 cases rx
 obtain ⟨u, rfl, ru⟩ := rv.one
 obtain ⟨z, its, n, r, hl, e⟩ := I.lstM hH
 refine call_meets F.slot_list_append ⟨_, e, rfl⟩ F.entry_list_append (F.args_list_append_2 _ _) (PySem.list_append l its.toArray n u (by rw [List.size_toArray]; omega)) ⟨e, ?_⟩
 refine ⟨.non, _, I.lset (its' := its ++ [u]) hH e (by simp) (r.append (.cons ru .nil)) ?_, rfl, q⟩
 rw [List.length_append, List.length_singleton]
 omega

noncomputable def a5f : R2 := fun x y H Q => ∃ l b xs zs, x = .ref l ∧ y = .ref b ∧ H l = some (.lst xs) ∧ H b = some (.lst zs) ∧ xs.length + zs.length ≤ sizeLine ∧ ∀ p, H p = none → Q (.ref p) (upd H p (.lst (xs ++ zs)))
theorem a91 : OpR X (binaryOp .Add) a5f := by
 intro pins s σ H x y v u Q I rx ry h
 obtain ⟨l, b, xs, zs, rfl, rfl, hH, hB, hz, q⟩ := h
 cases rx
 cases ry
 obtain ⟨z, its, n, r, hl, e⟩ := I.lstM hH
 obtain ⟨z2, its2, n2, r2, hl2, e2⟩ := I.lstM hB
 refine PySem.P.add_list e e2 ?_ (by rw [List.size_toArray, List.size_toArray]; omega)
 have ea : its.toArray ++ its2.toArray = (its ++ its2).toArray := by simp
 rw [ea]
 exact ⟨.ref _, _, I.lnew (t' := s.toks) (r.append r2) (by rw [List.length_append]; omega), rfl, q _ I.fresh⟩
noncomputable def a6p : R2 := fun x y H Q => ∃ l k xs, x = .ref l ∧ y = .int k ∧ H l = some (.lst xs) ∧ -(2 ^ 63) ≤ k ∧ k < 2 ^ 63 ∧ xs.length * k.toNat ≤ sizeLine ∧
 ∀ p, H p = none → Q (.ref p) (upd H p (.lst (List.replicate k.toNat xs).flatten))
theorem b2b {α : Type} (xs : List α) (k : Nat) : (List.replicate k xs).flatten.length = k * xs.length := by
 induction k with
 | zero => simp
 | succ k ih => rw [List.replicate_succ, List.flatten_cons, List.length_append, ih, Nat.succ_mul, Nat.add_comm]
theorem b3t : OpR X (binaryOp .Mult) a6p := by
 intro pins s σ H x y v u Q I rx ry h
 obtain ⟨l, k, xs, rfl, rfl, hH, h1, h2, hz, q⟩ := h
 cases rx
 obtain ⟨t, rfl⟩ := ry
 obtain ⟨z, its, n, r, hl, e⟩ := I.lstM hH
 have hlen : its.toArray.size * k.toNat ≤ sizeLine := by rw [List.size_toArray, ← hl]; exact hz
 have hcap : ¬ its.toArray.size * k.toNat > (2 ^ 63 - 1) / 8 := by
  have : (sizeLine : Nat) ≤ (2 ^ 63 - 1) / 8 := by decide
  omega
 have hfit : ¬ (!Builtin.List.listFitsIndex k) = true := by
  rw [fitsIndex_both h1 h2]
  exact Bool.false_ne_true
 have hlong : ¬ Builtin.List.listTooLong (its.toArray.size * k.toNat) = true := by
  rw [b3l hlen]
  exact Bool.false_ne_true
 have hnew : List.foldl (fun x1 x2 => x1 ++ x2) #[] (List.replicate (if its.toArray.isEmpty = true then 0 else k.toNat) its.toArray) = (List.replicate k.toNat its).flatten.toArray := by
  have f0 : ∀ m : Nat, List.foldl (fun x1 x2 => x1 ++ x2) #[] (List.replicate m its.toArray) = (List.replicate m its).flatten.toArray := fun m => by
   have := a5u its m []
   rw [List.nil_append] at this
   exact this
  rw [f0]
  cases its with
  | nil => simp
  | cons a r' => rw [if_neg (by simp)]
 refine wpAny_binaryOp_repeat_ref (T := "list") (U := "int") (by decide) ⟨_, e, rfl⟩ (fun s' => typeIs_int s' k t) noFill_list_mul F.fills_int_mul F.slot_int_rmul repeat_list F.slot_int_index.lookup
  (call_meets F.slot_int_rmul (typeIs_int s k t) F.entry_int_rmul (F.args_int_rmul_2 _ _) (int___rmul___int_list k t l its.toArray n)
   ⟨e, rfl, ⟨_, e, rfl⟩, call_meets F.slot_list_mul ⟨_, e, rfl⟩ F.entry_list_mul (F.args_list_mul_2 _ _) (AutoListH.list___mul___list_int_3 l its.toArray n k t hfit hcap hlong) ⟨e, ?_⟩⟩)
 rw [hnew]
 exact ⟨.ref _, _, I.lnew (t' := s.toks) (r.rep k.toNat) (by rw [b2b, Nat.mul_comm]; exact hz), rfl, q _ I.fresh⟩

end

section
variable {prog : Program} {w : World} {A : Around} {E : Value → Shared → Prop} {s : Shared}
end

section
variable {X : Cx}
end
end L2

namespace L2
open PySem PySem.Spec PyProof.Rows

section
variable {κ : Type} [DecidableEq κ]
noncomputable def C9 (kvs : List (κ × V)) (k : κ) : Option V := (kvs.find? fun kv => decide (kv.1 = k)).map (·.2)
noncomputable def A6 (kvs : List (κ × V)) (k : κ) (v : V) : List (κ × V) :=
 if (kvs.any fun kv => decide (kv.1 = k)) = true then kvs.map (fun kv => if kv.1 = k then (kv.1, v) else kv) else kvs ++ [(k, v)]
theorem a2k {k : κ} : C9 ([] : List (κ × V)) k = none := rfl
theorem U2 {p : κ × V} {r : List (κ × V)} {k : κ} (e : p.1 = k) : C9 (p :: r) k = some p.2 := by simp [C9, List.find?_cons, e]
theorem G3 {p : κ × V} {r : List (κ × V)} {k : κ} (e : ¬ p.1 = k) : C9 (p :: r) k = C9 r k := by simp [C9, List.find?_cons, e]
theorem a1L (k : κ) : ∀ kvs : List (κ × V), (kvs.any fun kv => decide (kv.1 = k)) = (C9 kvs k).isSome
 | [] => rfl
 | p :: r => by
  rw [List.any_cons]
  by_cases e : p.1 = k
  ·simp only [U2 e, decide_eq_true e, Bool.true_or, Option.isSome_some]
  ·rw [G3 e, decide_eq_false e, Bool.false_or]; exact a1L k r
theorem a2C (kvs : List (κ × V)) (k : κ) (v : V) : (A6 kvs k v).length ≤ kvs.length + 1 := by
 unfold A6
 split
 ·rw [List.length_map]; omega
 ·rw [List.length_append, List.length_cons, List.length_nil]; omega
theorem a2i {kvs : List (κ × V)} {k : κ} (v : V) (h : C9 kvs k = none) : A6 kvs k v = kvs ++ [(k, v)] := by
 unfold A6
 rw [a1L, h]
 exact if_neg (by decide)

theorem RelO.isSome_eq {o : Option V} {u : Option Value} (r : RelO o u) : o.isSome = u.isSome := by
 cases o with
 | none => cases u with
  | none => rfl
  | some _ => exact (show False from r).elim
 | some _ => cases u with
  | none => exact (show False from r).elim
  | some _ => rfl
theorem KV.val {kvs : List (κ × V)} {vs : List (κ × Value)} (r : KV kvs vs) (k : κ) : RelO (C9 kvs k) (valueAt vs k) := by
 unfold KV at r
 induction r with
 | nil => exact True.intro
 | @cons p q ps qs h t ih =>
  obtain ⟨h1, h2⟩ := h
  by_cases e : p.1 = k
  ·have e' : q.1 = k := h1.symm.trans e
   have b : valueAt (q :: qs) k = some q.2 := by simp [valueAt, List.find?_cons, e']
   rw [U2 e, b]; exact h2
  ·have e' : ¬ q.1 = k := fun z => e (h1.trans z)
   have b : valueAt (q :: qs) k = valueAt qs k := by simp [valueAt, List.find?_cons, e']
   rw [G3 e, b]; exact ih
theorem KV.any {kvs : List (κ × V)} {vs : List (κ × Value)} (r : KV kvs vs) (k : κ) : (kvs.any fun kv => decide (kv.1 = k)) = vs.any fun kv => decide (kv.1 = k) := by
 unfold KV at r
 induction r with
 | nil => rfl
 | cons h t ih => rw [List.any_cons, List.any_cons, ih, h.1]
theorem KV.repl {kvs : List (κ × V)} {vs : List (κ × Value)} (r : KV kvs vs) (k : κ) {y : V} {u : Value} (ry : RelV y u) :
  KV (kvs.map fun kv => if kv.1 = k then (kv.1, y) else kv) (vs.map fun kv => if kv.1 = k then (kv.1, u) else kv) := by
 unfold KV at r ⊢
 induction r with
 | nil => exact .nil
 | @cons p q ps qs h t ih =>
  rw [List.map_cons, List.map_cons]
  refine .cons ?_ ih
  obtain ⟨h1, h2⟩ := h
  by_cases e : p.1 = k
  ·rw [if_pos e, if_pos (h1.symm.trans e)]; exact ⟨h1, ry⟩
  ·rw [if_neg e, if_neg (fun z => e (h1.trans z))]; exact ⟨h1, h2⟩
theorem KV.put {kvs : List (κ × V)} {vs : List (κ × Value)} (r : KV kvs vs) (k : κ) {y : V} {u : Value} (ry : RelV y u) : KV (A6 kvs k y) (stored vs k u) := by
 unfold A6 stored
 rw [r.any k]
 by_cases e : (vs.any fun kv => decide (kv.1 = k)) = true
 ·rw [if_pos e, if_pos e]; exact r.repl k ry
 ·rw [if_neg e, if_neg e]; exact Paired.snoc r ⟨rfl, ry⟩
theorem KV.length {kvs : List (κ × V)} {vs : List (κ × Value)} (r : KV kvs vs) : kvs.length = vs.length := Paired.length r
end


theorem a1Z {P : Program} {w : World} {k : Key} {u : Value} (r : RelV (kV k) u) : (D9 P w).is k u = true := by
 cases k with
 | inl i => obtain ⟨t, e⟩ := (show ∃ t, u = Value.int i t from r); subst e; exact b2C P w i t
 | inr x => obtain ⟨t, e⟩ := (show ∃ t, u = Value.str x t from r); subst e; exact b2Y P w x t
theorem a7i {P : Program} {w : World} : ∀ {ks : List Key} {us : List Value}, Vals (ks.map kV) us → ItemsAre (D9 P w) ks us
 | [], _, r => by rw [List.map_nil] at r; cases r; exact .nil
 | k :: ks, _, r => by
  rw [List.map_cons] at r
  cases r with
  | cons h t => exact .cons (a1Z h) (a7i t)

noncomputable abbrev KT (H : Hp) : List (List Key × V) → List (List Key × Addr × Value) → Prop := Paired fun p q => p.1 = q.1 ∧ H q.2.1 = some (.tup (p.1.map kV)) ∧ RelV p.2 q.2.2
theorem KT.val {H : Hp} {kvs : List (List Key × V)} {xs : List (List Key × Addr × Value)} (r : KT H kvs xs) (k : List Key) : RelO (C9 kvs k) ((atKey xs k).map (·.2)) := by
 induction r with
 | nil => exact True.intro
 | @cons p q ps qs h t ih =>
  obtain ⟨h1, _, h2⟩ := h
  by_cases e : p.1 = k
  ·have e' : q.1 = k := h1.symm.trans e
   have b : atKey (q :: qs) k = some q.2 := by simp [atKey, List.find?_cons, e']
   rw [U2 e, b]; exact h2
  ·have e' : ¬ q.1 = k := fun z => e (h1.trans z)
   have b : atKey (q :: qs) k = atKey qs k := by simp [atKey, List.find?_cons, e']
   rw [G3 e, b]; exact ih
theorem KT.repl {H : Hp} {kvs : List (List Key × V)} {xs : List (List Key × Addr × Value)} (r : KT H kvs xs) (k : List Key) {y : V} {u : Value} (ry : RelV y u) :
  KT H (kvs.map fun kv => if kv.1 = k then (kv.1, y) else kv) (xs.map (putAt k u)) := by
 induction r with
 | nil => exact .nil
 | @cons p q ps qs h t ih =>
  rw [List.map_cons, List.map_cons]
  refine .cons ?_ ih
  obtain ⟨h1, h2, h3⟩ := h
  unfold putAt
  by_cases e : p.1 = k
  ·rw [if_pos e, if_pos (h1.symm.trans e)]; exact ⟨h1, h2, ry⟩
  ·rw [if_neg e, if_neg (fun z => e (h1.trans z))]; exact ⟨h1, h2, h3⟩
theorem KT.put {H : Hp} {kvs : List (List Key × V)} {xs : List (List Key × Addr × Value)} (r : KT H kvs xs) (k : List Key) {b : Addr} {y : V} {u : Value} (hb : H b = some (.tup (k.map kV))) (ry : RelV y u) :
  KT H (A6 kvs k y) (storedH xs k b u) := by
 have e : (kvs.any fun kv => decide (kv.1 = k)) = (atKey xs k).isSome := by
  rw [a1L, (r.val k).isSome_eq, Option.isSome_map]
 unfold A6 storedH
 rw [e]
 by_cases q : (atKey xs k).isSome = true
 ·rw [if_pos q, if_pos q]; exact r.repl k ry
 ·rw [if_neg q, if_neg q]; exact Paired.snoc r ⟨rfl, hb, ry⟩
theorem KT.keeps {H H' : Hp} {kvs : List (List Key × V)} {xs : List (List Key × Addr × Value)} (r : KT H kvs xs) (ht : ∀ b ys, H b = some (.tup ys) → H' b = some (.tup ys)) : KT H' kvs xs :=
 Paired.mapP r fun _ _ z => ⟨z.1, ht _ _ z.2.1, z.2.2⟩

section
variable {P : Program} {w : World} {H : Hp} {h : Heap} {a : Addr}
theorem a6T {u : HO} (ok : HOk P w H h) (e : Rd H a u) : ObjOk P w H h a u := e.ok ok
theorem a3S {kvs : List (Key × V)} (ok : HOk P w H h) (e : Rd H a (.dK kvs)) : kvs.length ≤ sizeLine ∧ (a == sysModules) = false ∧ ∃ vs, KV kvs vs ∧ h.DictOf (D9 P w) a vs :=
 show ObjOk P w H h a (.dK kvs) from a6T ok e
theorem a6r {kvs : List (Key × V)} (ok : HOk P w H h) (e : H a = some (.dK kvs)) : kvs.length ≤ sizeLine ∧ (a == sysModules) = false ∧ ∃ vs, KV kvs vs ∧ h.DictOf (D9 P w) a vs := a3S ok (.inl e)
theorem a3z {ks : List Key} (ok : HOk P w H h) (e : H a = some (.tup (ks.map kV))) : (tupleKind (D9 P w)).is h ks a := by
 obtain ⟨_, its, r, o, h1, h2, n, h3⟩ := (show ObjOk P w H h a (.tup (ks.map kV)) from ok a _ e)
 exact ⟨o, its.toArray, n, h1, h2, h3, by simpa using a7i r⟩
theorem a2D {kvs : List (List Key × V)} (ok : HOk P w H h) (e : Rd H a (.dT kvs)) : kvs.length ≤ sizeLine ∧ (a == sysModules) = false ∧
  ∃ xs, KT H kvs xs ∧ h.DictOfH (tupleKind (D9 P w)) a xs := by
 obtain ⟨z, y, xs, r, o, es, ep, h1, h2, h3, h4, h5⟩ := (show ObjOk P w H h a (.dT kvs) from a6T ok e)
 refine ⟨z, y, xs, r, o, es, ep, h1, h2, h3, h4, fun x hx => ?_, h5⟩
 have all : ∀ {l : List (List Key × V)} {m : List (List Key × Addr × Value)}, KT H l m → ∀ x ∈ m, (tupleKind (D9 P w)).is h x.1 x.2.1 := by
  intro l m q
  induction q with
  | nil => intro x hx; exact nomatch hx
  | @cons p q ps qs hq t ih =>
   intro x hx
   rcases List.mem_cons.mp hx with e | hx
   ·subst e
    exact a3z ok (by rw [← hq.1]; exact hq.2.1)
   ·exact ih x hx
 exact all r x hx
theorem a95 {kvs : List (List Key × V)} (ok : HOk P w H h) (e : H a = some (.dT kvs)) : kvs.length ≤ sizeLine ∧ (a == sysModules) = false ∧
  ∃ xs, KT H kvs xs ∧ h.DictOfH (tupleKind (D9 P w)) a xs := a2D ok (.inl e)
end

noncomputable def DGet (H : Hp) (a : Addr) (y : V) (r : Option V) : Prop :=
 (∃ kvs k, Rd H a (.dK kvs) ∧ y = kV k ∧ r = C9 kvs k) ∨ ∃ kvs k b, Rd H a (.dT kvs) ∧ y = .ref b ∧ H b = some (.tup (k.map kV)) ∧ r = C9 kvs k
noncomputable def DPut (H : Hp) (a : Addr) (y v : V) (H' : Hp) : Prop :=
 (∃ kvs k, H a = some (.dK kvs) ∧ y = kV k ∧ kvs.length < sizeLine ∧ H' = upd H a (.dK (A6 kvs k v))) ∨
 ∃ kvs k b, H a = some (.dT kvs) ∧ y = .ref b ∧ H b = some (.tup (k.map kV)) ∧ kvs.length < sizeLine ∧ H' = upd H a (.dT (A6 kvs k v))
theorem DGet.k {H : Hp} {a : Addr} {kvs : List (Key × V)} {k : Key} (e : H a = some (.dK kvs)) : DGet H a (kV k) (C9 kvs k) := .inl ⟨kvs, k, .inl e, rfl, rfl⟩
theorem DPut.k {H : Hp} {a : Addr} {kvs : List (Key × V)} {k : Key} {v : V} (e : H a = some (.dK kvs)) (hl : kvs.length < sizeLine) : DPut H a (kV k) v (upd H a (.dK (A6 kvs k v))) := .inl ⟨kvs, k, e, rfl, hl, rfl⟩
section
variable {X : Cx} {pins : List (Addr × Obj)} {σ : St} {H : Hp} {s : Shared} {a : Addr} {y v : V} {u r : Value} {o : Option V} {A : Around} {E : Value → Shared → Prop}

theorem Inv.big (I : Inv X pins σ H s) : sysModules < s.heap.objs.size := by
 have h : mainGlobals < s.heap.objs.size := (I.mod.glob.keeps I.bk).lt
 exact Nat.lt_trans (by decide) h

theorem a9i {Q : Value → Shared → Prop} (hu : A.units + 1 < cLine) (I : Inv X pins σ H s) (g : DGet H a y (some v)) (ry : RelV y u) (h : ∀ w' s', Inv X pins σ H s' → RelV v w' → Q w' s') :
  wpAny (model X.prog X.w) A (getItem (.ref a) u) Q E s := by
 rcases g with ⟨kvs, k, e, ey, l⟩ | ⟨kvs, k, b, e, ey, eb, l⟩
 ·subst ey
  obtain ⟨z, hd, vs, rel, dd⟩ := a3S I.hok e
  obtain ⟨w', hw, rw'⟩ := RelO.some_of (v := v) (o := valueAt vs k) (by rw [l]; exact rel.val k)
  exact wpAny_getItem_of (a1Z ry) dd.mapOf hw (h w' _ (I.tok _) rw')
 ·subst ey
  cases (show u = Value.ref b from ry)
  obtain ⟨z, hd, xs, rel, dd⟩ := a2D I.hok e
  obtain ⟨w', hw, rw'⟩ := RelO.some_of (v := v) (o := (atKey xs k).map (·.2)) (by rw [l]; exact rel.val k)
  obtain ⟨p, hp, hp2⟩ := Option.map_eq_some_iff.mp hw
  refine wpAny_getItem_heap (tupleKind_room_in1 hu) (a3z I.hok eb) dd hp ?_
  rw [hp2]
  exact h w' _ (I.tok _) rw'
theorem a2S {h' : Heap} {t' : Nat} {ob : HO} (I : Inv X pins σ H s) (mu : Mut (H a)) (hs : Heap.SameBut a s.heap h') (he : ∃ q, h'.get? a = some q) (new : ObjOk X.prog X.w (upd H a ob) h' a ob) :
  Inv X pins σ (upd H a ob) { s with heap := h', toks := t' } :=
 I.write (x := a) (e := a) mu (.inl rfl) (fun b q hb z => (hs.2 b hb).trans z) he new
theorem a51 {P : Program} {w : World} {H' : Hp} {h' : Heap} {kvs : List (Key × V)} {vs : List (Key × Value)} (z : kvs.length ≤ sizeLine) (hd : (a == sysModules) = false) (rel : KV kvs vs) (dd : h'.DictOf (D9 P w) a vs) :
  ObjOk P w H' h' a (.dK kvs) := ⟨z, hd, vs, rel, dd⟩
theorem a8A {H' : Hp} {Q : Unit → Shared → Prop} (hu : A.units + 1 < cLine) (I : Inv X pins σ H s) (g : DPut H a y v H') (ry : RelV y u) (rv : RelV v r) (h : ∀ s', Inv X pins σ H' s' → Q () s') :
  wpAny (model X.prog X.w) A (setItem (.ref a) u r) Q E s := by
 rcases g with ⟨kvs, k, e, ey, l, eH⟩ | ⟨kvs, k, b, e, ey, eb, l, eH⟩
 ·subst ey eH
  obtain ⟨z, hd, vs, rel, dd⟩ := a6r I.hok e
  have hz : vs.length ≤ sizeLine := by rw [← rel.length]; exact z
  have hl : (A6 kvs k v).length ≤ sizeLine := by have := a2C kvs k v; omega
  refine wpAny_setItem_pairs (hsz := hz) (a1Z ry) dd fun h' dd' hs => h _ ?_
  have he : ∃ q, h'.get? a = some q := let ⟨q, _, _, hq, _⟩ := dd'; ⟨q, hq⟩
  exact a2S I (by rw [e]; exact True.intro) hs he (a51 hl hd (rel.put k rv) dd')
 ·subst ey eH
  cases (show u = Value.ref b from ry)
  obtain ⟨z, hd, xs, rel, dd⟩ := a95 I.hok e
  have hz : xs.length ≤ sizeLine := by rw [← Paired.length rel]; exact z
  have hl : (A6 kvs k v).length ≤ sizeLine := by have := a2C kvs k v; omega
  refine wpAny_setItem_heap (hsz := hz) (tupleKind_room_in1 hu) (a3z I.hok eb) dd fun h' dd' hs => h _ ?_
  obtain ⟨q, es, ep, hq, h2, h3, h4, _, h5⟩ := dd'
  refine a2S I (by rw [e]; exact True.intro) hs ⟨q, hq⟩ ⟨hl, hd, _, (rel.put k eb rv).keeps fun c ys ec => ?_, q, es, ep, hq, h2, h3, h4, h5⟩
  rw [u5 (b3Z ec e (fun z => nomatch z))]
  exact ec
end

section
variable {X : Cx} {pins : List (Addr × Obj)} {σ : St} {H : Hp} {s : Shared} {a : Addr} {kvs : List (Key × V)} {k : Key} {u : Value} {A : Around} {E : Value → Shared → Prop}
end


noncomputable def a5s (i : Expr) : Prop := ∀ ov iv, subscripted i false ov iv = operate [ov, iv] (getItem ov iv)
theorem b4c {prog : Program} {w : World} {A : Around} {E : Value → Shared → Prop} {s : Shared} {env : Env} {value slice : Expr} {pos : Pos} {T id : String} {Q : Value → Shared → Prop}
  (hl : typeLookup (.type T) "__getitem__" = pure (some (.builtin id))) (hs : a5s slice)
  (h : wpAny (model prog w) A (eval value env) (fun o s₁ => wpAny (model prog w) A (eval slice env) (fun i s₂ => s₂.TypeIs o T ∧ wpAny (model prog w) A (getItem o i) Q E s₂) E s₁) E s) :
  wpAny (model prog w) A (eval (.Subscript value slice pos) env) Q E s := by
 refine Subscript_ (wpAny_mono h (fun o s₁ h₁ => wpAny_mono h₁ (fun i s₂ h₂ => ?_) fun _ _ x => x) fun _ _ x => x)
 obtain ⟨hT, h₂⟩ := h₂
 unfold subscriptTail
 refine wpAny_bind ?_
 rw [getitemInPython_of_ne hT.not_modules]
 refine wpAny_bind (wpAny_specialOf hT hl ?_)
 have fin : wpAny (model prog w) A (subscripted slice false o i) (fun r s₃ => wpAny (model prog w) A (letTemporaryGo value o r >>= fun _ => pure r) Q E s₃) E s₂ := by
  rw [hs o i]
  exact wpAny_operating (wpAny_mono h₂ (fun r s₃ h₃ => wpAny_bind (wpAny_letTemporaryGo (wpAny_pure h₃))) fun _ _ x => x)
 first
  | exact wpAny_pure (wpAny_bind fin)
  | exact wpAny_bind (wpAny_pure (wpAny_bind fin))
  | exact wpAny_bind fin

theorem a9C {X : Cx} {pins : List (Addr × Obj)} {σ : St} {H : Hp} {s : Shared} {a : Addr} {y : V} {o : Option V} (I : Inv X pins σ H s) (g : DGet H a y o) : s.TypeIs (.ref a) "dict" := by
 rcases g with ⟨kvs, k, e, _, _⟩ | ⟨kvs, k, b, e, _, _, _⟩
 ·obtain ⟨_, _, vs, _, dd⟩ := a3S I.hok e
  exact dd.typeIs
 ·obtain ⟨_, _, xs, _, dd⟩ := a2D I.hok e
  exact dd.typeIs
noncomputable def a8R (td ty : TE) : TE := fun σ H Q => td σ H fun x H1 => ty σ H1 fun y H2 => ∃ a v, x = .ref a ∧ DGet H2 a y (some v) ∧ Q v H2
noncomputable def b3J (td ty tv : TE) : TS := fun D σ H => tv σ H fun v H1 => td σ H1 fun x H2 => ty σ H2 fun y H3 => ∃ a H4, x = .ref a ∧ DPut H3 a y v H4 ∧ D.nx σ H4
section
variable {X : Cx} {o i e value : Expr} {pos pos' tpos : Pos} {td ty tv : TE}
theorem b4g (hu : X.A.units + 1 < cLine) (ho : PE X o td) (hi : PE X i ty) (hs : a5s i) : PE X (.Subscript o i pos) (a8R td ty) := by
 intro pins s σ H Q I h
 refine b4c PySem.F.slot_dict_getitem.lookup hs (thn (ho pins s σ H _ I h) fun u s1 ⟨x, H1, I1, rx, q1⟩ => thn (hi pins s1 σ H1 _ I1 q1) fun iv s2 ⟨y, H2, I2, ry, a, v, ex, g, q2⟩ => ?_)
 subst ex
 obtain rfl : u = Value.ref a := rx
 exact ⟨a9C I2 g, a9i hu I2 g ry fun w' s3 I3 rw' => ⟨v, H2, I3, rw', q2⟩⟩
theorem b1j (hu : X.A.units + 1 < cLine) (ho : PE X o td) (hi : PE X i ty) (hv : PE X value tv) (hs : swapsWith value (some (.Subscript o i pos')) pos.line X.env = pure false) :
  PS X (.Assign [.Subscript o i pos'] value pos) (b3J td ty tv) := by
 intro pins s σ H D I h
 refine wpAny_Assign_Subscript (thn (hv pins s σ H _ I h) fun r s1 ⟨v, H1, I1, rv, q1⟩ => thn (ho pins s1 σ H1 _ I1 q1) fun u s2 ⟨x, H2, I2, rx, q2⟩ => thn (hi pins s2 σ H2 _ I2 q2) fun iv s3 ⟨y, H3, I3, ry, a, H4, ex, g, q3⟩ => ?_) hs
 subst ex
 obtain rfl : u = Value.ref a := rx
 exact a8A hu I3 g ry rv fun s4 I4 => ⟨σ, H4, I4, q3⟩
end


theorem b1A {P : Program} {w : World} {H : Hp} (h : Heap) (hb : sysModules < h.objs.size) : ObjOk P w H (h.push { cls := .type "dict", data := .dict #[] }) h.objs.size (.dK []) :=
 ⟨Nat.zero_le _, beq_eq_false_iff_ne.mpr (Ne.symm (Nat.ne_of_lt hb)), [], .nil, Heap.DictOf.new h⟩
section
variable {X : Cx} {pos : Pos}
end

noncomputable def a2A : List (TE × TE) → St → Hp → (List (V × V) → Hp → Prop) → Prop
 | [], _, H, Q => Q [] H
 | (tk, tv) :: r, σ, H, Q => tk σ H fun x H1 => tv σ H1 fun y H2 => a2A r σ H2 fun ps H3 => Q ((x, y) :: ps) H3
noncomputable abbrev VV : List (V × V) → List (Value × Value) → Prop := Paired fun p q => RelV p.1 q.1 ∧ RelV p.2 q.2
noncomputable def PPs (X : Cx) (pos : Pos) (keys : List (Option Expr)) (values : List Expr) (trs : List (TE × TE)) : Prop :=
 ∀ (pins : List (Addr × Obj)) (s : Shared) (σ : St) (H : Hp) (Q : List (V × V) → Hp → Prop), Inv X pins σ H s → a2A trs σ H Q →
  wpAny (model X.prog X.w) X.A (evalPairs (pairTrees keys values X.env pos)) (fun vs s' => ∃ ps H', Inv X pins σ H' s' ∧ VV ps vs ∧ Q ps H') X.xe s
theorem a8F {X : Cx} {pos : Pos} : PPs X pos [] [] [] := fun pins s σ H Q I h => pairTrees_nil_walk ⟨[], H, I, .nil, h⟩
theorem a1h {X : Cx} {pos : Pos} {k v : Expr} {ks : List (Option Expr)} {vs : List Expr} {tk tv : TE} {trs : List (TE × TE)} (hk : PE X k tk) (hv : PE X v tv) (hr : PPs X pos ks vs trs) :
  PPs X pos (some k :: ks) (v :: vs) ((tk, tv) :: trs) := fun pins s σ H Q I h =>
 pairTrees_cons_walk (thn (hk pins s σ H _ I h) fun u s1 ⟨x, H1, I1, rx, q1⟩ => thn (hv pins s1 σ H1 _ I1 q1) fun w2 s2 ⟨y, H2, I2, ry, q2⟩ =>
  thn (hr pins s2 σ H2 _ I2 q2) fun ws s3 ⟨ps, H3, I3, rel, q3⟩ => ⟨(x, y) :: ps, H3, I3, .cons ⟨rx, ry⟩ rel, q3⟩)

noncomputable def a0s (kvs more : List (Key × V)) : List (Key × V) := more.foldl (fun acc kv => A6 acc kv.1 kv.2) kvs
theorem KV.merge : ∀ {more : List (Key × V)} {rs : List (Key × Value)} {kvs : List (Key × V)} {vs : List (Key × Value)}, KV more rs → KV kvs vs → KV (a0s kvs more) (merged vs rs) := by
 intro more rs kvs vs r
 unfold KV at r
 induction r generalizing kvs vs with
 | nil => intro q; exact q
 | @cons p q ps qs h t ih =>
  intro r0
  have e : KV (A6 kvs p.1 p.2) (stored vs q.1 q.2) := by
   have := r0.put p.1 h.2
   rw [← h.1]; exact this
  exact ih e
theorem a5L : ∀ (more kvs : List (Key × V)), (a0s kvs more).length ≤ kvs.length + more.length
 | [], kvs => by show kvs.length ≤ kvs.length + 0; omega
 | p :: r, kvs => by
  have h1 := a5L r (A6 kvs p.1 p.2)
  have h2 := a2C kvs p.1 p.2
  show (a0s (A6 kvs p.1 p.2) r).length ≤ _
  rw [List.length_cons]; omega
theorem a7q {P : Program} {w : World} : ∀ {kvs : List (Key × V)} {ws : List (Value × Value)}, VV (kvs.map fun kv => (kV kv.1, kv.2)) ws → ∃ rs, Carries (D9 P w) ws rs ∧ KV kvs rs
 | [], _, r => by rw [List.map_nil] at r; cases r; exact ⟨[], True.intro, .nil⟩
 | p :: kvs, _, r => by
  rw [List.map_cons] at r
  cases r with
  | @cons a b as bs h t =>
   obtain ⟨rs, c, q⟩ := a7q (P := P) (w := w) t
   obtain ⟨b1, b2⟩ := b
   exact ⟨(p.1, b2) :: rs, ⟨a1Z h.1, rfl, c⟩, .cons ⟨rfl, h.2⟩ q⟩
noncomputable def b4l (trs : List (TE × TE)) : TE := fun σ H Q => ∀ p, H p = none → a2A trs σ (upd H p (.dK [])) fun ps H2 => H2 p = some (.dK []) ∧ ∃ kvs : List (Key × V), ps = kvs.map (fun kv => (kV kv.1, kv.2)) ∧ kvs.length ≤ 15 ∧ Q (.ref p) (upd H2 p (.dK (a0s [] kvs)))
theorem a8q {X : Cx} {pos : Pos} {keys : List (Option Expr)} {values : List Expr} {trs : List (TE × TE)} (h : PPs X pos keys values trs) (hall : keys.all (·.isSome) = true) (hl : keys.length = values.length) (h0 : keys ≠ [])
  (h15 : keys.length ≤ 15) : PE X (.Dict keys values pos) (b4l trs) := by
 intro pins s σ H Q I q
 have hn := I.hok.fresh (Nat.le_refl s.heap.objs.size)
 have I1 := I.laid (a := s.heap.objs.size) (o := .dK []) (h' := s.heap.push { cls := .type "dict", data := .dict #[] }) (t' := s.toks) (fun _ _ q => Heap.get?_push_of_some _ q) (Nat.le_refl _) (b1A s.heap I.big)
 refine wpAny_Dict_walk (knd := D9 X.prog X.w) hall hl h0 h15 (thn (h pins _ σ _ _ I1 (q _ hn)) fun ws s2 ⟨ps, H2, I2, rel, e, kvs, ep, lk, q2⟩ => ?_)
 subst ep
 obtain ⟨rs, c, rk⟩ := a7q (P := X.prog) (w := X.w) rel
 obtain ⟨z, hd, vs0, r0, dd⟩ := a6r I2.hok e
 cases r0
 refine ⟨rs, c, dd, fun h' dd' hs => ⟨.ref s.heap.objs.size, _, ?_, rfl, q2⟩⟩
 have hz : (a0s [] kvs).length ≤ sizeLine := by
  have h1 := a5L kvs []
  rw [List.length_nil] at h1
  rw [sizeLine_eq]; omega
 have he : ∃ q, h'.get? s.heap.objs.size = some q := let ⟨q, _, _, hq, _⟩ := dd'; ⟨q, hq⟩
 exact a2S I2 (by rw [e]; exact True.intro) hs he (a51 hz hd (rk.merge .nil) dd')


section
variable {X : Cx} {pins : List (Addr × Obj)} {σ : St} {H : Hp} {s : Shared} {a : Addr} {y d : V} {u r : Value} {o : Option V} {A : Around} {E : Value → Shared → Prop}
end

section
variable {X : Cx} {o e f : Expr} {apos cpos : Pos} {td ty tx : TE}
end

section
variable {X : Cx} {pins : List (Addr × Obj)} {σ : St} {H : Hp} {s : Shared} {a : Addr} {kvs : List (Key × V)} {A : Around} {E : Value → Shared → Prop}
end


section
variable {X : Cx} {pins : List (Addr × Obj)} {σ : St} {H : Hp} {s : Shared} {a : Addr} {y : V} {u : Value} {A : Around} {E : Value → Shared → Prop}
end
end L2

namespace Att
open PySem PySem.W PySem.Calls PyProof.Rows

theorem b3g {P : Params} {h : Heap} : ∀ (ns : List Int) (vs : List Value), WellAll P h vs (ns.map WData.int) → IntsAre vs ns := by
 intro ns
 induction ns with
 | nil =>
  intro vs w
  rw [List.map_nil] at w
  cases w
  exact .nil
 | cons n ns ih =>
  intro vs w
  rw [List.map_cons] at w
  cases w with
  | cons a b =>
   cases a
   exact .cons _ _ (ih _ b)

theorem b3o {l : OpenLaw} {n : Nat} (hn : l.most = some n) {P : Params} {h : Heap} {args : List WData} {vals : List Value}
  (hpre : l.row.toRowW.claim.pre args = true) (hwl : WellAll P h vals args) :
  ∃ a vs ns, vals = [Value.ref a] ∧ args = [WData.list (ns.map WData.int)] ∧ h.get? a = some { cls := .type "list", data := .seq vs.toArray } ∧ IntsAre vs ns ∧ ns.length ≤ n := by
 have hsh : WShape.hasAll [] args [.list .int] = true := (pre_splitW hpre).1
 have hc : l.pre.holds [] { args := args } = true := (pre_splitW hpre).2
 obtain ⟨d, r, rfl, h1, h2⟩ := hasAllW_cons hsh
 obtain rfl := hasAllW_nil h2
 obtain ⟨xs, rfl, h3⟩ := hasW_list h1
 obtain ⟨ns, rfl⟩ := items_int h3
 have hlen : ns.length ≤ n := by
  unfold OpenLaw.pre at hc
  have h4 : (WTm.not (.lt (.lit (.int (n : Int))) (.len (.arg 0)))).holds [] { args := [.list (ns.map .int)] } = true := by
   have h4 := (holds_andW hc).1
   rw [hn] at h4
   exact h4
  have h5 := condW_of h4 (w_not (w_lt w_lit (w_len_list (w_arg rfl))))
  rw [List.length_map] at h5
  refine Nat.le_of_not_lt fun q => ?_
  have q' : (n : Int) < ((ns.length : Nat) : Int) := by omega
  first
   | (rw [decide_eq_true q'] at h5; exact absurd h5 (by decide))
   | (simp at h5; omega)
 cases hwl with
 | cons w1 w2 =>
  cases w2
  cases w1 with
  | list ho hall => exact ⟨_, _, ns, rfl, rfl, ho, b3g ns _ hall, hlen⟩

theorem b0Z (l : OpenLaw) (args : List WData) : l.row.toRowW.claim.post args (.bool true) args = true :=
 postW_of (r := l.row.toRowW) (X := (true == true))
  (show WShape.has [] (.bool true) .bool = true by first | rfl | decide | simp [WShape.has, WShape.arms, WShape.armsAll])
  (show (WTm.eq .res (.lit (.bool true))).value [] { args := args, res := some (.bool true), after := args } = some (.bool (true == true)) from w_eq_bool (w_res rfl) w_lit) rfl

theorem attach_call {l : OpenLaw} {n : Nat} {q : Program} {loose : List Str} {XP : (Str → Option Value) → Heap → Prop} {YP : World → Heap → Prop} {d : DefRec}
  (hn : l.most = some n) (hdf : d.params.defaults = [])
  (call : ∀ (w : World) (s₀ s₁ : Shared) (mg mb : Str → Option Value) (fa : Addr) (o : Obj) (pm cd doc : Value) (a : Addr) (vs : List Value) (ns : List Int),
   Ground q loose [] XP w s₀ mg mb s₁.heap → YP w s₁.heap →
   s₁.heap.get? fa = some o → o.data = .func (docDef d.name d.params d.body d.scope pm cd doc) → s₁.heap.CodeRec cd d.name → mg d.name = some (.ref fa) →
   s₁.heap.get? a = some { cls := .type "list", data := .seq vs.toArray } → IntsAre vs ns → ns.length ≤ n → s₁.gens = #[] →
   codeAny (model l.prog w) callerA (.call (.ref fa) ⟨[.ref a], []⟩) (fun r s' => r = .ok (.ret (.bool true)) ∧ OldK s₁.heap s'.heap ∧ s'.os = s₁.os ∧ AllBare s'.gens) s₁) :
  WalkO q loose XP YP l.row.toRowW d [] (fun f vs => PySem.call f vs) := by
 intro w s₀ s₁ mg mb G Y fa o pm cd doc dV kV ho hd hcd hD hmg hg args vals as hpre hlay hrd hwl hlo
 obtain rfl : dV = .none := Dflts.none hD hdf
 obtain rfl : kV = .none := Dflts.noKw hD
 obtain ⟨a, vs, ns, rfl, rfl, hobj, hints, hlen⟩ := b3o hn hpre hwl
 refine enter_call (codeAny_mono (call w s₀ s₁ mg mb fa o pm cd doc a vs ns G Y ho (fd_plain hd) hcd hmg hobj hints hlen hg) fun r s' hq => ?_)
 obtain ⟨rfl, h2, h3, h4⟩ := hq
 exact ⟨.inl ⟨.bool true, .bool true, [], rfl, fun _ => rfl, .bool true, b0Z l _, fun _ => ⟨List.Pairwise.nil, fun _ hm => (nomatch hm)⟩⟩, h2, h3, h4⟩

section
variable {prog : Program} {w : World} {A : Around} {E : Value → Shared → Prop} {s : Shared} {K : Frag}

end
end Att

namespace L2
open PySem PySem.Spec PyProof.Rows

theorem a49 : ∀ {vs : List Value} {ns : List Int}, IntsAre vs ns → Vals (ns.map V.int) vs
 | _, _, .nil => .nil
 | _, _, .cons n t h => .cons ⟨t, rfl⟩ (a49 h)

noncomputable def a3R (H : Hp) : Prop := ∀ b, H b = none ∨ ∃ o xs, H b = some (.frz o (.lst xs))

theorem a9t {P : Program} {w : World} {K : PySem.W.Frag} {mg mb : Str → Option Value} {CX : CXT} {k : Nat} {fa a : Addr} {fd : FuncData} {x : Str} {sp : Sp} {s₁ : Shared} {vs : List Value} {ns : List Int}
  (KX : K.In s₁.heap) (hns : s₁.heap.Ns mainGlobals mg) (hb : s₁.heap.Ns builtinsNs mb) (hbb : ∀ x : Str, x ≠ "__name__" → mb x = bootBuiltins x) (hlim : s₁.heap.NoLimit) (hg : s₁.gens = #[])
  (ha : s₁.heap.get? a = some { cls := .type "list", data := .seq vs.toArray }) (hi : IntsAre vs ns) (hl : ns.length ≤ sizeLine) (hr : Room k callerA)
  (F : ∀ base : Heap, K.In base → base.Ns mainGlobals mg → FnOk P w K mg base CX k fa fd [x] sp) (hbind : ∀ (s : Shared) (u : Value), BindsTo s fd ⟨[u], []⟩ [(x, u)])
  (hsp : ∀ H : Hp, a3R H → SqL K H a (ns.map V.int) → sp [.ref a] H (fun v _ => v = .bl true) fun _ _ _ => False)
  (hCX : ∀ H e s', CX [] H s₁ (fun _ _ _ => False) e s' → False) :
  codeAny (model P w) callerA (.call (.ref fa) ⟨[.ref a], []⟩) (fun r s' => r = .ok (.ret (.bool true)) ∧ OldK s₁.heap s'.heap ∧ s'.os = s₁.os ∧ AllBare s'.gens) s₁ := by
 have rv := a49 hi
 have lenV := hi.length
 have core : ∀ H : Hp, a3R H → SqL K H a (ns.map V.int) → HOk P w H s₁.heap → (∀ b, H b ≠ none → b = a) → (H a ≠ none → K.lookup a = none) →
   codeAny (model P w) callerA (.call (.ref fa) ⟨[.ref a], []⟩) (fun r s' => r = .ok (.ret (.bool true)) ∧ OldK s₁.heap s'.heap ∧ s'.os = s₁.os ∧ AllBare s'.gens) s₁ := by
  intro H hO hS hok hA hK
  have base_of : ∀ {b : Addr} {o : Obj}, s₁.heap.get? b = some o → H b = none → (N5 s₁.heap H).get? b = some o := fun e n => a8l e n
  have noA : ∀ {b : Addr} {o : Obj} {es : Array DictEntry} {ep : Nat}, s₁.heap.get? b = some o → o.data = .dict es ep → H b = none := fun {b o es ep} e d => by
   cases q : H b with
   | none => rfl
   | some u =>
    have e' : b = a := hA b (by rw [q]; simp)
    subst e'
    rw [ha] at e; cases e
    have d' : Data.seq vs.toArray _ = Data.dict es ep := d
    cases d'
  have nsK : ∀ {b : Addr} {m : Str → Option Value}, s₁.heap.Ns b m → (N5 s₁.heap H).Ns b m := fun {b m} ⟨o, es, ep, e, d, r⟩ => ⟨o, es, ep, base_of e (noA e d), d, r⟩
  have hKb : K.In (N5 s₁.heap H) := fun b o e => base_of (KX b o e) (by
   cases q : H b with
   | none => rfl
   | some u =>
    have e' : b = a := hA b (by rw [q]; simp)
    subst e'
    rw [hK (by rw [q]; simp)] at e; cases e)
  have hM : Mod K mg (N5 s₁.heap H) := ⟨hKb, nsK hns, ⟨mb, nsK hb, hbb⟩, let ⟨mc, h1, h2⟩ := hlim; ⟨mc, nsK h1, h2⟩⟩
  have e0 : Env0 P w K mg (N5 s₁.heap H) callerA [] s₁ H := ⟨rfl, hM, fun b o e => a7J e, Nat.le_of_eq (b0D _ _), trivial, fun b hb => absurd (show b ∈ ([] : List Addr) from hb) (by simp), hok, .of_eq hg⟩
  refine codeAny_mono ((F _ hKb (nsK hns)).run callerA [] s₁ H ⟨[.ref a], []⟩ [.ref a] [.ref a] _ _ hr e0 (hbind s₁ (.ref a)) (.cons rfl .nil) (hsp H hO hS)) fun r s' h => ?_
  cases r with
  | error e => exact (hCX H e s' h).elim
  | ok fl =>
   cases fl with
   | next => exact False.elim h
   | brk => exact False.elim h
   | cont => exact False.elim h
   | ret u =>
    obtain ⟨v, H', os, bare, un, hok', r', q⟩ := h
    have q' : v = .bl true := q
    subst q'
    obtain rfl : u = Value.bool true := r'
    refine ⟨rfl, OldK.of_keep fun b o e => ?_, os, bare⟩
    cases q : H b with
    | none => exact un.keep b o e q (by intro z; exact absurd (show b ∈ ([] : List Addr) from z) (by simp)) (by simp)
    | some u =>
     rcases hO b with z | ⟨ob, xs, z⟩
     ·rw [q] at z; cases z
     ·have z2 := un.frzs b ob _ z
      obtain ⟨e1, _⟩ := hok b _ z
      obtain ⟨e2, _⟩ := hok' b _ z2
      rw [e] at e1; cases e1
      exact e2
 cases hk : K.lookup a with
 | some o =>
  have e := KX a o hk
  rw [ha] at e
  cases e
  refine core (fun _ => none) (fun _ => .inl rfl) (.inr ⟨_, vs.toArray, _, hk, rfl, rfl, rfl, by rw [List.size_toArray, lenV]; exact hl, by simpa using rv⟩) (fun b u z => by have z' : (none : Option HO) = some u := z; cases z') (fun b z => absurd rfl z) fun z => absurd rfl z
 | none =>
  refine core (fun b => if b = a then some (.frz { cls := .type "list", data := .seq vs.toArray } (.lst (ns.map V.int))) else none) (fun b => ?_) (.inl (.inr ⟨{ cls := .type "list", data := .seq vs.toArray }, if_pos rfl⟩)) (fun b u z => ?_) (fun b z => ?_) fun _ => hk
  ·by_cases hb : b = a
   ·exact .inr ⟨_, _, if_pos hb⟩
   ·exact .inl (if_neg hb)
  ·by_cases hb : b = a
   ·have z' := (if_pos hb).symm.trans z
    cases z'
    subst hb
    exact ⟨ha, by rw [List.length_map]; exact hl, vs, _, rv, ha⟩
   ·have z' := (if_neg hb).symm.trans z
    cases z'
  ·by_cases hb : b = a
   ·exact hb
   ·exact absurd (if_neg hb) z
end L2

namespace L2
open PySem PySem.Spec PyProof.Rows

theorem walk_of {l : PySem.W.OpenLaw} {n k : Nat} {q : Program} {loose : List Str} {XP : (Str → Option Value) → Heap → Prop} {YP : World → Heap → Prop} {d : DefRec} {K : Params → PySem.W.Frag} {CX : World → CXT} {sp : World → Sp} {x : Str}
  (hn : l.most = some n) (hn2 : n ≤ sizeLine) (hdf : d.params.defaults = []) (hr : Room k callerA)
  (hY : ∀ (w : World) (h : Heap), YP w h → (K w.params).In h)
  (F : ∀ (w : World) (mg : Str → Option Value) (fa : Addr) (h : Heap), (K w.params).In h → h.Ns mainGlobals mg → mg d.name = some (.ref fa) →
   ∃ fd : FuncData, (∀ (s : Shared) (u : Value), BindsTo s fd ⟨[u], []⟩ [(x, u)]) ∧
    ∀ base : Heap, (K w.params).In base → base.Ns mainGlobals mg → FnOk l.prog w (K w.params) mg base (CX w) k fa fd [x] (sp w))
  (hsp : ∀ (w : World) (H : Hp) (a : Addr) (ns : List Int), ns.length ≤ n → a3R H → SqL (K w.params) H a (ns.map V.int) → sp w [.ref a] H (fun v _ => v = .bl true) fun _ _ _ => False)
  (hCX : ∀ (w : World) (H : Hp) (s : Shared) (e : Value) (s' : Shared), CX w [] H s (fun _ _ _ => False) e s' → False) :
  PySem.W.WalkO q loose XP YP l.row.toRowW d [] (fun f vs => PySem.call f vs) := by
 refine Att.attach_call hn hdf fun w s₀ s₁ mg mb fa o pm cd doc a vs ns G Y ho hd hcd hmg hobj hints hlen hg => ?_
 have KX := hY w _ Y
 obtain ⟨fd, hb, hF⟩ := F w mg fa _ KX G.T.g hmg
 exact a9t KX G.T.g G.T.b G.T.builtins G.T.nolimit hg hobj hints (Nat.le_trans hlen hn2) hr hF hb (fun H hO hS => hsp w H a ns hlen hO hS) fun H e s' => hCX w H s₁ e s'
end L2


namespace L2
open PySem PySem.Spec PyProof.Rows

noncomputable def v5 (s : Stmt) : Arguments := match s with
 | .FunctionDef _ a _ _ _ _ _ _ _ _ => a
 | _ => { posonlyargs := [], args := [], vararg := none, kwonlyargs := [], kw_defaults := [], kwarg := none, defaults := [] }
noncomputable def u9 (s : Stmt) : List Stmt := match s with
 | .FunctionDef _ _ b _ _ _ _ _ _ _ => b
 | _ => []
noncomputable def j8 (s : Stmt) : Scope := match s with
 | .FunctionDef _ _ _ _ _ _ sc _ _ _ => sc
 | _ => { kind := .function, names := [], isGenerator := false, isCoroutine := false }

noncomputable abbrev CX0 : CXT := fun _ _ _ _ _ _ => False
noncomputable abbrev E0 : XK := fun _ _ _ => False
theorem b0u {X : Cx} : a4s CX0 X E0 := fun _ _ _ _ _ _ _ h => h.elim

structure Fun (K : PySem.W.Frag) (x qual : Str) (st : Stmt) (f : Addr) (fd : FuncData) : Prop where
 ex : ∃ (oc : Value) (od : Option Addr) (kV doc pm : Value) (an : Option Addr) (cdv ct : Value) (osl : Array (Option Value)),
  fd = PySem.W.fnOf x qual (v5 st) (u9 st) (j8 st) .none kV doc pm an cdv ct ∧ K.lookup f = some ⟨oc, od, .func fd, osl⟩ ∧ PySem.W.codeIn K cdv qual = true
 kp : PySem.W.keepIn K (.ref f) = true
section
variable {P : Program} {w : World} {K : PySem.W.Frag} {mg : Str → Option Value} {base : Heap}
theorem Fun.ok {x qual : Str} {st : Stmt} {f : Addr} {fd : FuncData} {N ps : List Str} {k : Nat} {sp : Sp} (F : Fun K x qual st f fd) (S : FnScope N ps (j8 st)) (len : ∀ vs H Q E, sp vs H Q E → vs.length = ps.length)
  (hbody : ∀ (cdv : Value) (A : Around) (outer : List Env) (s : Shared) (H : Hp) (vs : List V) (Q : VK) (E : XK), Room k (A.deeper (envOfC qual (j8 st) s.heap.objs.size f cdv)) → sp vs H Q E →
   ∃ t, PSs (Q6 CX0 P w K mg base N qual (j8 st) f cdv A outer s H E).nox (u9 st) t ∧ t { nx := fun _ H' => Q .non H', rt := Q } (start N vs) H) : FnOk P w K mg base CX0 (k + 1) f fd ps sp := by
 obtain ⟨oc, od, kV, doc, pm, an, cdv, ct, osl, rfl, lk, hcd⟩ := F.ex
 refine b2G lk hcd S len fun A outer s H vs Q E hr hsp => ?_
 obtain ⟨t, h, q⟩ := hbody cdv A outer s H vs Q E hr hsp
 exact ⟨t, h.nox, q⟩
theorem Fun.binds {x qual : Str} {st : Stmt} {f : Addr} {fd : FuncData} {ps : List Str} (F : Fun K x qual st f fd)
  (h : ∀ (kV doc pm : Value) (an : Option Addr) (cdv ct : Value) (us : List Value), us.length = ps.length → bindArgs (PySem.W.fnOf x qual (v5 st) (u9 st) (j8 st) .none kV doc pm an cdv ct) ⟨us, []⟩ = pure (ps.zip us)) : Binds K fd ps [] := by
 obtain ⟨oc, od, kV, doc, pm, an, cdv, ct, osl, rfl, lk, hcd⟩ := F.ex
 exact .all (h kV doc pm an cdv ct)
theorem v7 {x qual : Str} {st : Stmt} {f : Addr} {oc : Value} {od an : Option Addr} {osl : Array (Option Value)} {kV doc pm cdv ct : Value} (l : K.lookup f = some ⟨oc, od, .func (PySem.W.fnOf x qual (v5 st) (u9 st) (j8 st) .none kV doc pm an cdv ct), osl⟩)
  (c : PySem.W.codeIn K cdv qual = true) (k : PySem.W.keepIn K (.ref f) = true) : Fun K x qual st f (PySem.W.fnOf x qual (v5 st) (u9 st) (j8 st) .none kV doc pm an cdv ct) := ⟨⟨oc, od, kV, doc, pm, an, cdv, ct, osl, rfl, l, c⟩, k⟩
end
theorem K5 {A : Around} {k : Nat} (hr : Room k A) : A.units + 1 < cLine := Nat.lt_of_le_of_lt (Nat.add_le_add_left (by decide : 1 ≤ 64) _) hr.units
section
variable {X : Cx}
theorem pv (i : Nat) {x : Str} {pos : Pos} (hN : X.N[i]? = some x := by rfl) (hv : Vis X.env.scope x := by first | exact Or.inl rfl | exact Or.inr (Or.inl rfl) | exact Or.inr (Or.inr rfl)) (hd : (x == ("__debug__" : Str)) = false := by decide)
  (hcd : (x == ("__classdict__" : Str)) = false := by decide) : PE X (.Name x pos) (R4 i) := b0v hN hv hd hcd
end

theorem b3R {A B : Prop} (h : B) : if false = true then A else B := by
 rw [if_neg Bool.false_ne_true]
 exact h
theorem b1z {A B : Prop} (h : A) : if true = true then A else B := by
 rw [if_pos rfl]
 exact h
section
variable {κ : Type} [DecidableEq κ]
end
end L2

namespace L2
open PySem PySem.Spec PyProof.Rows

noncomputable def blk (X : Cx) (N' : List Str) (scope : Scope) (cl : List (Str × Addr)) (C : Addr) (s0 : Shared) (H0 : Hp) (ex : List Addr) : Cx :=
 { X with N := N', env := compEnvC scope cl C X.env, s₀ := s0, H₀ := H0, outer := X.stack, stack := X.stack, ex := ex, fn := fun _ => false, pn := [], xe := fun _ _ => False }
noncomputable def a4w (X : Cx) (ifs : List Expr) (t : TT) : Prop :=
 ∀ (pins : List (Addr × Obj)) (s : Shared) (σ : St) (H : Hp) (Q : Bool → Hp → Prop), Inv X pins σ H s → t σ H Q →
  wpAny (model X.prog X.w) X.A (forIn ifs true fun c r => if r = true then do let ok ← isTrue c X.env (eval c X.env); pure (ForInStep.yield ok) else pure (ForInStep.yield r)) (TP X pins σ Q) X.xe s
noncomputable def b3P : TT := fun _ H Q => Q true H
theorem a9j {X : Cx} : a4w X [] b3P := fun pins s σ H Q I h => wpAny_tests_nil ⟨H, I, h⟩
noncomputable def C0 (n : Nat) (idx : List Nat) (σ : St) : St := List.replicate n none ++ idx.map fun i => (σ[i]?).join
noncomputable def a1z (n : Nat) (idx : List Nat) (wi : TI) (g : TG) (tc : TT) (te : TE) : TE := fun σ H Q => wi σ H fun J H1 => ∀ D, H1 D = none →
 ∃ W : Nat → Nat → Hp → Prop, (∃ m, W 0 m (upd H1 D (.lst []))) ∧ ∀ i m H, W i m H →
  (J.stop i H ∧ Q (.ref D) H) ∨ (J.go i H ∧ ∀ x H', J.yld i H x H' → g x (C0 n idx σ) H' fun σ2 H2 => (σ2.length = (C0 n idx σ).length ∧ ∀ (j : Nat) (v : V), (C0 n idx σ)[j]? = some (some v) → σ2[j]? = some (some v)) ∧ tc σ2 H2 fun b H3 =>
   if b = true then te σ2 H3 fun v H4 => ∃ ys, H4 D = some (.lst ys) ∧ ys.length < sizeLine ∧ ∃ m', m' < m ∧ W (i + 1) m' (upd H4 D (.lst (ys ++ [v]))) else ∃ m', m' < m ∧ W (i + 1) m' H3)
structure CompOk (X : Cx) (scope : Scope) (cl : List (Str × Addr)) (N' : List Str) (n : Nat) (idx : List Nat) : Prop where
 clos : closureFor scope X.env = pure cl
 sub : ∀ x c, cl.lookup x = some c → X.env.cells.lookup x = some c
 cell : ∀ y ∈ scope.names, y.2 ≠ .cell
 kind : scope.kind = .function
 names : ∀ y ∈ scope.names, y.2 = .local → scope.names.lookup y.1 = some .local
 has : ∀ x, ((relabel scope X.env).names.lookup x = some .cell ∨ (relabel scope X.env).names.lookup x = some .free) → ∃ c, cl.lookup x = some c
 len : N'.length = n + idx.length
 cap : ∀ (j i : Nat) (y : Str), idx[j]? = some i → N'[n + j]? = some y → X.N[i]? = some y ∧ (X.env.scope.names.lookup y = some .cell ∨ X.env.scope.names.lookup y = some .free) ∧ ((relabel scope X.env).names.lookup y = some .cell ∨ (relabel scope X.env).names.lookup y = some .free)
section
variable {X : Cx} {scope : Scope} {cl : List (Str × Addr)} {N' : List Str} {n : Nat} {idx : List Nat} {tg iter elt : Expr} {ifs : List Expr} {pos : Pos} {wi : TI} {g : TG} {tc : TT} {te : TE}
theorem a9d (σ : St) : (C0 n idx σ).length = n + idx.length := by simp [C0]
theorem a9S {σ : St} {j : Nat} {v : V} (h : (C0 n idx σ)[j]? = some (some v)) : ∃ k i, j = n + k ∧ idx[k]? = some i ∧ σ[i]? = some (some v) := by
 unfold C0 at h
 by_cases hj : j < n
 ·rw [List.getElem?_append_left (by simpa using hj)] at h
  simp [hj] at h
 ·rw [List.getElem?_append_right (by simpa using Nat.le_of_not_lt hj)] at h
  simp only [List.length_replicate, List.getElem?_map] at h
  refine ⟨j - n, ?_⟩
  cases e : idx[j - n]? with
  | none => rw [e] at h; simp at h
  | some i =>
   rw [e] at h
   simp only [Option.map_some, Option.some.injEq] at h
   exact ⟨i, by omega, rfl, by simpa using Option.join_eq_some_iff.mp h⟩
theorem a9q (k : CompOk X scope cl N' n idx) {pins : List (Addr × Obj)} {s2 : Shared} {σ : St} {H2 : Hp} {fp : List Addr} {C : Addr} {h4 : Heap} {t4 : Nat} {m : Str → Option Value} (I : Inv X pins σ H2 s2) (f : ∀ b ∈ fp, R6 X pins H2 b) (fo : ∀ b ∈ fp, b < s2.heap.objs.size)
  (hC : s2.heap.objs.size + 1 ≤ C) (ns : h4.Ns C m) (keep : ∀ b o, s2.heap.get? b = some o → h4.get? b = some o) (hD : h4.get? s2.heap.objs.size = some { cls := .type "list", data := .seq ([] : List Value).toArray }) :
  Inv (blk X N' scope cl C s2 H2 fp) [] (C0 n idx σ) (upd H2 s2.heap.objs.size (.lst [])) { s2 with heap := h4, toks := t4 } := by
 have fresh : H2 s2.heap.objs.size = none := I.hok.fresh (Nat.le_refl _)
 have fC : H2 C = none := I.hok.fresh (by first | decide | omega)
 have cellsub : ∀ x c, (blk X N' scope cl C s2 H2 fp).env.cells.lookup x = some c → X.env.cells.lookup x = some c := fun x c e => k.sub x c e
 have cellLt : ∀ x c, X.env.cells.lookup x = some c → c < s2.heap.objs.size := fun x c e => by
  obtain ⟨v, q⟩ := I.cell x c e
  exact q.lt
 have ok : (blk X N' scope cl C s2 H2 fp).Ok := {
  mod := I.ok.mod
  kind := k.kind
  glob := I.ok.glob
  blt := I.ok.blt
  above := by show s2.heap.objs.size ≤ C; omega
  inj := fun x y c e1 e2 => I.ok.inj x y c (cellsub x c e1) (cellsub y c e2)
  has := fun x h => k.has x h
  cab := fun x c h _ => by cases h
  hd := I.ok.hd
  frames := I.ok.frames
  stk := .inl rfl
  exf := fun b hb => ⟨Nat.ne_of_lt (Nat.lt_of_lt_of_le (fo b hb) (by show s2.heap.objs.size ≤ C; omega)), fun x c e z => (f b hb).2.2.2.2.1 x c (cellsub x c e) z⟩
  bs := fun b o e => I.bs b o e
  bsz := Nat.le_trans I.ok.bsz I.sz
  noex := fun b o e hb => by
   rcases (f b hb).2.2.2.1 with z | z
   ·exact I.ok.noex b o e z
   ·exact absurd (Nat.lt_of_lt_of_le (Heap.lt_size e) (Nat.le_trans I.ok.bsz z)) (Nat.lt_irrefl _)
  exfs := fun b hb z => by
   rcases List.mem_cons.mp (I.stkSub b z) with y | y
   ·exact (f b hb).2.1 y
   ·exact (f b hb).2.2.1 y
  funs := I.stack
  frf := I.stkFree }
 refine ⟨ok, rfl, I.bare, Un.laid keep (Nat.le_refl _) fresh, ⟨m, ns, fun j y v e1 e2 e3 => ?_⟩, fun x c e => ?_, ?_, fun x c e => ?_, fun p hp => (by cases hp), I.hok.laid keep (Nat.le_refl _) ⟨Nat.zero_le _, [], _, .nil, hD⟩, ?_⟩
 ·obtain ⟨kk, i, rfl, hk, hv⟩ := a9S e2
  obtain ⟨hN, ok, hkind⟩ := k.cap kk i y hk e1
  obtain ⟨c, hc⟩ := k.has y hkind
  obtain ⟨m0, _, hl⟩ := I.loc
  have hc' := k.sub y c hc
  obtain ⟨u, r, l⟩ := hl i y v hN hv (by rcases ok with z | z; exact .inr (.inl z); exact .inr (.inr z))
  refine ⟨u, r, .inr ⟨hkind, c, hc, ?_⟩⟩
  rcases l with ⟨z, _⟩ | ⟨_, c', e', q⟩
  ·have z' : X.env.scope.names.lookup y = some .local := z
   rcases ok with w | w <;> · rw [w] at z'; cases z'
  ·rw [hc'] at e'; cases e'
   obtain ⟨o, ho, hd⟩ := q
   exact ⟨o, keep _ o ho, hd⟩
 ·obtain ⟨v, q⟩ := I.cell x c (cellsub x c e)
  obtain ⟨o, ho, hd⟩ := q
  exact ⟨v, o, keep c o ho, hd⟩
 ·show upd H2 s2.heap.objs.size (.lst []) C = none
  rw [u5 (Nat.ne_of_gt hC)]; exact fC
 ·have := cellLt x c (cellsub x c e)
  rw [u5 (Nat.ne_of_lt this)]
  exact I.freeC x c (cellsub x c e)
 ·rw [a9d, ← k.len]; rfl
theorem b2V {prog : Program} {w : World} {A : Around} {R : Result → Shared → Prop} {s : Shared} {elt target iter : Expr} {ifs : List Expr} {scope : Scope} {pos : Pos} {it acc : Value} {env : Env} (I : Nat → Shared → Prop)
  (turn : ∀ n s, I n s → wpAny (model prog w) A (pyNext it) (fun r s1 => match r with
   | none => R (.ok .next) s1
   | some v => wpAny (model prog w) A (letOwnedTupleGo target it v) (fun _ s1' => wpAny (model prog w) A (assign target env v) (fun _ s2 =>
     wpAny (model prog w) A (forIn ifs true fun c r => if r = true then do let ok ← isTrue c env (eval c env); pure (ForInStep.yield ok) else pure (ForInStep.yield r)) (fun ok s3 =>
      if ok = true then wpAny (model prog w) A (eval elt env) (fun x s4 =>
       wpAny (model prog w) A (call (.builtin "list.append") [acc, x]) (fun _ s5 => ∃ m, m < n ∧ I m s5) (notedBy (model prog w) A env fun e s' => R (.error e) s') s4) (notedBy (model prog w) A env fun e s' => R (.error e) s') s3
      else ∃ m, m < n ∧ I m s3) (notedBy (model prog w) A env fun e s' => R (.error e) s') s2) (notedBy (model prog w) A env fun e s' => R (.error e) s') s1') (notedBy (model prog w) A env fun e s' => R (.error e) s') s1) (notedBy (model prog w) A env fun e s' => R (.error e) s') s)
  (n : Nat) (h : I n s) :
  codeAny (model prog w) A (.compLoop (.ListComp elt [⟨target, iter, ifs, 0⟩] scope pos) 0 it acc env) R s := by
 refine codeAny_loop rfl I (fun n s hI => ?_) n h
 show wpAny _ A ((compTurn (.ListComp elt [⟨target, iter, ifs, 0⟩] scope pos) 0 it acc env).onRaise (fun x => do noteFrame x env; theTreesLotGoes x)) _ _ s
 refine wpAny_noted ?_
 rw [compTurn_list]
 refine wpAny_bind (wpAny_standAt (wpAny_bind (wpAny_mono (turn n s hI) (fun r s₁ h₁ => ?_) fun _ _ h' => h')))
 cases r with
 | none => exact wpAny_pure h₁
 | some v =>
  refine wpAny_bind (wpAny_mono h₁ (fun _ s1' h1' => ?_) fun _ _ h' => h')
  refine wpAny_bind (wpAny_mono h1' (fun _ s₂ h₂ => wpAny_bind (wpAny_mono h₂ (fun ok s₃ h₃ => ?_) fun _ _ h' => h')) fun _ _ h' => h')
  cases ok with
  | false => exact wpAny_pure ⟨rfl, h₃⟩
  | true =>
   exact wpAny_bind (wpAny_bind (wpAny_mono h₃ (fun x s₄ h₄ => wpAny_bind (wpAny_mono h₄ (fun _ s₅ h₅ => wpAny_pure (wpAny_pure ⟨rfl, h₅⟩)) fun _ _ h' => h')) fun _ _ h' => h'))
theorem a5D (hc : X.calm = true) (k : CompOk X scope cl N' n idx) (hi : PI X tg iter wi)
  (hg : ∀ C s0 H0 ex, PG (blk X N' scope cl C s0 H0 ex) tg g) (ht : ∀ C s0 H0 ex, a4w (blk X N' scope cl C s0 H0 ex) ifs tc) (he : ∀ C s0 H0 ex, PE (blk X N' scope cl C s0 H0 ex) elt te)
  (hs : ∀ x, foldedSetIterable iter X.env x = pure x := by intro _; rfl) : PE X (.ListComp elt [⟨tg, iter, ifs, 0⟩] scope pos) (a1z n idx wi g tc te) := by
 intro pins s σ H Q I0 h
 rw [eval_ListComp]
 refine wpAny_comprehension_free (use := none) rfl hs k.clos k.kind k.names (thn (hi pins s σ H _ I0 h) fun v s1 h1 => thn h1 fun itv s2 h2 => ?_)
 obtain ⟨it, fp, tn, J, H2, e, I2, T, st2, f2, hW⟩ := h2
 subst e
 have fo2 : ∀ b ∈ fp, b < s2.heap.objs.size := fun b hb => by
  obtain ⟨o, e, _⟩ := T.obj _ _ st2 b hb
  exact Heap.lt_size e
 obtain ⟨W, ⟨m0, w0⟩, turn⟩ := hW s2.heap.objs.size (I2.hok.fresh (Nat.le_refl _))
 refine wpAny_newObj_type (wpAny_newFunctionEnv k.cell (by intro y hy; simp at hy) (fun h4 hns4 hsb4 => ?_) k.kind)
 dsimp only at hns4 hsb4 ⊢
 generalize hH3 : s2.heap.push { cls := .type "list", dict := none, data := .seq ([] : List Value).toArray } = h3 at hns4 hsb4 ⊢
 have hCe : h3.objs.size = s2.heap.objs.size + 1 := by rw [← hH3, Heap.size_push]
 have k34 : ∀ b o, b ≠ h3.objs.size → h3.get? b = some o → h4.get? b = some o := fun b o nb e => hsb4.extBut b o nb (Heap.get?_push_of_some _ e)
 have keep : ∀ b o, s2.heap.get? b = some o → h4.get? b = some o := fun b o e => k34 b o (Nat.ne_of_lt (by rw [hCe]; exact Nat.lt_succ_of_lt (Heap.lt_size e))) (by rw [← hH3]; exact Heap.get?_push_of_some _ e)
 have hD : h4.get? s2.heap.objs.size = some { cls := .type "list", data := .seq ([] : List Value).toArray } := k34 _ _ (Nat.ne_of_lt (by rw [hCe]; exact Nat.lt_succ_self _)) (by rw [← hH3]; exact Heap.get?_push_size _ rfl)
 have I4 := a9q k I2 f2 fo2 (Nat.le_of_eq hCe.symm) hns4 keep hD (t4 := s2.toks + ([] : List (Str × Value)).length)
 have stat : ∀ {H' : Hp}, (∀ b ∈ fp, H' b = none) → ∀ b ∈ fp, R6 (blk X N' scope cl h3.objs.size s2 H2 fp) [] H' b := fun hn b hb =>
  ⟨hn b hb, Nat.ne_of_lt (by rw [hCe]; exact Nat.lt_succ_of_lt (fo2 b hb)), fun z => (List.mem_cons.mp (I2.stkSub b z)).elim (f2 b hb).2.1 (f2 b hb).2.2.1, .inl hb, fun x c e => (f2 b hb).2.2.2.2.1 x c (k.sub x c e), fun p hp => (by cases hp)⟩
 have fr4 : ∀ b ∈ fp, upd H2 s2.heap.objs.size (.lst []) b = none := fun b hb => by rw [u5 (Nat.ne_of_lt (fo2 b hb))]; exact (f2 b hb).1
 have fin : ∀ (s' : Shared) (H' : Hp), Inv (blk X N' scope cl h3.objs.size s2 H2 fp) [] (C0 n idx σ) H' s' → Q (.ref s2.heap.objs.size) H' →
   compPost (model X.prog X.w) X.A X.xe none (EP X pins σ Q) (.ref s2.heap.objs.size) h3.objs.size (.ok .next) s' := fun s' H' I' q => by
  obtain ⟨m', hn', _⟩ := I'.loc
  refine ⟨m', hn', fun h5 hsb => ⟨.ref s2.heap.objs.size, H', ?_, rfl, q⟩⟩
  have kk : ∀ b o, b ≠ h3.objs.size → s'.heap.get? b = some o → h5.get? b = some o := fun b o nb e => (hsb.2 b nb).trans e
  have ltC : ∀ b o, s2.heap.get? b = some o → b ≠ h3.objs.size := fun b o e => Nat.ne_of_lt (by rw [hCe]; exact Nat.lt_succ_of_lt (Heap.lt_size e))
  have nC : ∀ b u, H' b = some u → b ≠ h3.objs.size := fun b u e z => by
   have z2 : H' h3.objs.size = none := I'.free
   rw [z, z2] at e; cases e
  have B := I'.base
  refine I2.call' (s' := { s' with heap := h5 }) (ch := fp) (show s'.os = s2.os from I'.os) ⟨fun b o e nn hb hx => kk b o (ltC b o e) (B.keep b o e nn hb hx), fun b o e nn hb hx => ?_, B.free, fun b o e hx => ?_, B.tups, B.frzs, B.tbls⟩ (fun b u e => ?_) I'.bare fun b hb => ?_
  ·obtain ⟨sl, q⟩ := B.slot b o e nn hb hx
   exact ⟨sl, kk b _ (ltC b o e) q⟩
  ·obtain ⟨o', q⟩ := B.there b o e hx
   exact ⟨o', kk b _ (ltC b o e) q⟩
  ·refine (I'.hok b u e).stay (fun c v hc q => kk c v ?_ q) (fun _ q => q) fun _ _ q => q
   rcases hc with z | z
   ·rw [z]; exact nC b u e
   ·exact nC c _ z
  ·obtain ⟨p1, p2, p3, p4, p5, p6⟩ := f2 b hb
   exact ⟨p4, p2, p5, p6⟩
 have loop : ∀ s4 : Shared, s4 = { s2 with heap := h4, toks := s2.toks + ([] : List (Str × Value)).length } →
   codeAny (model X.prog X.w) X.A (.compLoop (.ListComp elt [⟨tg, iter, ifs, 0⟩] scope pos) 0 (.ref it) (.ref s2.heap.objs.size) (compEnvC scope cl h3.objs.size X.env)) (compPost (model X.prog X.w) X.A X.xe none (EP X pins σ Q) (.ref s2.heap.objs.size) h3.objs.size) s4 := by
  rintro s4 rfl
  refine b2V (fun m s' => ∃ i H', Inv (blk X N' scope cl h3.objs.size s2 H2 fp) [] (C0 n idx σ) H' s' ∧ tn i s'.heap ∧ (∀ b ∈ fp, H' b = none) ∧ W i m H') ?_ m0 ⟨0, _, I4, T.keep _ _ _ st2 (fun b _ o e => keep b o e), fr4, w0⟩
  rintro m s3 ⟨i, H3, I3, st3, fr3, w3⟩
  rcases turn i m H3 w3 with ⟨stop, q⟩ | ⟨go, step⟩
  ·refine wpAny_mono (T.done (blk X N' scope cl h3.objs.size s2 H2 fp) rfl rfl rfl hc i [] s3 _ H3 (fun _ _ => False) I3 (stat fr3) st3 stop) (fun r s5 ⟨hr, I5⟩ => ?_) fun _ _ z => z.elim
   subst hr
   exact fin s5 H3 I5 q
  ·refine wpAny_mono (T.item (blk X N' scope cl h3.objs.size s2 H2 fp) rfl rfl rfl hc i [] s3 _ H3 (fun _ _ => False) I3 (stat fr3) st3 go) (fun r s5 ⟨u, hr, h5⟩ => ?_) fun _ _ z => z.elim
   subst hr
   refine wpAny_mono h5 (fun _ s6 ⟨x, H6, I6, r6, y6, st6, fr6⟩ => ?_) fun _ _ z => z.elim
   have I6' := I6.pinned (stat fr6) (T.obj _ _ st6)
   have again : ∀ {σ7 : St} {H7 : Hp} {s7 : Shared}, Inv (blk X N' scope cl h3.objs.size s2 H2 fp) ([] ++ a0I fp s6.heap) σ7 H7 s7 → σ7.length = (C0 n idx σ).length → (∀ (j : Nat) v, (C0 n idx σ)[j]? = some (some v) → σ7[j]? = some (some v)) → (∃ m', m' < m ∧ W (i + 1) m' H7) →
     ∃ m', m' < m ∧ ∃ i H', Inv (blk X N' scope cl h3.objs.size s2 H2 fp) [] (C0 n idx σ) H' s7 ∧ tn i s7.heap ∧ (∀ b ∈ fp, H' b = none) ∧ W i m' H' := fun {σ7 H7 s7} I7 hl hw ⟨m', hm, w7⟩ => by
    refine ⟨m', hm, i + 1, H7, (I7.unpinned).weak hl.symm hw, T.keep _ _ _ st6 fun b hb o e => (I7.pin (b, o) (List.mem_append_right _ (List.mem_append_right _ (a1B hb e)))).1, fun b hb => ?_, w7⟩
    obtain ⟨o, e, d⟩ := T.obj _ _ st6 b hb
    exact (I7.pin (b, o) (List.mem_append_right _ (List.mem_append_right _ (a1B hb e)))).2.1
   refine wpAny_mono (hg _ _ _ _ _ s6 _ H6 x u _ I6' r6 (step x H6 y6)) (fun _ s7 ⟨σ7, H7, I7, ⟨hl, hw⟩, q7⟩ => ?_) fun _ _ z => z.elim
   refine wpAny_mono (ht _ _ _ _ _ s7 σ7 H7 _ I7 q7) (fun ok s8 ⟨H8, I8, q8⟩ => ?_) fun _ _ z => z.elim
   cases ok with
   | false =>
    rw [if_neg Bool.false_ne_true] at q8 ⊢
    exact again I8 hl hw q8
   | true =>
    rw [if_pos rfl] at q8 ⊢
    refine wpAny_mono (he _ _ _ _ _ s8 σ7 H8 _ I8 q8) (fun v9 s9 ⟨x9, H9, I9, r9, ys, e9, l9, q9⟩ => ?_) fun _ _ z => z.elim
    refine wpAny_mono (a5W (X := blk X N' scope cl h3.objs.size s2 H2 fp) _ s9 σ7 H9 (.ref s2.heap.objs.size) [x9] (.ref s2.heap.objs.size) [v9] (fun _ H' => H' = upd H9 s2.heap.objs.size (.lst (ys ++ [x9]))) I9 rfl (.cons r9 .nil) ⟨s2.heap.objs.size, ys, x9, rfl, rfl, e9, l9, rfl⟩) (fun _ s10 ⟨_, H10, I10, _, e10⟩ => ?_) fun _ _ z => z.elim
    subst e10
    exact again I10 hl hw q9
 exact codeAny_compStart_list (loop _ rfl) (T.self _ 0 _ _ _ (T.keep _ _ _ st2 (fun b _ o e => keep b o e)) (loop _ rfl))
end
end L2

namespace L2
open PySem PySem.Spec PyProof.Rows
section
variable {X : Cx} {scope : Scope} {cl : List (Str × Addr)} {N' : List Str} {n : Nat} {idx : List Nat} {tg iter elt : Expr} {ifs : List Expr} {pos : Pos} {wi : TI} {g : TG} {tc : TT} {te : TE}
end
end L2

namespace DL
open PySem PySem.Spec L2

inductive D where
 | non | bl (b : Bool) | int (i : Int) | str (x : Str) | tup (ds : List D) | lst (ds : List D)
 | feed | scr (ns : List Int)

mutual
noncomputable def D.py : D → PyData
 | .non => .none
 | .bl b => .bool b
 | .int i => .int i
 | .str x => .str x
 | .tup ds => .tuple (D.pys ds)
 | .lst ds => .list (D.pys ds)
 | .feed => .none
 | .scr _ => .none
noncomputable def D.pys : List D → List PyData
 | [] => []
 | d :: r => D.py d :: D.pys r
end
mutual
noncomputable def D.plain : D → Bool
 | .non => true
 | .bl _ => true
 | .int _ => true
 | .str _ => true
 | .tup ds => D.plains ds
 | .lst ds => D.plains ds
 | .feed => false
 | .scr _ => false
noncomputable def D.plains : List D → Bool
 | [] => true
 | d :: r => D.plain d && D.plains r
end

structure FS where
 cells : List Int
 pos : Int
 left : Int
 turn : Int
 kind : Nat

noncomputable def a78 (c : Addr) (f : FS) : List V := if f.kind = 1 then [V.ref c, V.int f.pos, V.int f.left] else [V.ref c, V.int f.pos, V.int f.left, V.int f.turn]
noncomputable def fho (c : Addr) (f : FS) : HO := if f.kind = 0 then .dK [(Sum.inr ("cells" : Str), V.ref c), (Sum.inr ("at" : Str), V.int f.pos), (Sum.inr ("left" : Str), V.int f.left), (Sum.inr ("turn" : Str), V.int f.turn)] else .lst (a78 c f)
theorem a3j {c : Addr} {f : FS} (h : f.kind = 0) : fho c f = .dK [(Sum.inr ("cells" : Str), V.ref c), (Sum.inr ("at" : Str), V.int f.pos), (Sum.inr ("left" : Str), V.int f.left), (Sum.inr ("turn" : Str), V.int f.turn)] := if_pos h
theorem b00 {c : Addr} {f : FS} {xs : List V} (h : fho c f = .tup xs) : False := by unfold fho at h; split at h <;> cases h
theorem b04 {c : Addr} {f : FS} {o : Obj} {u : HO} (h : fho c f = .frz o u) : False := by unfold fho at h; split at h <;> cases h
noncomputable def FeedR (N : Addr → Prop) (H : Hp) : Option Addr → Option FS → Prop
 | none, none => True
 | some a, some f => f.cells.length ≤ 63 ∧ ∃ c, H a = some (fho c f) ∧ ¬ N c ∧ H c = some (.lst (f.cells.map V.int))
 | _, _ => False

noncomputable def SqF (K : PySem.W.Frag) (H : Hp) (a : Addr) (xs : List V) : Prop :=
 (∃ o, H a = some (.frz o (.lst xs))) ∨
  ∃ (o : Obj) (its : Array Value) (n : Nat), K.lookup a = some o ∧ o.cls = .type "list" ∧ o.dict = none ∧ o.data = .seq its n ∧ its.size ≤ sizeLine ∧ Vals xs its.toList
theorem SqF.sq {K : PySem.W.Frag} {H : Hp} {a : Addr} {xs : List V} (h : SqF K H a xs) : SqL K H a xs := by
 rcases h with ⟨o, h⟩ | h
 ·exact .inl (.inr ⟨o, h⟩)
 ·exact .inr h

mutual
noncomputable def Rep (K : PySem.W.Frag) (N : Addr → Prop) (fa : Option Addr) (H : Hp) : D → V → Prop
 | .non, v => v = .non
 | .bl b, v => v = .bl b
 | .int i, v => v = .int i
 | .str x, v => v = .str x ∧ x.length ≤ sizeLine
 | .tup ds, v => ∃ a xs, v = .ref a ∧ SqT K H a xs ∧ Reps K N fa H ds xs
 | .lst ds, v => ∃ a xs, v = .ref a ∧ ¬ N a ∧ H a = some (.lst xs) ∧ Reps K N fa H ds xs
 | .feed, v => ∃ a, fa = some a ∧ v = .ref a
 | .scr ns, v => ns.length ≤ 63 ∧ ∃ a, v = .ref a ∧ SqF K H a (ns.map V.int)
noncomputable def Reps (K : PySem.W.Frag) (N : Addr → Prop) (fa : Option Addr) (H : Hp) : List D → List V → Prop
 | [], xs => xs = []
 | d :: r, xs => ∃ x ys, xs = x :: ys ∧ Rep K N fa H d x ∧ Reps K N fa H r ys
end
noncomputable def RepB (K : PySem.W.Frag) (N : Addr → Prop) (fa : Option Addr) (H : Hp) : D → V → Prop
 | .lst ds, v => ∃ a xs, v = .ref a ∧ fa ≠ some a ∧ H a = some (.lst xs) ∧ Reps K N fa H ds xs
 | d, v => Rep K N fa H d v
noncomputable def R5 (K : PySem.W.Frag) (N : Addr → Prop) (fa : Option Addr) (H : Hp) : List D → List V → Prop
 | [], xs => xs = []
 | d :: r, xs => ∃ x ys, xs = x :: ys ∧ RepB K N fa H d x ∧ R5 K N fa H r ys

structure Car (K : PySem.W.Frag) (N : Addr → Prop) (fa : Option Addr) (H : Hp) (N' : Addr → Prop) (fa' : Option Addr) (H' : Hp) : Prop where
 ls : ∀ b xs, ¬ N b → H b = some (.lst xs) → H' b = some (.lst xs) ∧ ¬ N' b
 tp : ∀ b xs, SqT K H b xs → SqT K H' b xs
 fz : ∀ b xs, SqF K H b xs → SqF K H' b xs
 fe : ∀ a, fa = some a → fa' = some a
section
variable {K : PySem.W.Frag} {N N' : Addr → Prop} {fa fa' : Option Addr} {H H' : Hp}
mutual
theorem Rep.go (c : Car K N fa H N' fa' H') : ∀ (d : D) (v : V), Rep K N fa H d v → Rep K N' fa' H' d v
 | .non, v, h => by simpa only [Rep] using h
 | .bl b, v, h => by simpa only [Rep] using h
 | .int i, v, h => by simpa only [Rep] using h
 | .str x, v, h => by simpa only [Rep] using h
 | .tup ds, v, h => by
  simp only [Rep] at h ⊢
  obtain ⟨a, xs, e, q, r⟩ := h
  exact ⟨a, xs, e, c.tp a xs q, Reps.go c ds xs r⟩
 | .lst ds, v, h => by
  simp only [Rep] at h ⊢
  obtain ⟨a, xs, e, n, q, r⟩ := h
  obtain ⟨q', n'⟩ := c.ls a xs n q
  exact ⟨a, xs, e, n', q', Reps.go c ds xs r⟩
 | .feed, v, h => by
  simp only [Rep] at h ⊢
  obtain ⟨a, e, q⟩ := h
  exact ⟨a, c.fe a e, q⟩
 | .scr ns, v, h => by
  simp only [Rep] at h ⊢
  obtain ⟨l, a, e, q⟩ := h
  exact ⟨l, a, e, c.fz a _ q⟩
theorem Reps.go (c : Car K N fa H N' fa' H') : ∀ (ds : List D) (xs : List V), Reps K N fa H ds xs → Reps K N' fa' H' ds xs
 | [], xs, h => by simpa only [Reps] using h
 | d :: r, xs, h => by
  simp only [Reps] at h ⊢
  obtain ⟨x, ys, e, h1, h2⟩ := h
  exact ⟨x, ys, e, Rep.go c d x h1, Reps.go c r ys h2⟩
end
theorem Rep.b (hN : ∀ a, fa = some a → N a) {d : D} {v : V} (h : Rep K N fa H d v) : RepB K N fa H d v := by
 cases d with
 | lst ds =>
  simp only [Rep] at h
  obtain ⟨a, xs, e, n, q, r⟩ := h
  exact ⟨a, xs, e, fun z => n (hN a z), q, r⟩
 | _ => simpa only [RepB] using h
noncomputable def M2 (K : PySem.W.Frag) (N : Addr → Prop) (fa : Option Addr) (H : Hp) : D → V → Prop
 | .lst ds, v => ∃ a xs, v = .ref a ∧ H a = some (.lst xs) ∧ Reps K N fa H ds xs
 | d, v => Rep K N fa H d v
theorem Rep.o {d : D} {v : V} (h : Rep K N fa H d v) : M2 K N fa H d v := by
 cases d with
 | lst ds =>
  simp only [Rep] at h
  obtain ⟨a, xs, e, _, q, r⟩ := h
  exact ⟨a, xs, e, q, r⟩
 | _ => simpa only [M2] using h
theorem RepB.o {d : D} {v : V} (h : RepB K N fa H d v) : M2 K N fa H d v := by
 cases d with
 | lst ds =>
  obtain ⟨a, xs, e, _, q, r⟩ := h
  exact ⟨a, xs, e, q, r⟩
 | _ => simpa only [M2, RepB] using h
theorem Reps.length : ∀ {ds : List D} {xs : List V}, Reps K N fa H ds xs → xs.length = ds.length
 | [], xs, h => by simp only [Reps] at h; subst h; rfl
 | d :: r, xs, h => by
  simp only [Reps] at h
  obtain ⟨x, ys, e, h1, h2⟩ := h
  subst e
  simp [Reps.length h2]
theorem Reps.get : ∀ {ds : List D} {xs : List V} {i : Nat} {d : D}, Reps K N fa H ds xs → ds[i]? = some d → ∃ x, xs[i]? = some x ∧ Rep K N fa H d x
 | [], xs, i, d, h, e => by simp at e
 | d :: r, xs, 0, d', h, e => by
  simp only [Reps] at h
  obtain ⟨x, ys, e1, h1, h2⟩ := h
  simp at e
  subst e1; subst e
  exact ⟨x, rfl, h1⟩
 | d :: r, xs, i + 1, d', h, e => by
  simp only [Reps] at h
  obtain ⟨x, ys, e1, h1, h2⟩ := h
  subst e1
  obtain ⟨y, e2, h3⟩ := Reps.get h2 (by simpa using e)
  exact ⟨y, by simpa using e2, h3⟩
theorem Reps.get' : ∀ {ds : List D} {xs : List V} {i : Nat} {x : V}, Reps K N fa H ds xs → xs[i]? = some x → ∃ d, ds[i]? = some d ∧ Rep K N fa H d x := fun {ds xs i x} h e => by
 have hl := h.length
 have hi : i < xs.length := (List.getElem?_eq_some_iff.mp e).1
 obtain ⟨y, e2, h3⟩ := Reps.get h (List.getElem?_eq_getElem (show i < ds.length by omega))
 rw [e] at e2; cases e2
 exact ⟨_, List.getElem?_eq_getElem (show i < ds.length by omega), h3⟩
theorem Reps.append : ∀ {ds es : List D} {xs ys : List V}, Reps K N fa H ds xs → Reps K N fa H es ys → Reps K N fa H (ds ++ es) (xs ++ ys)
 | [], es, xs, ys, h, q => by simp only [Reps] at h; subst h; simpa using q
 | d :: r, es, xs, ys, h, q => by
  simp only [Reps] at h
  obtain ⟨x, zs, e1, h1, h2⟩ := h
  subst e1
  simp only [List.cons_append, Reps]
  exact ⟨x, _, rfl, h1, Reps.append h2 q⟩
theorem Reps.one {d : D} {x : V} (h : Rep K N fa H d x) : Reps K N fa H [d] [x] := by
 simp only [Reps]
 exact ⟨x, [], rfl, h, rfl⟩
theorem Reps.nil : Reps K N fa H [] [] := by simp only [Reps]
theorem Reps.take : ∀ {ds : List D} {xs : List V} (n : Nat), Reps K N fa H ds xs → Reps K N fa H (ds.take n) (xs.take n)
 | _, _, 0, _ => by simp only [List.take_zero, Reps]
 | [], xs, n + 1, h => by simp only [Reps] at h; subst h; simp only [List.take_nil, Reps]
 | d :: r, xs, n + 1, h => by
  simp only [Reps] at h
  obtain ⟨x, zs, e1, h1, h2⟩ := h
  subst e1
  simp only [List.take_succ_cons, Reps]
  exact ⟨x, _, rfl, h1, Reps.take n h2⟩
theorem Reps.drop : ∀ {ds : List D} {xs : List V} (n : Nat), Reps K N fa H ds xs → Reps K N fa H (ds.drop n) (xs.drop n)
 | _, _, 0, h => by simpa using h
 | [], xs, n + 1, h => by simp only [Reps] at h; subst h; simp only [List.drop_nil, Reps]
 | d :: r, xs, n + 1, h => by
  simp only [Reps] at h
  obtain ⟨x, zs, e1, h1, h2⟩ := h
  subst e1
  simpa using Reps.drop n h2
theorem Reps.ints : ∀ {ns : List Int}, Reps K N fa H (ns.map D.int) (ns.map V.int)
 | [] => by simp only [List.map_nil, Reps]
 | n :: r => by
  simp only [List.map_cons, Reps, Rep]
  exact ⟨_, _, rfl, rfl, Reps.ints⟩
end

inductive Sl where
 | no | val (d : D) | own (ds : List D)
structure DS where
 sl : List Sl
 fs : Option FS

noncomputable def NN (F : Addr → Prop) (fa : Option Addr) (O : List Addr) : Addr → Prop := fun b => F b ∨ b ∈ O ∨ fa = some b

noncomputable def SlR (K : PySem.W.Frag) (N : Addr → Prop) (fa : Option Addr) (H : Hp) : List Sl → List (Option V) → List Addr → Prop
 | [], σ, O => σ = [] ∧ O = []
 | .no :: r, σ, O => ∃ v τ, σ = v :: τ ∧ SlR K N fa H r τ O
 | .val d :: r, σ, O => ∃ u τ, σ = some u :: τ ∧ Rep K N fa H d u ∧ SlR K N fa H r τ O
 | .own ds :: r, σ, O => ∃ a xs τ P, σ = some (.ref a) :: τ ∧ O = a :: P ∧ H a = some (.lst xs) ∧ Reps K N fa H ds xs ∧ SlR K N fa H r τ P

structure Stp (fa : Option Addr) (O : List Addr) (H : Hp) (fa' : Option Addr) (O' : List Addr) (H' : Hp) : Prop where
 sub : ∀ b ∈ O', b ∈ O ∨ H b = none
 fe : fa' = fa ∨ (fa = none ∧ ∀ a, fa' = some a → H a = none)
 same : ∀ b u, H b = some u → b ∉ O → fa ≠ some b → H' b = some u
 mon : ∀ b, H' b = none → H b = none
structure StE (fa : Option Addr) (O : List Addr) (H : Hp) (fa' : Option Addr) (O' : List Addr) (H' : Hp) : Prop where
 sub : ∀ b ∈ O', b ∈ O
 fe : fa' = fa ∨ (fa = none ∧ ∀ a, fa' = some a → H a = none)
 same : ∀ b u, H b = some u → fa ≠ some b → H' b = some u
 mon : ∀ b, H' b = none → H b = none

structure DI (K : PySem.W.Frag) (F : Addr → Prop) (H0 : Hp) (fa0 : Option Addr) (σ : St) (H : Hp) (fa : Option Addr) (O : List Addr) (s : DS) : Prop where
 nd : O.Nodup
 sl : SlR K (NN F fa O) fa H s.sl σ O
 fr : ∀ b ∈ O, H0 b = none
 st : Stp fa0 [] H0 fa [] H
 tr : ∀ b, F b → H0 b ≠ none
 ff : ∀ a, fa0 = some a → F a
 fd : FeedR (NN F fa O) H fa s.fs
 nf : ∀ a, fa = some a → a ∉ O

section
variable {fa fa' fa'' : Option Addr} {O O' O'' : List Addr} {H H' H'' : Hp}
theorem StE.stp (h : StE fa O H fa' O' H') : Stp fa O H fa' O' H' := ⟨fun b hb => .inl (h.sub b hb), h.fe, fun b u e _ n => h.same b u e n, h.mon⟩
theorem StE.refl : StE fa O H fa O H := ⟨fun _ h => h, .inl rfl, fun _ _ e _ => e, fun _ h => h⟩
theorem Stp.refl : Stp fa O H fa O H := StE.refl.stp
theorem StE.trans (a : StE fa O H fa' O' H') (b : StE fa' O' H' fa'' O'' H'') : StE fa O H fa'' O'' H'' := by
 refine ⟨fun c hc => a.sub c (b.sub c hc), ?_, fun c u e n => ?_, fun c h => a.mon c (b.mon c h)⟩
 ·rcases a.fe with e | ⟨e, h⟩
  ·rcases b.fe with e' | ⟨e', h'⟩
   ·exact .inl (e'.trans e)
   ·exact .inr ⟨e ▸ e', fun c z => a.mon c (h' c z)⟩
  ·rcases b.fe with e' | ⟨e', h'⟩
   ·exact .inr ⟨e, fun c z => h c (e' ▸ z)⟩
   ·exact .inr ⟨e, fun c z => a.mon c (h' c z)⟩
 ·refine b.same c u (a.same c u e n) fun z => ?_
  rcases a.fe with q | ⟨q, h⟩
  ·rw [q] at z; exact n z
  ·rw [h c z] at e; cases e
theorem Stp.trans (a : Stp fa O H fa' O' H') (b : Stp fa' O' H' fa'' O'' H'') : Stp fa O H fa'' O'' H'' := by
 refine ⟨fun c hc => ?_, ?_, fun c u e hc n => ?_, fun c h => a.mon c (b.mon c h)⟩
 ·rcases b.sub c hc with q | q
  ·exact a.sub c q
  ·exact .inr (a.mon c q)
 ·rcases a.fe with e | ⟨e, h⟩
  ·rcases b.fe with e' | ⟨e', h'⟩
   ·exact .inl (e'.trans e)
   ·exact .inr ⟨e ▸ e', fun c z => a.mon c (h' c z)⟩
  ·rcases b.fe with e' | ⟨e', h'⟩
   ·exact .inr ⟨e, fun c z => h c (e' ▸ z)⟩
   ·exact .inr ⟨e, fun c z => a.mon c (h' c z)⟩
 ·refine b.same c u (a.same c u e hc n) (fun z => ?_) fun z => ?_
  ·rcases a.sub c z with q | q
   ·exact hc q
   ·rw [q] at e; cases e
  ·rcases a.fe with q | ⟨q, h⟩
   ·rw [q] at z; exact n z
   ·rw [h c z] at e; cases e
theorem Stp.fa_keep (a : Stp fa O H fa' O' H') {x : Addr} (h : fa = some x) : fa' = some x := by
 rcases a.fe with e | ⟨e, _⟩
 ·rw [e, h]
 ·rw [h] at e; cases e
variable {K : PySem.W.Frag} {F : Addr → Prop} {H0 : Hp} {fa0 : Option Addr} {σ : St} {s : DS}
theorem FeedR.no_frz {N : Addr → Prop} {fs : Option FS} {a : Addr} {o : Obj} {u : HO} (h : FeedR N H fa fs) (e : fa = some a) (q : H a = some (.frz o u)) : False := by
 subst e
 cases fs with
 | none => exact h
 | some f =>
  obtain ⟨_, c, h1, _⟩ := h
  rw [h1] at q; exact b04 (Option.some.inj q)
theorem FeedR.no_tup {N : Addr → Prop} {fs : Option FS} {a : Addr} {xs : List V} (h : FeedR N H fa fs) (e : fa = some a) (z : Rd H a (.tup xs)) : False := by
 rcases z with z | ⟨o, z⟩
 ·subst e
  cases fs with
  | none => exact h
  | some f =>
   obtain ⟨_, c, h1, _⟩ := h
   rw [h1] at z; exact b00 (Option.some.inj z)
 ·exact h.no_frz e z
theorem FeedR.tracked {N : Addr → Prop} {fs : Option FS} {a : Addr} (h : FeedR N H fa fs) (e : fa = some a) : H a ≠ none := by
 subst e
 cases fs with
 | none => exact h.elim
 | some f =>
  obtain ⟨_, c, h1, _⟩ := h
  rw [h1]; simp
theorem SqT.stp' (a : Stp fa O H fa' O' H') (hf : ∀ x, fa = some x → ∀ xs, ¬ Rd H x (.tup xs)) (hO : ∀ x ∈ O, ∀ xs, ¬ Rd H x (.tup xs)) {b : Addr} {xs : List V} (h : SqT K H b xs) : SqT K H' b xs := by
 rcases h with h | h
 ·refine .inl ?_
  have n1 : b ∉ O := fun z => hO b z xs h
  have n2 : fa ≠ some b := fun z => hf b z xs h
  rcases h with h | ⟨o, h⟩
  ·exact .inl (a.same _ _ h n1 n2)
  ·exact .inr ⟨o, a.same _ _ h n1 n2⟩
 ·exact .inr h
theorem SlR.owned : ∀ {sl : List Sl} {N : Addr → Prop} {σ : List (Option V)} {O : List Addr}, SlR K N fa H sl σ O → ∀ b ∈ O, ∃ xs, H b = some (.lst xs)
 | [], N, σ, O, h, b, hb => by simp only [SlR] at h; rw [h.2] at hb; cases hb
 | .no :: r, N, σ, O, h, b, hb => by
  simp only [SlR] at h
  obtain ⟨v, τ, _, h⟩ := h
  exact SlR.owned h b hb
 | .val d :: r, N, σ, O, h, b, hb => by
  simp only [SlR] at h
  obtain ⟨v, τ, _, _, h⟩ := h
  exact SlR.owned h b hb
 | .own ds :: r, N, σ, O, h, b, hb => by
  simp only [SlR] at h
  obtain ⟨a, xs, τ, P, _, rfl, e, _, h⟩ := h
  rcases List.mem_cons.mp hb with z | z
  ·subst z; exact ⟨xs, e⟩
  ·exact SlR.owned h b z
theorem DI.owned (I : DI K F H0 fa0 σ H fa O s) {b : Addr} (hb : b ∈ O) : ∃ xs, H b = some (.lst xs) := SlR.owned I.sl b hb
theorem DI.trF (I : DI K F H0 fa0 σ H fa O s) {b : Addr} (hb : F b) : H b ≠ none := fun z => I.tr b hb (I.st.mon b z)
theorem DI.nn_tracked (I : DI K F H0 fa0 σ H fa O s) {b : Addr} (h : NN F fa O b) : H b ≠ none := by
 rcases h with h | h | h
 ·exact I.trF h
 ·obtain ⟨xs, e⟩ := I.owned h
  rw [e]; simp
 ·exact I.fd.tracked h
theorem DI.nf_step (I : DI K F H0 fa0 σ H fa O s) (h : fa' = fa ∨ (fa = none ∧ ∀ a, fa' = some a → H a = none)) : ∀ a, fa' = some a → a ∉ O := fun a e m => by
 rcases h with z | ⟨z, y⟩
 ·rw [z] at e; exact I.nf a e m
 ·obtain ⟨xs, q⟩ := I.owned m
  rw [y a e] at q; cases q
theorem DI.car (I : DI K F H0 fa0 σ H fa O s) (a : Stp fa O H fa' O' H') : Car K (NN F fa O) fa H (NN F fa' O') fa' H' := by
 have nt : ∀ x xs, H x = some (.lst xs) → ∀ ys, ¬ Rd H x (.tup ys) := fun x xs e ys z => by
  rcases z with z | ⟨o, z⟩ <;> · rw [e] at z; cases z
 refine ⟨fun b xs n q => ?_, fun b xs q => ?_, fun b xs q => ?_, fun x e => a.fa_keep e⟩
 ·have n1 : b ∉ O := fun z => n (.inr (.inl z))
  have n2 : fa ≠ some b := fun z => n (.inr (.inr z))
  have tr : H b ≠ none := by rw [q]; simp
  refine ⟨a.same _ _ q n1 n2, fun z => ?_⟩
  ·rcases z with z | z | z
   ·exact n (.inl z)
   ·rcases a.sub b z with y | y
    ·exact n1 y
    ·exact tr y
   ·rcases a.fe with e | ⟨e, h⟩
    ·rw [e] at z; exact n2 z
    ·exact tr (h b z)
 ·refine SqT.stp' a (fun x e ys z => ?_) (fun x hx ys => ?_) q
  ·exact I.fd.no_tup e z
  ·obtain ⟨xs, e⟩ := I.owned hx
   exact nt x xs e ys
 ·rcases q with ⟨o, q⟩ | q
  ·refine .inl ⟨o, a.same _ _ q (fun z => ?_) fun z => ?_⟩
   ·obtain ⟨ys, e⟩ := I.owned z
    rw [e] at q; cases q
   ·exact I.fd.no_frz z q
  ·exact .inr q
end
end DL

namespace DL
open PySem PySem.Spec L2

structure Gh where
 F : Addr → Prop
 H0 : Hp
 fa0 : Option Addr
noncomputable abbrev GI (K : PySem.W.Frag) (g : Gh) := DI K g.F g.H0 g.fa0

section
variable {K : PySem.W.Frag} {N N' : Addr → Prop} {fa fa' : Option Addr} {H H' : Hp} {g : Gh} {σ : L2.St} {O O' : List Addr} {s : DS}
theorem SlR.go (c : Car K N fa H N' fa' H') : ∀ {sl : List Sl} {σ : List (Option V)} {O : List Addr}, (∀ a xs, a ∈ O → H a = some (.lst xs) → H' a = some (.lst xs)) → SlR K N fa H sl σ O → SlR K N' fa' H' sl σ O
 | [], σ, O, _, h => by simpa only [SlR] using h
 | .no :: r, σ, O, ho, h => by
  simp only [SlR] at h ⊢
  obtain ⟨v, τ, e, h⟩ := h
  exact ⟨v, τ, e, SlR.go c ho h⟩
 | .val d :: r, σ, O, ho, h => by
  simp only [SlR] at h ⊢
  obtain ⟨u, τ, e, q, h⟩ := h
  exact ⟨u, τ, e, Rep.go c d u q, SlR.go c ho h⟩
 | .own ds :: r, σ, O, ho, h => by
  simp only [SlR] at h ⊢
  obtain ⟨a, xs, τ, P, e, rfl, ha, q, h⟩ := h
  exact ⟨a, xs, τ, P, e, rfl, ho a xs (List.mem_cons_self ..) ha, Reps.go c ds xs q, SlR.go c (fun b ys hb => ho b ys (List.mem_cons_of_mem _ hb)) h⟩
theorem SlR.val : ∀ {sl : List Sl} {σ : List (Option V)} {O : List Addr} {i : Nat} {d : D}, SlR K N fa H sl σ O → sl[i]? = some (.val d) → ∃ u, σ[i]? = some (some u) ∧ Rep K N fa H d u
 | [], σ, O, i, d, h, e => by simp at e
 | .no :: r, σ, O, i, d, h, e => by
  simp only [SlR] at h
  obtain ⟨v, τ, rfl, h⟩ := h
  cases i with
  | zero => simp at e
  | succ i => simpa using SlR.val h (by simpa using e)
 | .val d' :: r, σ, O, i, d, h, e => by
  simp only [SlR] at h
  obtain ⟨u, τ, rfl, q, h⟩ := h
  cases i with
  | zero => simp at e; subst e; exact ⟨u, rfl, q⟩
  | succ i => simpa using SlR.val h (by simpa using e)
 | .own ds :: r, σ, O, i, d, h, e => by
  simp only [SlR] at h
  obtain ⟨a, xs, τ, P, rfl, rfl, ha, q, h⟩ := h
  cases i with
  | zero => simp at e
  | succ i => simpa using SlR.val h (by simpa using e)
theorem SlR.own : ∀ {sl : List Sl} {σ : List (Option V)} {O : List Addr} {i : Nat} {ds : List D}, SlR K N fa H sl σ O → sl[i]? = some (.own ds) → ∃ a xs, σ[i]? = some (some (.ref a)) ∧ a ∈ O ∧ H a = some (.lst xs) ∧ Reps K N fa H ds xs
 | [], σ, O, i, d, h, e => by simp at e
 | .no :: r, σ, O, i, d, h, e => by
  simp only [SlR] at h
  obtain ⟨v, τ, rfl, h⟩ := h
  cases i with
  | zero => simp at e
  | succ i => simpa using SlR.own h (by simpa using e)
 | .val d' :: r, σ, O, i, d, h, e => by
  simp only [SlR] at h
  obtain ⟨u, τ, rfl, q, h⟩ := h
  cases i with
  | zero => simp at e
  | succ i => simpa using SlR.own h (by simpa using e)
 | .own ds :: r, σ, O, i, d, h, e => by
  simp only [SlR] at h
  obtain ⟨a, xs, τ, P, rfl, rfl, ha, q, h⟩ := h
  cases i with
  | zero => simp at e; subst e; exact ⟨a, xs, rfl, List.mem_cons_self .., ha, q⟩
  | succ i =>
   obtain ⟨b, ys, e1, m, e2, q2⟩ := SlR.own h (by simpa using e)
   exact ⟨b, ys, by simpa using e1, List.mem_cons_of_mem _ m, e2, q2⟩
theorem SlR.put : ∀ {sl : List Sl} {σ : List (Option V)} {O : List Addr} (i : Nat) {d : D} {u : V}, SlR K N fa H sl σ O → Rep K N fa H d u →
  ∃ P, P.Sublist O ∧ SlR K N fa H (sl.set i (.val d)) (σ.set i (some u)) P ∧ (O.Nodup → ∀ a, sl[i]?.isSome = true → (∃ ds, sl[i]? = some (.own ds)) → σ[i]? = some (some (.ref a)) → a ∉ P)
 | [], σ, O, i, d, u, h, q => by
  simp only [SlR] at h
  refine ⟨O, List.Sublist.refl _, ?_, fun _ a z => by simp at z⟩
  rw [h.1, h.2]
  simp [SlR]
 | .no :: r, σ, O, i, d, u, h, q => by
  simp only [SlR] at h
  obtain ⟨v, τ, rfl, h⟩ := h
  cases i with
  | zero => exact ⟨O, List.Sublist.refl _, by simp only [List.set_cons_zero, SlR]; exact ⟨u, τ, rfl, q, h⟩, fun _ a _ z => by obtain ⟨ds, z⟩ := z; simp at z⟩
  | succ i =>
   obtain ⟨P, hs, h1, h2⟩ := SlR.put i h q
   exact ⟨P, hs, by simp only [List.set_cons_succ, SlR]; exact ⟨v, _, rfl, h1⟩, by simpa using h2⟩
 | .val d' :: r, σ, O, i, d, u, h, q => by
  simp only [SlR] at h
  obtain ⟨v, τ, rfl, qv, h⟩ := h
  cases i with
  | zero => exact ⟨O, List.Sublist.refl _, by simp only [List.set_cons_zero, SlR]; exact ⟨u, τ, rfl, q, h⟩, fun _ a _ z => by obtain ⟨ds, z⟩ := z; simp at z⟩
  | succ i =>
   obtain ⟨P, hs, h1, h2⟩ := SlR.put i h q
   exact ⟨P, hs, by simp only [List.set_cons_succ, SlR]; exact ⟨v, _, rfl, qv, h1⟩, by simpa using h2⟩
 | .own ds :: r, σ, O, i, d, u, h, q => by
  simp only [SlR] at h
  obtain ⟨a, xs, τ, P, rfl, rfl, ha, qv, h⟩ := h
  cases i with
  | zero =>
   refine ⟨P, List.sublist_cons_self .., by simp only [List.set_cons_zero, SlR]; exact ⟨u, τ, rfl, q, h⟩, fun nd b _ _ e => ?_⟩
   simp at e; subst e
   exact (List.nodup_cons.mp nd).1
  | succ i =>
   obtain ⟨P', hs, h1, h2⟩ := SlR.put i h q
   refine ⟨a :: P', hs.cons_cons a, by simp only [List.set_cons_succ, SlR]; exact ⟨a, xs, _, P', rfl, rfl, ha, qv, h1⟩, fun nd b e1 e2 e3 => ?_⟩
   have nd' := List.nodup_cons.mp nd
   have n1 := h2 nd'.2 b (by simpa using e1) (by simpa using e2) (by simpa using e3)
   intro z
   rcases List.mem_cons.mp z with z | z
   ·subst z
    obtain ⟨dz, e2⟩ := e2
    obtain ⟨b', _, e4, m, _⟩ := SlR.own h (i := i) (by simpa using e2)
    rw [List.getElem?_cons_succ] at e3
    rw [e3] at e4
    cases e4
    exact nd'.1 m
   ·exact n1 z
theorem SlR.putN : ∀ {sl : List Sl} {σ : List (Option V)} {O : List Addr} (i : Nat) {ds : List D} {p : Addr} {xs : List V}, SlR K N fa H sl σ O → i < sl.length → p ∉ O → O.Nodup → H p = some (.lst xs) → Reps K N fa H ds xs →
  ∃ P, (∀ b ∈ P, b = p ∨ b ∈ O) ∧ P.Nodup ∧ SlR K N fa H (sl.set i (.own ds)) (σ.set i (some (.ref p))) P
 | [], σ, O, i, ds, p, xs, h, hi, hp, nd, e, q => by simp at hi
 | .no :: r, σ, O, i, ds, p, xs, h, hi, hp, nd, e, q => by
  simp only [SlR] at h
  obtain ⟨v, τ, rfl, h⟩ := h
  cases i with
  | zero => exact ⟨p :: O, fun b hb => List.mem_cons.mp hb, List.nodup_cons.mpr ⟨hp, nd⟩, by simp only [List.set_cons_zero, SlR]; exact ⟨p, xs, τ, O, rfl, rfl, e, q, h⟩⟩
  | succ i =>
   obtain ⟨P, h1, h2, h3⟩ := SlR.putN i h (by simpa using hi) hp nd e q
   exact ⟨P, h1, h2, by simp only [List.set_cons_succ, SlR]; exact ⟨v, _, rfl, h3⟩⟩
 | .val d' :: r, σ, O, i, ds, p, xs, h, hi, hp, nd, e, q => by
  simp only [SlR] at h
  obtain ⟨v, τ, rfl, qv, h⟩ := h
  cases i with
  | zero => exact ⟨p :: O, fun b hb => List.mem_cons.mp hb, List.nodup_cons.mpr ⟨hp, nd⟩, by simp only [List.set_cons_zero, SlR]; exact ⟨p, xs, τ, O, rfl, rfl, e, q, h⟩⟩
  | succ i =>
   obtain ⟨P, h1, h2, h3⟩ := SlR.putN i h (by simpa using hi) hp nd e q
   exact ⟨P, h1, h2, by simp only [List.set_cons_succ, SlR]; exact ⟨v, _, rfl, qv, h3⟩⟩
 | .own ds' :: r, σ, O, i, ds, p, xs, h, hi, hp, nd, e, q => by
  simp only [SlR] at h
  obtain ⟨a, ys, τ, P, rfl, rfl, ha, qv, h⟩ := h
  have nd' := List.nodup_cons.mp nd
  cases i with
  | zero =>
   refine ⟨p :: P, fun b hb => (List.mem_cons.mp hb).imp id fun z => List.mem_cons_of_mem _ z, List.nodup_cons.mpr ⟨fun z => hp (List.mem_cons_of_mem _ z), nd'.2⟩, ?_⟩
   simp only [List.set_cons_zero, SlR]
   exact ⟨p, xs, τ, P, rfl, rfl, e, q, h⟩
  | succ i =>
   obtain ⟨P', h1, h2, h3⟩ := SlR.putN i h (by simpa using hi) (fun z => hp (List.mem_cons_of_mem _ z)) nd'.2 e q
   refine ⟨a :: P', fun b hb => ?_, List.nodup_cons.mpr ⟨fun z => ?_, h2⟩, by simp only [List.set_cons_succ, SlR]; exact ⟨a, ys, _, P', rfl, rfl, ha, qv, h3⟩⟩
   ·rcases List.mem_cons.mp hb with z | z
    ·exact .inr (by rw [z]; exact List.mem_cons_self ..)
    ·exact (h1 b z).imp id fun y => List.mem_cons_of_mem _ y
   ·rcases h1 a z with y | y
    ·exact hp (by rw [y]; exact List.mem_cons_self ..)
    ·exact nd'.1 y
theorem SlR.rew : ∀ {sl : List Sl} {σ : List (Option V)} {O : List Addr} {i : Nat} {ds es : List D} {a : Addr} {ys : List V}, SlR K N fa H sl σ O → O.Nodup → (∀ b ∈ O, N b) → sl[i]? = some (.own ds) → σ[i]? = some (some (.ref a)) → H' a = some (.lst ys) →
  Car K N fa H N fa H' → (∀ b u, b ≠ a → H b = some u → H' b = some u) → Reps K N fa H' es ys → SlR K N fa H' (sl.set i (.own es)) σ O
 | [], σ, O, i, ds, es, a, ys, h, nd, hN, e1, e2, e3, c, k, q => by simp at e1
 | .no :: r, σ, O, i, ds, es, a, ys, h, nd, hN, e1, e2, e3, c, k, q => by
  simp only [SlR] at h
  obtain ⟨v, τ, rfl, h⟩ := h
  cases i with
  | zero => simp at e1
  | succ i => simp only [List.set_cons_succ, SlR]; exact ⟨v, τ, rfl, SlR.rew h nd hN (by simpa using e1) (by simpa using e2) e3 c k q⟩
 | .val d' :: r, σ, O, i, ds, es, a, ys, h, nd, hN, e1, e2, e3, c, k, q => by
  simp only [SlR] at h
  obtain ⟨v, τ, rfl, qv, h⟩ := h
  cases i with
  | zero => simp at e1
  | succ i => simp only [List.set_cons_succ, SlR]; exact ⟨v, τ, rfl, Rep.go c _ _ qv, SlR.rew h nd hN (by simpa using e1) (by simpa using e2) e3 c k q⟩
 | .own ds' :: r, σ, O, i, ds, es, a, ys, h, nd, hN, e1, e2, e3, c, k, q => by
  simp only [SlR] at h
  obtain ⟨b, zs, τ, P, rfl, rfl, ha, qv, h⟩ := h
  have nd' := List.nodup_cons.mp nd
  cases i with
  | zero =>
   simp at e2
   subst e2
   simp only [List.set_cons_zero, SlR]
   exact ⟨b, ys, τ, P, rfl, rfl, e3, q, SlR.go c (fun x xs hx z => k x _ (fun y => nd'.1 (y ▸ hx)) z) h⟩
  | succ i =>
   have nb : b ≠ a := fun z => by
    obtain ⟨a', _, e4, m, _⟩ := SlR.own h (i := i) (by simpa using e1)
    rw [List.getElem?_cons_succ] at e2
    rw [e2] at e4
    cases e4
    exact nd'.1 (z ▸ m)
   simp only [List.set_cons_succ, SlR]
   exact ⟨b, zs, τ, P, rfl, rfl, k b _ nb ha, Reps.go c _ _ qv, SlR.rew h nd'.2 (fun x hx => hN x (List.mem_cons_of_mem _ hx)) (by simpa using e1) (by simpa using e2) e3 c k q⟩

theorem RepB.stp {d : D} {v : V} (I : GI K g σ H fa O s) (a : StE fa O H fa' O' H') (h : RepB K (NN g.F fa O) fa H d v) : RepB K (NN g.F fa' O') fa' H' d v := by
 have c := I.car a.stp
 cases d with
 | lst ds =>
  obtain ⟨x, xs, e, nf, q, r⟩ := h
  refine ⟨x, xs, e, fun z => ?_, a.same _ _ q nf, Reps.go c ds xs r⟩
  rcases a.fe with y | ⟨_, y⟩
  ·rw [y] at z; exact nf z
  ·rw [y x z] at q; cases q
 | _ =>
  simp only [RepB] at h ⊢
  exact Rep.go c _ _ h
theorem Rep.stp {d : D} {v : V} (I : GI K g σ H fa O s) (a : Stp fa O H fa' O' H') (h : Rep K (NN g.F fa O) fa H d v) : Rep K (NN g.F fa' O') fa' H' d v := Rep.go (I.car a) d v h
theorem Reps.stp {ds : List D} {xs : List V} (I : GI K g σ H fa O s) (a : Stp fa O H fa' O' H') (h : Reps K (NN g.F fa O) fa H ds xs) : Reps K (NN g.F fa' O') fa' H' ds xs := Reps.go (I.car a) ds xs h

theorem E9 {p : Addr} {o : HO} (h : H p = none) : StE fa O H fa O (upd H p o) :=
 ⟨fun _ h => h, .inl rfl, fun b u e _ => by rw [u5 (K4 e h)]; exact e, fun b z => by
  by_cases hb : b = p
  ·subst hb; exact h
  ·rw [u5 hb] at z; exact z⟩
theorem FeedR.car {fs : Option FS} (c : Car K N fa H N' fa H') (h : ∀ a, fa = some a → H' a = H a) (f : FeedR N H fa fs) : FeedR N' H' fa fs := by
 cases fa with
 | none => cases fs <;> simpa only [FeedR] using f
 | some a =>
  cases fs with
  | none => simpa only [FeedR] using f
  | some x =>
   simp only [FeedR] at f ⊢
   obtain ⟨l, b, h1, h2, h3⟩ := f
   obtain ⟨q, n⟩ := c.ls b _ h2 h3
   exact ⟨l, b, by rw [h a rfl]; exact h1, n, q⟩
theorem FeedR.same_new {fs : Option FS} {p : Addr} {o : HO} (f : FeedR N H fa fs) (h : H p = none) : ∀ a, fa = some a → upd H p o a = H a := fun a e => u5 fun z => f.tracked e (z ▸ h)
theorem DI.new {p : Addr} {o : HO} (I : GI K g σ H fa O s) (h : H p = none) : GI K g σ (upd H p o) fa O s := by
 have a : StE fa O H fa O (upd H p o) := E9 h
 refine ⟨I.nd, SlR.go (I.car a.stp) (fun b xs hb e => ?_) I.sl, I.fr, I.st.trans ((E9 (O := []) h).stp), I.tr, I.ff, I.fd.car (I.car a.stp) (I.fd.same_new h), I.nf⟩
 rw [u5 (K4 e h)]; exact e
end

noncomputable abbrev DE := DS → Option (D × DS)
noncomputable abbrev DT := DS → Option (Bool × DS)
noncomputable abbrev DA := DS → Option (List D × DS)
inductive Fl where
 | next | brk | cont | ret (d : D)
noncomputable abbrev DM := DS → Option (Fl × DS)

structure NewL (K : PySem.W.Frag) (g : Gh) (σ : L2.St) (H : Hp) (fa : Option Addr) (O : List Addr) (s : DS) (p : Addr) (xs : List V) (ds : List D) : Prop where
 gi : GI K g σ H fa O s
 ls : H p = some (.lst xs)
 sl : SlR K (fun b => NN g.F fa O b ∨ b = p) fa H s.sl σ O
 fd : FeedR (fun b => NN g.F fa O b ∨ b = p) H fa s.fs
 rs : Reps K (fun b => NN g.F fa O b ∨ b = p) fa H ds xs
 nf : fa ≠ some p
section
variable (K : PySem.W.Frag) (g : Gh)
noncomputable def L3 (f : DE) : TE := fun σ H Q => ∃ fa O s d s', GI K g σ H fa O s ∧ f s = some (d, s') ∧
 ∀ v H' fa' O', StE fa O H fa' O' H' → GI K g σ H' fa' O' s' → Rep K (NN g.F fa' O') fa' H' d v → Q v H'
noncomputable def a1Y (f : DE) : TE := fun σ H Q => ∃ fa O s d s', GI K g σ H fa O s ∧ f s = some (d, s') ∧
 ∀ v H' fa' O', StE fa O H fa' O' H' → GI K g σ H' fa' O' s' → RepB K (NN g.F fa' O') fa' H' d v → Q v H'
noncomputable def a0e (f : DA) : TE := fun σ H Q => ∃ fa O s ds s', GI K g σ H fa O s ∧ f s = some (ds, s') ∧
 ∀ p xs H' fa' O', StE fa O H fa' O' H' → NewL K g σ H' fa' O' s' p xs ds → H p = none → Q (.ref p) H'
noncomputable def M9 (f : DT) : TT := fun σ H Q => ∃ fa O s d s', GI K g σ H fa O s ∧ f s = some (d, s') ∧
 ∀ H' fa' O', StE fa O H fa' O' H' → GI K g σ H' fa' O' s' → Q d H'
noncomputable def a4h (f : DA) : TA := fun σ H Q => ∃ fa O s ds s', GI K g σ H fa O s ∧ f s = some (ds, s') ∧
 ∀ vs H' fa' O', StE fa O H fa' O' H' → GI K g σ H' fa' O' s' → Reps K (NN g.F fa' O') fa' H' ds vs → Q vs H'
noncomputable def a1K (f : DA) : TA := fun σ H Q => ∃ fa O s ds s', GI K g σ H fa O s ∧ f s = some (ds, s') ∧
 ∀ vs H' fa' O', StE fa O H fa' O' H' → GI K g σ H' fa' O' s' → R5 K (NN g.F fa' O') fa' H' ds vs → Q vs H'
noncomputable def FlK (E : Ends) (fa : Option Addr) (O : List Addr) (H : Hp) (fl : Fl) (s' : DS) : Prop :=
 match fl with
 | .next => ∀ σ' H' fa' O', Stp fa O H fa' O' H' → GI K g σ' H' fa' O' s' → E.nx σ' H'
 | .brk => ∀ σ' H' fa' O', Stp fa O H fa' O' H' → GI K g σ' H' fa' O' s' → E.bk σ' H'
 | .cont => ∀ σ' H' fa' O', Stp fa O H fa' O' H' → GI K g σ' H' fa' O' s' → E.ct σ' H'
 | .ret d => ∀ σ' v H' fa' O', Stp fa O H fa' O' H' → GI K g σ' H' fa' O' s' → Rep K (NN g.F fa' O') fa' H' d v → E.rt v H'
noncomputable def Z5 (f : DM) : TS := fun E σ H => ∃ fa O s fl s', GI K g σ H fa O s ∧ f s = some (fl, s') ∧ FlK K g E fa O H fl s'
end
structure EO (X : Cx) (g : Gh) (e : Expr) (f : DE) : Prop where
 pe : PE X e (L3 X.K g f)
structure BO (X : Cx) (g : Gh) (e : Expr) (f : DE) : Prop where
 pe : PE X e (a1Y X.K g f)
structure FO (X : Cx) (g : Gh) (e : Expr) (f : DA) : Prop where
 pe : PE X e (a0e X.K g f)
structure TO (X : Cx) (g : Gh) (e : Expr) (f : DT) : Prop where
 pe : PT X e (M9 X.K g f)
structure WO (X : Cx) (g : Gh) (e : Expr) (f : DT) : Prop where
 pe : PW X e (M9 X.K g f)
structure AO (X : Cx) (g : Gh) (es : List Expr) (f : DA) : Prop where
 pe : PA X es (a4h X.K g f)
structure BAO (X : Cx) (g : Gh) (es : List Expr) (f : DA) : Prop where
 pe : PA X es (a1K X.K g f)
structure SO (X : Cx) (g : Gh) (st : Stmt) (f : DM) : Prop where
 pe : PS X st (Z5 X.K g f)
structure SSO (X : Cx) (g : Gh) (st : List Stmt) (f : DM) : Prop where
 pe : PSs X st (Z5 X.K g f)

section
variable {X : Cx} {g : Gh} {e : Expr} {f : DE}
theorem PEw {t t' : TE} (h : PE X e t) (w : ∀ σ H Q, t' σ H Q → t σ H Q) : PE X e t' := fun pins s σ H Q I q => h pins s σ H Q I (w σ H Q q)
theorem PTw {t t' : TT} (h : PT X e t) (w : ∀ σ H Q, t' σ H Q → t σ H Q) : PT X e t' := fun pins s σ H Q I q => h pins s σ H Q I (w σ H Q q)
theorem PWw {t t' : TT} (h : PW X e t) (w : ∀ σ H Q, t' σ H Q → t σ H Q) : PW X e t' := fun wh pins s σ H Q I q => h wh pins s σ H Q I (w σ H Q q)
theorem PAw {es : List Expr} {t t' : TA} (h : PA X es t) (w : ∀ σ H Q, t' σ H Q → t σ H Q) : PA X es t' := fun pos pins s σ H Q I q => h pos pins s σ H Q I (w σ H Q q)
theorem PSw {st : Stmt} {t t' : TS} (h : PS X st t) (w : ∀ E σ H, t' E σ H → t E σ H) : PS X st t' := fun pins s σ H E I q => h pins s σ H E I (w E σ H q)
theorem b3z {st : List Stmt} {t t' : TS} (h : PSs X st t) (w : ∀ E σ H, t' E σ H → t E σ H) : PSs X st t' := fun pins s σ H E I q => h pins s σ H E I (w E σ H q)
theorem EO.w {f : DE} {t : TE} (h : PE X e t) (w : ∀ σ H Q, L3 X.K g f σ H Q → t σ H Q) : EO X g e f := ⟨PEw h w⟩
theorem BO.w {f : DE} {t : TE} (h : PE X e t) (w : ∀ σ H Q, a1Y X.K g f σ H Q → t σ H Q) : BO X g e f := ⟨PEw h w⟩
theorem FO.w {f : DA} {t : TE} (h : PE X e t) (w : ∀ σ H Q, a0e X.K g f σ H Q → t σ H Q) : FO X g e f := ⟨PEw h w⟩
theorem TO.w {f : DT} {t : TT} (h : PT X e t) (w : ∀ σ H Q, M9 X.K g f σ H Q → t σ H Q) : TO X g e f := ⟨PTw h w⟩
theorem WO.w {f : DT} {t : TT} (h : PW X e t) (w : ∀ σ H Q, M9 X.K g f σ H Q → t σ H Q) : WO X g e f := ⟨PWw h w⟩
theorem AO.w {es : List Expr} {f : DA} {t : TA} (h : PA X es t) (w : ∀ σ H Q, a4h X.K g f σ H Q → t σ H Q) : AO X g es f := ⟨PAw h w⟩
theorem BAO.w {es : List Expr} {f : DA} {t : TA} (h : PA X es t) (w : ∀ σ H Q, a1K X.K g f σ H Q → t σ H Q) : BAO X g es f := ⟨PAw h w⟩
theorem SO.w {st : Stmt} {f : DM} {t : TS} (h : PS X st t) (w : ∀ E σ H, Z5 X.K g f E σ H → t E σ H) : SO X g st f := ⟨PSw h w⟩
theorem SSO.w {st : List Stmt} {f : DM} {t : TS} (h : PSs X st t) (w : ∀ E σ H, Z5 X.K g f E σ H → t E σ H) : SSO X g st f := ⟨b3z h w⟩
theorem EO.b (h : EO X g e f) : BO X g e f := BO.w h.pe fun σ H Q ⟨fa, O, s, d, s', I, e, k⟩ => ⟨fa, O, s, d, s', I, e, fun v H' fa' O' a I' r => k v H' fa' O' a I' (r.b fun _ z => .inr (.inr z))⟩
noncomputable def l0 (f : DA) : DE := fun s => (f s).map fun p => (.lst p.1, p.2)
theorem a2o {K : PySem.W.Frag} {σ : L2.St} {H H' : Hp} {fa fa' : Option Addr} {O O' : List Addr} {s s' : DS} {p : Addr} (I : GI K g σ H fa O s) (a : StE fa O H fa' O' H') (I' : GI K g σ H' fa' O' s') (e : H p = none) (e' : fa' ≠ some p) : ¬ NN g.F fa' O' p := by
 rintro (z | z | z)
 ·exact I.trF z e
 ·obtain ⟨ys, q⟩ := I.owned (a.sub p z)
  rw [e] at q; cases q
 ·exact e' z
theorem FO.v {f : DA} (h : FO X g e f) : EO X g e (l0 f) := EO.w h.pe fun σ H Q hQ__ => by
 obtain ⟨fa, O, s, d, s', I, e, k⟩ := hQ__
 simp only [l0] at e
 cases q : f s with
 | none => rw [q] at e; cases e
 | some p =>
  obtain ⟨ds, s1⟩ := p
  rw [q] at e
  simp only [Option.map_some, Option.some.injEq, Prod.mk.injEq] at e
  obtain ⟨e1, e2⟩ := e
  subst e1; subst e2
  refine ⟨fa, O, s, ds, s1, I, q, fun p xs H' fa' O' a L e1 => k _ H' fa' O' a L.gi ?_⟩
  simp only [Rep]
  exact ⟨p, xs, rfl, a2o I a L.gi e1 L.nf, L.ls, Reps.go ⟨fun b ys n q => ⟨q, fun z => n (.inl z)⟩, fun _ _ q => q, fun _ _ q => q, fun _ q => q⟩ ds xs L.rs⟩
end
end DL

namespace DL
open PySem PySem.Spec L2

theorem a2e {g : Gh} {K : PySem.W.Frag} {σ : L2.St} {H : Hp} {fa : Option Addr} {O : List Addr} {s : DS} {p : Addr} {o : HO} (I : GI K g σ H fa O s) (hp : H p = none) : Car K (NN g.F fa O) fa H (fun b => NN g.F fa O b ∨ b = p) fa (upd H p o) := by
 have c := I.car (E9 (fa := fa) (O := O) (o := o) hp).stp
 refine ⟨fun b xs n q => ?_, c.tp, c.fz, c.fe⟩
 obtain ⟨q', n'⟩ := c.ls b xs n q
 refine ⟨q', ?_⟩
 rintro (z | z)
 ·exact n' z
 ·subst z
  rw [hp] at q; cases q
theorem a08 {g : Gh} {K : PySem.W.Frag} {σ : L2.St} {H : Hp} {fa : Option Addr} {O : List Addr} {s : DS} {p : Addr} {ds : List D} {xs : List V} (I : GI K g σ H fa O s) (hp : H p = none) (r : Reps K (NN g.F fa O) fa H ds xs) : NewL K g σ (upd H p (.lst xs)) fa O s p xs ds :=
 ⟨I.new hp, B8, SlR.go (a2e I hp) (fun b ys _ e => by rw [u5 (K4 e hp)]; exact e) I.sl, I.fd.car (a2e I hp) (I.fd.same_new hp), Reps.go (a2e I hp) ds xs r, fun z => I.fd.tracked z hp⟩

noncomputable def dC (d : D) : DE := fun s => some (d, s)
noncomputable def dV (i : Nat) : DE := fun s => match s.sl[i]? with
 | some (.val d) => some (d, s)
 | some (.own ds) => some (.lst ds, { s with sl := s.sl.set i (.val (.lst ds)) })
 | _ => none
noncomputable def dL (i : Nat) : DE := fun s => match s.sl[i]? with
 | some (.val d) => some (d, s)
 | some (.own ds) => some (.lst ds, s)
 | _ => none
section
variable {X : Cx} {g : Gh}
theorem d6 {i : Nat} {x : Str} {pos : Pos} (h : PE X (.Name x pos) (R4 i)) : BO X g (.Name x pos) (dL i) := BO.w h fun σ H Q hQ__ => by
 obtain ⟨fa, O, s, d, s', I, e, k⟩ := hQ__
 simp only [dL] at e
 cases q : s.sl[i]? with
 | none => rw [q] at e; cases e
 | some z =>
  rw [q] at e
  cases z with
  | no => cases e
  | val d' =>
   cases e
   obtain ⟨u, e1, r⟩ := SlR.val I.sl q
   exact ⟨u, e1, k u H fa O StE.refl I (r.b fun _ z => .inr (.inr z))⟩
  | own ds =>
   cases e
   obtain ⟨a, xs, e1, m, e2, r⟩ := SlR.own I.sl q
   exact ⟨_, e1, k _ H fa O StE.refl I ⟨a, xs, rfl, fun z => I.nf a z m, e2, r⟩⟩
theorem i0 {i : Nat} {x : Str} {pos : Pos} (h : PE X (.Name x pos) (R4 i)) : EO X g (.Name x pos) (dV i) := EO.w h fun σ H Q hQ__ => by
 obtain ⟨fa, O, s, d, s', I, e, k⟩ := hQ__
 simp only [dV] at e
 cases q : s.sl[i]? with
 | none => rw [q] at e; cases e
 | some z =>
  rw [q] at e
  cases z with
  | no => cases e
  | val d' =>
   cases e
   obtain ⟨u, e1, r⟩ := SlR.val I.sl q
   exact ⟨u, e1, k u H fa O StE.refl I r⟩
  | own ds =>
   cases e
   obtain ⟨a, xs, e1, m, e2, r⟩ := SlR.own I.sl q
   have i' : i < s.sl.length := (List.getElem?_eq_some_iff.mp q).1
   let N1 : Addr → Prop := fun b => NN g.F fa O b ∧ b ≠ a
   have c1 : Car X.K (NN g.F fa O) fa H N1 fa H := ⟨fun b ys n z => ⟨z, fun y => n y.1⟩, fun _ _ z => z, fun _ _ z => z, fun _ z => z⟩
   have S1 := SlR.go c1 (fun _ _ _ z => z) I.sl
   have R1 : Rep X.K N1 fa H (.lst ds) (.ref a) := by
    simp only [Rep]
    exact ⟨a, xs, rfl, fun z => z.2 rfl, e2, Reps.go c1 ds xs r⟩
   obtain ⟨P, hs, S2, hn⟩ := SlR.put i S1 R1
   have na : a ∉ P := hn I.nd a (by rw [q]; rfl) ⟨ds, q⟩ e1
   have eσ : σ.set i (some (V.ref a)) = σ := by
    apply List.ext_getElem?
    intro j
    by_cases hj : j = i
    ·subst hj
     rw [e1, List.getElem?_set_self (List.getElem?_eq_some_iff.mp e1).1]
    ·rw [List.getElem?_set_ne (Ne.symm hj)]
   rw [eσ] at S2
   have sub : ∀ b ∈ P, b ∈ O := fun b hb => hs.subset hb
   have a1 : StE fa O H fa P H := ⟨sub, .inl rfl, fun _ _ z _ => z, fun _ z => z⟩
   have c2 : Car X.K N1 fa H (NN g.F fa P) fa H := ⟨fun b ys n z => ⟨z, fun y => n ⟨by
     rcases y with y | y | y
     ·exact .inl y
     ·exact .inr (.inl (sub b y))
     ·exact .inr (.inr y), fun w => by
     subst w
     rcases y with y | y | y
     ·exact I.tr b y (I.fr b m)
     ·exact na y
     ·exact I.nf b y m⟩⟩, fun _ _ z => z, fun _ _ z => z, fun _ z => z⟩
   refine ⟨_, e1, k _ H fa P a1 ⟨hs.nodup I.nd, SlR.go c2 (fun _ _ _ z => z) S2, fun b hb => I.fr b (sub b hb), I.st, I.tr, I.ff, (I.fd.car c1 fun _ _ => rfl).car c2 fun _ _ => rfl, fun b z y => I.nf b z (sub b y)⟩ (Rep.go c2 _ _ R1)⟩
theorem a4p {e : Expr} {v : V} {d : D} (h : PE X e (tC v)) (r : ∀ K N fa H, Rep K N fa H d v) : EO X g e (dC d) := EO.w h fun σ H Q hQ__ => by
 obtain ⟨fa, O, s, d', s', I, q, k⟩ := hQ__
 simp only [dC, Option.some.injEq, Prod.mk.injEq] at q
 obtain ⟨q1, q2⟩ := q
 subst q1; subst q2
 exact k v H fa O StE.refl I (r _ _ _ _)
theorem d0 {i j pos} : EO X g (.Constant (.int i) j pos) (dC (.int i)) := a4p a0Y fun _ _ _ _ => by simp only [Rep]
theorem G7 {i j pos} : EO X g (.Constant (.bool i) j pos) (dC (.bl i)) := a4p a96 fun _ _ _ _ => by simp only [Rep]
theorem Y5 {j pos} : EO X g (.Constant .none j pos) (dC .non) := a4p b0n fun _ _ _ _ => by simp only [Rep]
end

noncomputable def R2D (K : PySem.W.Frag) (r : R2) (p : D → D → Option D) : Prop :=
 ∀ (g : Gh) (σ : L2.St) (H : Hp) (fa : Option Addr) (O : List Addr) (s : DS) (x y : V) (d1 d2 d : D) (Q : VK), GI K g σ H fa O s → RepB K (NN g.F fa O) fa H d1 x → RepB K (NN g.F fa O) fa H d2 y → p d1 d2 = some d →
  (∀ v H', StE fa O H fa O H' → GI K g σ H' fa O s → Rep K (NN g.F fa O) fa H' d v → Q v H') → r x y H Q
noncomputable def R1D (K : PySem.W.Frag) (r : V → Hp → VK → Prop) (p : D → Option D) : Prop :=
 ∀ (g : Gh) (σ : L2.St) (H : Hp) (fa : Option Addr) (O : List Addr) (s : DS) (x : V) (d1 d : D) (Q : VK), GI K g σ H fa O s → RepB K (NN g.F fa O) fa H d1 x → p d1 = some d →
  (∀ v H', StE fa O H fa O H' → GI K g σ H' fa O s → Rep K (NN g.F fa O) fa H' d v → Q v H') → r x H Q
noncomputable def RCD (K : PySem.W.Frag) (r : List V → Hp → VK → Prop) (p : List D → Option D) : Prop :=
 ∀ (g : Gh) (σ : L2.St) (H : Hp) (fa : Option Addr) (O : List Addr) (s : DS) (xs : List V) (ds : List D) (d : D) (Q : VK), GI K g σ H fa O s → R5 K (NN g.F fa O) fa H ds xs → p ds = some d →
  (∀ v H', StE fa O H fa O H' → GI K g σ H' fa O s → Rep K (NN g.F fa O) fa H' d v → Q v H') → r xs H Q
noncomputable def RCF (K : PySem.W.Frag) (r : List V → Hp → VK → Prop) (p : List D → Option (List D)) : Prop :=
 ∀ (g : Gh) (σ : L2.St) (H : Hp) (fa : Option Addr) (O : List Addr) (s : DS) (xs : List V) (ds es : List D) (Q : VK), GI K g σ H fa O s → R5 K (NN g.F fa O) fa H ds xs → p ds = some es →
  (∀ q ys H', StE fa O H fa O H' → NewL K g σ H' fa O s q ys es → H q = none → Q (.ref q) H') → r xs H Q

noncomputable def dOp (p : D → D → Option D) (a b : DE) : DE := fun s => (a s).bind fun x => (b x.2).bind fun y => (p x.1 y.1).map fun d => (d, y.2)
noncomputable def dUn (p : D → Option D) (a : DE) : DE := fun s => (a s).bind fun x => (p x.1).map fun d => (d, x.2)
theorem a93 {α : Type} {p : D → D → Option α} {a b : DE} {s s' : DS} {d : α} (h : ((a s).bind fun x => (b x.2).bind fun y => (p x.1 y.1).map fun d => (d, y.2)) = some (d, s')) : ∃ x s1 y, a s = some (x, s1) ∧ b s1 = some (y, s') ∧ p x y = some d := by
 obtain ⟨⟨x, s1⟩, h1, h⟩ := Option.bind_eq_some_iff.mp h
 obtain ⟨⟨y, s2⟩, h2, h⟩ := Option.bind_eq_some_iff.mp h
 obtain ⟨d', h3, h⟩ := Option.map_eq_some_iff.mp h
 simp only [Prod.mk.injEq] at h
 obtain ⟨e1, e2⟩ := h
 subst e1; subst e2
 exact ⟨x, s1, y, h1, h2, h3⟩
section
variable {X : Cx} {g : Gh} {a b : Expr} {fa fb : DE} {pos : Pos} {r : R2} {p : D → D → Option D}
theorem a1l {r : R2} {p : D → D → Option D} (hr : R2D X.K r p) (σ : L2.St) (H : Hp) (Q : VK) (h : L3 X.K g (dOp p fa fb) σ H Q) : tOp r (a1Y X.K g fa) (a1Y X.K g fb) σ H Q := by
 obtain ⟨f0, O, s, d, s', I, e, k⟩ := h
 obtain ⟨x, s1, y, h1, h2, h3⟩ := a93 e
 refine ⟨f0, O, s, x, s1, I, h1, fun v H1 f1 O1 a1 I1 r1 => ⟨f1, O1, s1, y, s', I1, h2, fun u H2 f2 O2 a2 I2 r2 => ?_⟩⟩
 exact hr g σ H2 f2 O2 s' v u x y d Q I2 (RepB.stp I1 a2 r1) r2 h3 fun z H3 a3 I3 r3 => k z H3 f2 O2 (a1.trans (a2.trans a3)) I3 r3
theorem j3 {op : Operator} (ho : OpR X (binaryOp op) r) (hr : R2D X.K r p) (ha : BO X g a fa) (hb : BO X g b fb) : EO X g (.BinOp a op b pos) (dOp p fa fb) := EO.w (b3D ho ha.pe hb.pe) (a1l hr)
theorem L5 {op : CmpOp} (ho : OpR X (compareOp op) r) (hr : R2D X.K r p) (ha : BO X g a fa) (hb : BO X g b fb) (hm : behindInMarks op b = false) : EO X g (.Compare a [op] [b] pos) (dOp p fa fb) := EO.w (b1i ho ha.pe hb.pe hm) (a1l hr)
theorem i6 {r : R2} (ho : IxR X r) (hr : R2D X.K r p) (ha : BO X g a fa) (hb : BO X g b fb) (hs : a59 b) : EO X g (.Subscript a b pos) (dOp p fa fb) := EO.w (a7I ho ha.pe hb.pe hs) (a1l hr)
theorem P7 {op : UnaryOp} {r : V → Hp → VK → Prop} {p : D → Option D} (ho : UnR X (unaryOp op) r) (hr : R1D X.K r p) (ha : BO X g a fa) : EO X g (.UnaryOp op a pos) (dUn p fa) := EO.w (b2F ho ha.pe) fun σ H Q hQ__ => by
 obtain ⟨f0, O, s, d, s', I, e, k⟩ := hQ__
 obtain ⟨⟨x, s1⟩, h1, h⟩ := Option.bind_eq_some_iff.mp e
 obtain ⟨d', h3, h⟩ := Option.map_eq_some_iff.mp h
 simp only [Prod.mk.injEq] at h
 obtain ⟨e1, e2⟩ := h
 subst e1; subst e2
 exact ⟨f0, O, s, x, s1, I, h1, fun v H1 f1 O1 a1 I1 r1 => hr g σ H1 f1 O1 s1 v x d' Q I1 r1 h3 fun z H3 a3 I3 r3 => k z H3 f1 O1 (a1.trans a3) I3 r3⟩
noncomputable def dB (f : DE) : DT := fun s => (f s).bind fun x => match x.1 with | .bl b => some (b, x.2) | _ => none
theorem a4G {f : DE} {s s' : DS} {b : Bool} (h : dB f s = some (b, s')) : f s = some (.bl b, s') := by
 obtain ⟨⟨x, s1⟩, h1, h⟩ := Option.bind_eq_some_iff.mp h
 cases x with
 | bl c => simp only [Option.some.injEq, Prod.mk.injEq] at h; rw [h1, h.1, h.2]
 | _ => cases h
theorem w8 {op : CmpOp} (ho : OpR X (compareOp op) r) (hr : R2D X.K r p) (ha : BO X g a fa) (hb : BO X g b fb) (hm : behindInMarks op b = false) : TO X g (.Compare a [op] [b] pos) (dB (dOp p fa fb)) :=
 TO.w (a9E ho ha.pe hb.pe hm) fun σ H Q ⟨f0, O, s, d, s', I, e, k⟩ => a1l hr σ H _ ⟨f0, O, s, .bl d, s', I, a4G e, fun v H' f1 O1 a I1 r => by
  simp only [Rep] at r
  exact ⟨d, r, k H' f1 O1 a I1⟩⟩
noncomputable def u0 : D → Option Bool
 | .non => some false
 | .bl b => some b
 | .int i => some (i != 0)
 | .str x => some ((x.length : Int) != 0)
 | .tup ds => some (!ds.isEmpty)
 | .lst ds => some (!ds.isEmpty)
 | _ => none
noncomputable def dTr (f : DE) : DT := fun s => (f s).bind fun x => (u0 x.1).map fun b => (b, x.2)
theorem a6A {α β : Type} {xs : List α} {ys : List β} (h : xs.length = ys.length) : xs.isEmpty = ys.isEmpty := by cases xs <;> cases ys <;> simp_all
theorem K7 {e : Expr} {f : DE} (h : BO X g e f) (he : ∀ whole, isTrue e X.env whole = (do let v ← whole; standAt e.pos; holding [v] (truthy v)) := by intro _; rfl) : TO X g e (dTr f) :=
 TO.w (b2c h.pe he) fun σ H Q hQ__ => by
  obtain ⟨f0, O, s, d, s', I, e, k⟩ := hQ__
  obtain ⟨⟨x, s1⟩, h1, h.pe⟩ := Option.bind_eq_some_iff.mp e
  obtain ⟨d', h3, h.pe⟩ := Option.map_eq_some_iff.mp h.pe
  simp only [Prod.mk.injEq] at h.pe
  obtain ⟨e1, e2⟩ := h.pe
  subst e1; subst e2
  refine ⟨f0, O, s, x, s1, I, h1, fun v H' f1 O1 a I1 r => ⟨d', ?_, k H' f1 O1 a I1⟩⟩
  cases x with
  | non => simp only [RepB, Rep] at r; subst r; cases h3; rfl
  | bl b => simp only [RepB, Rep] at r; subst r; cases h3; rfl
  | int i => simp only [RepB, Rep] at r; subst r; cases h3; rfl
  | str x => simp only [RepB, Rep] at r; obtain ⟨r, l⟩ := r; subst r; cases h3; exact ⟨l, rfl⟩
  | tup ds =>
   simp only [RepB, Rep] at r
   obtain ⟨c, xs, r, q, w⟩ := r
   subst r; cases h3
   exact .inr (.inl ⟨xs, q, by rw [a6A w.length]⟩)
  | lst ds =>
   obtain ⟨c, xs, r, _, q, w⟩ := r
   subst r; cases h3
   exact .inl ⟨xs, SqL.of q, by rw [a6A w.length]⟩
  | feed => cases h3
  | scr _ => cases h3
noncomputable def o7 (a b : DT) : DT := fun s => (a s).bind fun x => if x.1 = true then b x.2 else some (false, x.2)
noncomputable def dOr (a b : DT) : DT := fun s => (a s).bind fun x => if x.1 = true then some (true, x.2) else b x.2
noncomputable def o9 (a : DT) : DT := fun s => (a s).map fun x => (!x.1, x.2)
noncomputable def t0 (a b : DE) : DE := fun s => (dB a s).bind fun x => if x.1 = true then b x.2 else some (.bl false, x.2)
noncomputable def u4 (a b : DE) : DE := fun s => (dB a s).bind fun x => if x.1 = true then some (.bl true, x.2) else b x.2
noncomputable def t9 (a : DE) : DE := fun s => (dB a s).map fun x => (.bl (!x.1), x.2)
variable {ta tb : DT} {rest : List Expr}
theorem a3H (h : TO X g a ta) : WO X g (.BoolOp .And [a] pos) ta := ⟨b0S h.pe⟩
theorem T5 (h : TO X g a ta) : WO X g (.BoolOp .Or [a] pos) ta := ⟨a92 h.pe⟩
theorem a3W (ha : TO X g a ta) (hb : WO X g (.BoolOp .And (b :: rest) pos) tb) : WO X g (.BoolOp .And (a :: b :: rest) pos) (o7 ta tb) := WO.w (b2d ha.pe hb.pe) fun σ H Q hQ__ => by
 obtain ⟨f0, O, s, d, s', I, e, k⟩ := hQ__
 obtain ⟨⟨x, s1⟩, h1, h⟩ := Option.bind_eq_some_iff.mp e
 refine ⟨f0, O, s, x, s1, I, h1, fun H1 f1 O1 a1 I1 => ?_⟩
 cases x with
 | true => rw [if_pos rfl] at h ⊢; exact ⟨f1, O1, s1, d, s', I1, h, fun H2 f2 O2 a2 I2 => k H2 f2 O2 (a1.trans a2) I2⟩
 | false =>
  rw [if_neg Bool.false_ne_true] at h ⊢
  simp only [Option.some.injEq, Prod.mk.injEq] at h
  obtain ⟨e1, e2⟩ := h
  subst e1; subst e2
  exact k H1 f1 O1 a1 I1
theorem P6 (ha : TO X g a ta) (hb : WO X g (.BoolOp .Or (b :: rest) pos) tb) : WO X g (.BoolOp .Or (a :: b :: rest) pos) (dOr ta tb) := WO.w (b0F ha.pe hb.pe) fun σ H Q hQ__ => by
 obtain ⟨f0, O, s, d, s', I, e, k⟩ := hQ__
 obtain ⟨⟨x, s1⟩, h1, h⟩ := Option.bind_eq_some_iff.mp e
 refine ⟨f0, O, s, x, s1, I, h1, fun H1 f1 O1 a1 I1 => ?_⟩
 cases x with
 | false => rw [if_neg Bool.false_ne_true] at h ⊢; exact ⟨f1, O1, s1, d, s', I1, h, fun H2 f2 O2 a2 I2 => k H2 f2 O2 (a1.trans a2) I2⟩
 | true =>
  rw [if_pos rfl] at h ⊢
  simp only [Option.some.injEq, Prod.mk.injEq] at h
  obtain ⟨e1, e2⟩ := h
  subst e1; subst e2
  exact k H1 f1 O1 a1 I1
theorem WO.t {e : Expr} {f : DT} (h : WO X g e f) : TO X g e f := ⟨h.pe.pt⟩
theorem X9 (ha : TO X g a ta) : TO X g (.UnaryOp .Not a pos) (o9 ta) := TO.w (b0s ha.pe) fun σ H Q hQ__ => by
 obtain ⟨f0, O, s, d, s', I, e, k⟩ := hQ__
 obtain ⟨⟨x, s1⟩, h1, h⟩ := Option.map_eq_some_iff.mp e
 simp only [Prod.mk.injEq] at h
 obtain ⟨e1, e2⟩ := h
 subst e1; subst e2
 exact ⟨f0, O, s, x, s1, I, h1, fun H1 f1 O1 a1 I1 => k H1 f1 O1 a1 I1⟩
theorem a0N {op} {f : DE} (h : EO X g a f) : EO X g (.BoolOp op [a] pos) f := ⟨b2S h.pe⟩
theorem X2 (ha : EO X g a fa) (hb : EO X g (.BoolOp .And (b :: rest) pos) fb) : EO X g (.BoolOp .And (a :: b :: rest) pos) (t0 fa fb) := EO.w (b3Y ha.pe hb.pe) fun σ H Q hQ__ => by
 obtain ⟨f0, O, s, d, s', I, e, k⟩ := hQ__
 obtain ⟨⟨x, s1⟩, h1, h⟩ := Option.bind_eq_some_iff.mp e
 refine ⟨f0, O, s, _, s1, I, a4G h1, fun v H1 f1 O1 a1 I1 r => ⟨x, by simpa only [Rep] using r, ?_⟩⟩
 cases x with
 | true => rw [if_pos rfl] at h ⊢; exact ⟨f1, O1, s1, d, s', I1, h, fun v H2 f2 O2 a2 I2 => k v H2 f2 O2 (a1.trans a2) I2⟩
 | false =>
  rw [if_neg Bool.false_ne_true] at h ⊢
  simp only [Option.some.injEq, Prod.mk.injEq] at h
  obtain ⟨e1, e2⟩ := h
  subst e1; subst e2
  exact k _ H1 f1 O1 a1 I1 (by simp only [Rep])
theorem a8a (ha : EO X g a fa) : EO X g (.UnaryOp .Not a pos) (t9 fa) := EO.w (a88 ha.pe) fun σ H Q hQ__ => by
 obtain ⟨f0, O, s, d, s', I, e, k⟩ := hQ__
 obtain ⟨⟨x, s1⟩, h1, h⟩ := Option.map_eq_some_iff.mp e
 simp only [Prod.mk.injEq] at h
 obtain ⟨e1, e2⟩ := h
 subst e1; subst e2
 exact ⟨f0, O, s, _, s1, I, a4G h1, fun v H1 f1 O1 a1 I1 r => ⟨x, by simpa only [Rep] using r, k _ H1 f1 O1 a1 I1 (by simp only [Rep])⟩⟩
noncomputable def dIf (c : DT) (a b : DE) : DE := fun s => (c s).bind fun x => if x.1 = true then a x.2 else b x.2
theorem a0m {c : Expr} {fc : DT} (hc : TO X g c fc) (ha : EO X g a fa) (hb : EO X g b fb) : EO X g (.IfExp c a b pos) (dIf fc fa fb) := EO.w (b1E hc.pe ha.pe hb.pe) fun σ H Q hQ__ => by
 obtain ⟨f0, O, s, d, s', I, e, k⟩ := hQ__
 obtain ⟨⟨x, s1⟩, h1, h⟩ := Option.bind_eq_some_iff.mp e
 refine ⟨f0, O, s, x, s1, I, h1, fun H1 f1 O1 a1 I1 => ?_⟩
 cases x with
 | false => rw [if_neg Bool.false_ne_true] at h ⊢; exact ⟨f1, O1, s1, d, s', I1, h, fun v H2 f2 O2 a2 I2 => k v H2 f2 O2 (a1.trans a2) I2⟩
 | true => rw [if_pos rfl] at h ⊢; exact ⟨f1, O1, s1, d, s', I1, h, fun v H2 f2 O2 a2 I2 => k v H2 f2 O2 (a1.trans a2) I2⟩

noncomputable def b0 : DA := fun s => some ([], s)
noncomputable def a0 (a : DE) (r : DA) : DA := fun s => (a s).bind fun x => (r x.2).map fun y => (x.1 :: y.1, y.2)
theorem a0D {a : DE} {r : DA} {s s' : DS} {ds : List D} (h : a0 a r s = some (ds, s')) : ∃ d s1 es, a s = some (d, s1) ∧ r s1 = some (es, s') ∧ ds = d :: es := by
 obtain ⟨⟨x, s1⟩, h1, h⟩ := Option.bind_eq_some_iff.mp h
 obtain ⟨⟨y, s2⟩, h2, h⟩ := Option.map_eq_some_iff.mp h
 simp only [Prod.mk.injEq] at h
 exact ⟨x, s1, y, h1, by rw [h2, h.2], h.1.symm⟩
variable {es : List Expr} {fr : DA}
theorem g9 : AO X g [] b0 := AO.w a2h fun σ H Q hQ__ => by
 obtain ⟨f0, O, s, d, s', I, e, k⟩ := hQ__
 simp only [b0, Option.some.injEq, Prod.mk.injEq] at e
 obtain ⟨e1, e2⟩ := e
 subst e1; subst e2
 exact k [] H f0 O StE.refl I (by simp only [Reps])
theorem a4x (ha : EO X g a fa) (hr : AO X g es fr) (hs : starEach (a :: es) X.env = (false, eval a X.env) :: starEach es X.env := by rfl) : AO X g (a :: es) (a0 fa fr) := AO.w (a0X ha.pe hr.pe hs) fun σ H Q hQ__ => by
 obtain ⟨f0, O, s, ds, s', I, e, k⟩ := hQ__
 obtain ⟨d, s1, es, h1, h2, h3⟩ := a0D e
 subst h3
 refine ⟨f0, O, s, d, s1, I, h1, fun v H1 f1 O1 a1 I1 r1 => ⟨f1, O1, s1, es, s', I1, h2, fun vs H2 f2 O2 a2 I2 r2 => ?_⟩⟩
 refine k (v :: vs) H2 f2 O2 (a1.trans a2) I2 ?_
 simp only [Reps]
 exact ⟨v, vs, rfl, Rep.stp I1 a2.stp r1, r2⟩
theorem y8 : BAO X g [] b0 := BAO.w a2h fun σ H Q hQ__ => by
 obtain ⟨f0, O, s, d, s', I, e, k⟩ := hQ__
 simp only [b0, Option.some.injEq, Prod.mk.injEq] at e
 obtain ⟨e1, e2⟩ := e
 subst e1; subst e2
 exact k [] H f0 O StE.refl I (by simp only [R5])
theorem b4b (ha : BO X g a fa) (hr : BAO X g es fr) (hs : starEach (a :: es) X.env = (false, eval a X.env) :: starEach es X.env := by rfl) : BAO X g (a :: es) (a0 fa fr) := BAO.w (a0X ha.pe hr.pe hs) fun σ H Q hQ__ => by
 obtain ⟨f0, O, s, ds, s', I, e, k⟩ := hQ__
 obtain ⟨d, s1, es, h1, h2, h3⟩ := a0D e
 subst h3
 refine ⟨f0, O, s, d, s1, I, h1, fun v H1 f1 O1 a1 I1 r1 => ⟨f1, O1, s1, es, s', I1, h2, fun vs H2 f2 O2 a2 I2 r2 => ?_⟩⟩
 exact k (v :: vs) H2 f2 O2 (a1.trans a2) I2 ⟨v, vs, rfl, RepB.stp I1 a2 r1, r2⟩
noncomputable def i7 (f : DA) : DE := fun s => (f s).bind fun x => if x.1.length ≤ sizeLine then some (.tup x.1, x.2) else none
noncomputable def m6 (f : DA) : DA := fun s => (f s).bind fun x => if x.1.length ≤ sizeLine then some (x.1, x.2) else none
theorem A1 {x1} (h : AO X g es fr) : EO X g (.Tuple es x1 pos) (i7 fr) := EO.w (a9m h.pe) fun σ H Q hQ__ => by
 obtain ⟨f0, O, s, d, s', I, e, k⟩ := hQ__
 obtain ⟨⟨ds, s1⟩, h1, h.pe⟩ := Option.bind_eq_some_iff.mp e
 by_cases hl : ds.length ≤ sizeLine
 ·rw [if_pos hl] at h.pe
  simp only [Option.some.injEq, Prod.mk.injEq] at h.pe
  obtain ⟨e1, e2⟩ := h.pe
  subst e1; subst e2
  refine ⟨f0, O, s, ds, s1, I, h1, fun vs H1 f1 O1 a1 I1 r1 => ⟨by rw [r1.length]; exact hl, fun p hp => ?_⟩⟩
  have a2 : StE f1 O1 H1 f1 O1 (upd H1 p (.tup vs)) := E9 hp
  refine k _ _ f1 O1 (a1.trans a2) (I1.new hp) ?_
  simp only [Rep]
  exact ⟨p, vs, rfl, SqT.of B8, Reps.stp I1 a2.stp r1⟩
 ·rw [if_neg hl] at h.pe; cases h.pe
theorem J6 (h : AO X g es fr) : FO X g (.List es pos) (m6 fr) := FO.w (b1m h.pe) fun σ H Q hQ__ => by
 obtain ⟨f0, O, s, d, s', I, e, k⟩ := hQ__
 obtain ⟨⟨ds, s1⟩, h1, h.pe⟩ := Option.bind_eq_some_iff.mp e
 by_cases hl : ds.length ≤ sizeLine
 ·rw [if_pos hl] at h.pe
  simp only [Option.some.injEq, Prod.mk.injEq] at h.pe
  obtain ⟨e1, e2⟩ := h.pe
  subst e1; subst e2
  refine ⟨f0, O, s, ds, s1, I, h1, fun vs H1 f1 O1 a1 I1 r1 => ⟨by rw [r1.length]; exact hl, fun p hp => ?_⟩⟩
  have a2 : StE f1 O1 H1 f1 O1 (upd H1 p (.lst vs)) := E9 hp
  exact k p vs _ f1 O1 (a1.trans a2) (a08 I1 hp r1) (a1.mon _ hp)
 ·rw [if_neg hl] at h.pe; cases h.pe
end
end DL

namespace DL
open PySem PySem.Spec L2

section
variable {K : PySem.W.Frag} {g : Gh} {σ : L2.St} {H H' : Hp} {fa fa' : Option Addr} {O O' : List Addr} {s s' : DS}
theorem NN.mono {F : Addr → Prop} {P : List Addr} (h : ∀ b ∈ P, b ∈ O) {b : Addr} (z : NN F fa P b) : NN F fa O b := by
 rcases z with z | z | z
 ·exact .inl z
 ·exact .inr (.inl (h b z))
 ·exact .inr (.inr z)
theorem a6F {F : Addr → Prop} {N : Addr → Prop} (h : ∀ b, NN F fa O b → N b) : Car K N fa H (NN F fa O) fa H := ⟨fun b xs n q => ⟨q, fun z => n (h b z)⟩, fun _ _ q => q, fun _ _ q => q, fun _ q => q⟩
theorem DI.put (I : GI K g σ H fa O s) (i : Nat) {d : D} {v : V} (r : Rep K (NN g.F fa O) fa H d v) : ∃ P, (∀ b ∈ P, b ∈ O) ∧ GI K g (σ.set i (some v)) H fa P { s with sl := s.sl.set i (.val d) } := by
 obtain ⟨P, hs, S, _⟩ := SlR.put i I.sl r
 have sub : ∀ b ∈ P, b ∈ O := fun b hb => hs.subset hb
 have c : Car K (NN g.F fa O) fa H (NN g.F fa P) fa H := a6F fun b => NN.mono sub
 exact ⟨P, sub, hs.nodup I.nd, SlR.go c (fun _ _ _ z => z) S, fun b hb => I.fr b (sub b hb), I.st, I.tr, I.ff, I.fd.car c fun _ _ => rfl, fun b z y => I.nf b z (sub b y)⟩
theorem a2q {P : List Addr} (h : ∀ b ∈ P, b ∈ O) : StE fa O H fa P H := ⟨h, .inl rfl, fun _ _ e _ => e, fun _ e => e⟩
theorem NewL.put {p : Addr} {xs : List V} {ds : List D} (L : NewL K g σ H fa O s p xs ds) (i : Nat) (hi : i < s.sl.length) (h0 : g.H0 p = none) (hp : p ∉ O) : ∃ P, (∀ b ∈ P, b = p ∨ b ∈ O) ∧ GI K g (σ.set i (some (.ref p))) H fa P { s with sl := s.sl.set i (.own ds) } := by
 obtain ⟨P, h1, h2, S⟩ := SlR.putN i L.sl hi hp L.gi.nd L.ls L.rs
 have c : Car K (fun b => NN g.F fa O b ∨ b = p) fa H (NN g.F fa P) fa H := a6F fun b z => by
  rcases z with z | z | z
  ·exact .inl (.inl z)
  ·rcases h1 b z with y | y
   ·exact .inr y
   ·exact .inl (.inr (.inl y))
  ·exact .inl (.inr (.inr z))
 refine ⟨P, h1, h2, SlR.go c (fun _ _ _ z => z) S, fun b hb => ?_, L.gi.st, L.gi.tr, L.gi.ff, L.fd.car c fun _ _ => rfl, fun b z hb => ?_⟩
 ·rcases h1 b hb with y | y
  ·rw [y]; exact h0
  ·exact L.gi.fr b y
 ·rcases h1 b hb with y | y
  ·rw [y] at z; exact L.nf z
  ·exact L.gi.nf b z y
theorem DI.rew (I : GI K g σ H fa O s) {i : Nat} {ds es : List D} {a : Addr} {xs ys : List V} (e1 : s.sl[i]? = some (.own ds)) (e2 : σ[i]? = some (some (.ref a))) (m : a ∈ O) (e3 : H a = some (.lst xs)) (r : Reps K (NN g.F fa O) fa H es ys) :
  GI K g σ (upd H a (.lst ys)) fa O { s with sl := s.sl.set i (.own es) } ∧ Stp fa O H fa O (upd H a (.lst ys)) := by
 have a1 : Stp fa O H fa O (upd H a (.lst ys)) := ⟨fun b hb => .inl hb, .inl rfl, fun b u e n _ => by
  rw [u5 (show b ≠ a from fun z => n (by rw [z]; exact m))]; exact e, fun b z => by
  by_cases hb : b = a
  ·subst hb; rw [B8] at z; cases z
  ·rw [u5 hb] at z; exact z⟩
 have c := I.car a1
 have k : ∀ b u, b ≠ a → H b = some u → upd H a (.lst ys) b = some u := fun b u n e => by rw [u5 n]; exact e
 refine ⟨⟨I.nd, SlR.rew I.sl I.nd (fun b hb => .inr (.inl hb)) e1 e2 B8 c k (Reps.go c es ys r), I.fr, ?_, I.tr, I.ff, I.fd.car c fun b hb => ?_, I.nf⟩, a1⟩
 ·refine ⟨fun b hb => (by cases hb), I.st.fe, fun b u e n f => ?_, fun b z => I.st.mon b (a1.mon b z)⟩
  refine k b u (fun z => ?_) (I.st.same b u e n f)
  rw [z, I.fr a m] at e; cases e
 ·refine u5 fun z => ?_
  subst z
  exact I.nf _ hb m
end

theorem FlK.shift {K : PySem.W.Frag} {g : Gh} {E : Ends} {fa fa' : Option Addr} {O O' : List Addr} {H H' : Hp} {fl : Fl} {s : DS} (a : Stp fa O H fa' O' H') (h : FlK K g E fa O H fl s) : FlK K g E fa' O' H' fl s := by
 cases fl with
 | next => exact fun σ' H2 f2 O2 a2 I2 => h σ' H2 f2 O2 (a.trans a2) I2
 | brk => exact fun σ' H2 f2 O2 a2 I2 => h σ' H2 f2 O2 (a.trans a2) I2
 | cont => exact fun σ' H2 f2 O2 a2 I2 => h σ' H2 f2 O2 (a.trans a2) I2
 | ret d => exact fun σ' v H2 f2 O2 a2 I2 => h σ' v H2 f2 O2 (a.trans a2) I2
noncomputable def j9 : DM := fun s => some (.next, s)
noncomputable def t6 (b : DM) (x : Fl × DS) : Option (Fl × DS) := match x.1 with
 | .next => b x.2
 | .brk => some (.brk, x.2)
 | .cont => some (.cont, x.2)
 | .ret d => some (.ret d, x.2)
noncomputable def d7 (a b : DM) : DM := fun s => (a s).bind (t6 b)
section
variable {X : Cx} {g : Gh} {st : Stmt} {rest : List Stmt} {e : Expr} {pos : Pos} {a b : DM} {f : DE}
theorem B3 : SSO X g [] j9 := SSO.w b0B fun E σ H hQ__ => by
 obtain ⟨fa, O, s, fl, s', I, e, k⟩ := hQ__
 cases e
 exact k σ H fa O Stp.refl I
theorem m8 (h : SO X g st a) : SSO X g [st] a := ⟨b3K h.pe⟩
theorem j4 (h : SO X g st a) (hr : SSO X g rest b) : SSO X g (st :: rest) (d7 a b) := SSO.w (b0M h.pe hr.pe) fun E σ H hQ__ => by
 obtain ⟨fa, O, s, fl, s', I, e, k⟩ := hQ__
 obtain ⟨⟨f1, s1⟩, h1, h2⟩ := Option.bind_eq_some_iff.mp e
 refine ⟨fa, O, s, f1, s1, I, h1, ?_⟩
 cases f1 with
 | next => exact fun σ' H' f1 O1 a1 I1 => ⟨f1, O1, s1, fl, s', I1, h2, k.shift a1⟩
 | brk => cases h2; exact k
 | cont => cases h2; exact k
 | ret d => cases h2; exact k
noncomputable def i3 (f : DE) : DM := fun s => (f s).map fun x => (.ret x.1, x.2)
theorem t7 (he : EO X g e f) : SO X g (.Return (some e) pos) (i3 f) := SO.w (b1R he.pe) fun E σ H hQ__ => by
 obtain ⟨fa, O, s, fl, s', I, q, k⟩ := hQ__
 obtain ⟨⟨d, s1⟩, h1, h2⟩ := Option.map_eq_some_iff.mp q
 cases h2
 exact ⟨fa, O, s, d, s1, I, h1, fun v H' f1 O1 a1 I1 r => k σ v H' f1 O1 a1.stp I1 r⟩
noncomputable def j6 (c : DT) (a b : DM) : DM := fun s => (c s).bind fun x => if x.1 = true then a x.2 else b x.2
theorem B2 {c : Expr} {fc : DT} {la lb : List Stmt} (hc : TO X g c fc) (ha : SSO X g la a) (hb : SSO X g lb b) : SO X g (.If c la lb pos) (j6 fc a b) := SO.w (a8Q hc.pe ha.pe hb.pe) fun E σ H hQ__ => by
 obtain ⟨fa, O, s, fl, s', I, e, k⟩ := hQ__
 obtain ⟨⟨x, s1⟩, h1, h⟩ := Option.bind_eq_some_iff.mp e
 refine ⟨fa, O, s, x, s1, I, h1, fun H1 f1 O1 a1 I1 => ?_⟩
 cases x with
 | false => rw [if_neg Bool.false_ne_true] at h ⊢; exact ⟨f1, O1, s1, fl, s', I1, h, k.shift a1.stp⟩
 | true => rw [if_pos rfl] at h ⊢; exact ⟨f1, O1, s1, fl, s', I1, h, k.shift a1.stp⟩
noncomputable def a2g (K : PySem.W.Frag) (g : Gh) (t : D → DS → Option DS) : TG := fun v σ H Q => ∃ fa O s d s', GI K g σ H fa O s ∧ Rep K (NN g.F fa O) fa H d v ∧ t d s = some s' ∧ ∀ σ' H' fa' O', Stp fa O H fa' O' H' → GI K g σ' H' fa' O' s' → Q σ' H'
noncomputable def a53 (K : PySem.W.Frag) (g : Gh) (t : List D → DS → Option DS) : TGs := fun vs σ H Q => ∃ fa O s ds s', GI K g σ H fa O s ∧ Reps K (NN g.F fa O) fa H ds vs ∧ t ds s = some s' ∧ ∀ σ' H' fa' O', Stp fa O H fa' O' H' → GI K g σ' H' fa' O' s' → Q σ' H'
structure GO (X : Cx) (g : Gh) (e : Expr) (t : D → DS → Option DS) : Prop where
 pe : PG X e (a2g X.K g t)
structure GsO (X : Cx) (g : Gh) (es : List Expr) (t : List D → DS → Option DS) : Prop where
 pe : PGs X es (a53 X.K g t)
noncomputable def d8 (i : Nat) (d : D) : DS → Option DS := fun s => some { s with sl := s.sl.set i (.val d) }
theorem PGw {t t' : TG} (h : PG X e t) (w : ∀ v σ H Q, t' v σ H Q → t v σ H Q) : PG X e t' := fun pins s σ H v u Q I r q => h pins s σ H v u Q I r (w v σ H Q q)
theorem b1d {es : List Expr} {t t' : TGs} (h : PGs X es t) (w : ∀ v σ H Q, t' v σ H Q → t v σ H Q) : PGs X es t' := fun pins s σ H v u Q I r q => h pins s σ H v u Q I r (w v σ H Q q)
theorem GO.w {f : D → DS → Option DS} {t : TG} (h : PG X e t) (w : ∀ v σ H Q, a2g X.K g f v σ H Q → t v σ H Q) : GO X g e f := ⟨PGw h w⟩
theorem GsO.w {es : List Expr} {f : List D → DS → Option DS} {t : TGs} (h : PGs X es t) (w : ∀ v σ H Q, a53 X.K g f v σ H Q → t v σ H Q) : GsO X g es f := ⟨b1d h w⟩
theorem G6 {i : Nat} {x : Str} (h : PG X (.Name x pos) (V9 i)) : GO X g (.Name x pos) (d8 i) := GO.w h fun v σ H Q hQ__ => by
 obtain ⟨fa, O, s, d, s', I, r, e, k⟩ := hQ__
 cases e
 obtain ⟨P, sub, I'⟩ := I.put i r
 exact k _ H fa P (a2q sub).stp I'
noncomputable def o8 : List D → DS → Option DS
 | [], s => some s
 | _ :: _, _ => none
noncomputable def m9 (t : D → DS → Option DS) (u : List D → DS → Option DS) : List D → DS → Option DS
 | [], _ => none
 | d :: r, s => (t d s).bind (u r)
theorem a0P : GsO X g [] o8 := GsO.w a5t fun v σ H Q hQ__ => by
 obtain ⟨fa, O, s, ds, s', I, r, e, k⟩ := hQ__
 cases ds with
 | nil => cases e; simp only [Reps] at r; exact ⟨r, k σ H fa O Stp.refl I⟩
 | cons d r' => cases e
theorem K8 {es : List Expr} {t : D → DS → Option DS} {u : List D → DS → Option DS} (h : GO X g e t) (hr : GsO X g es u) (hs : (assignEach (e :: es) X.env).map (·.2) = assign e X.env :: (assignEach es X.env).map (·.2) := by rfl) : GsO X g (e :: es) (m9 t u) :=
 GsO.w (a4J h.pe hr.pe hs) fun v σ H Q hQ__ => by
  obtain ⟨fa, O, s, ds, s', I, r, e, k⟩ := hQ__
  cases ds with
  | nil => cases e
  | cons d r' =>
   obtain ⟨s1, h1, h2⟩ := Option.bind_eq_some_iff.mp e
   simp only [Reps] at r
   obtain ⟨x, ys, rfl, rx, ry⟩ := r
   exact ⟨x, ys, rfl, fa, O, s, d, s1, I, rx, h1, fun σ1 H1 f1 O1 a1 I1 => ⟨f1, O1, s1, r', s', I1, Reps.stp I a1 ry, h2, fun σ2 H2 f2 O2 a2 I2 => k σ2 H2 f2 O2 (a1.trans a2) I2⟩⟩
noncomputable def o6 (n : Nat) (u : List D → DS → Option DS) (d : D) (s : DS) : Option DS := match d with
 | .tup ds => if ds.length = n then u ds s else none
 | _ => none
theorem a0S {es : List Expr} {k : Nat} {n : Nat} {u : List D → DS → Option DS} (hc : X.calm = true) (h : GsO X g es u) (hn : (assignEach es X.env).length = n := by rfl) (hst : (assignEach es X.env).findIdx? (·.1) = none := by rfl) : GO X g (.Tuple es k pos) (o6 n u) :=
 GO.w (a5d hc h.pe hn hst) fun v σ H Q hQ__ => by
  obtain ⟨fa, O, s, d, s', I, r, e, k⟩ := hQ__
  cases d with
  | tup ds =>
   simp only [o6] at e
   by_cases hl : ds.length = n
   ·rw [if_pos hl] at e
    simp only [Rep] at r
    obtain ⟨a, xs, rfl, q, w⟩ := r
    exact ⟨a, xs, rfl, q, by rw [w.length]; exact hl, fa, O, s, ds, s', I, w, e, k⟩
   ·rw [if_neg hl] at e; cases e
  | _ => cases e
noncomputable def g6 (f : DE) (t : D → DS → Option DS) : DM := fun s => (f s).bind fun x => (t x.1 x.2).map fun s' => (.next, s')
theorem a6j {f : DE} {t : D → DS → Option DS} (E : Ends) (σ : L2.St) (H : Hp) (h : Z5 X.K g (g6 f t) E σ H) : a4M (L3 X.K g f) (a2g X.K g t) E σ H := by
 obtain ⟨fa, O, s, fl, s', I, q, k⟩ := h
 obtain ⟨⟨d, s1⟩, h1, h2⟩ := Option.bind_eq_some_iff.mp q
 obtain ⟨s2, h3, h4⟩ := Option.map_eq_some_iff.mp h2
 cases h4
 exact ⟨fa, O, s, d, s1, I, h1, fun v H1 f1 O1 a1 I1 r => ⟨f1, O1, s1, d, _, I1, r, h3, fun σ2 H2 f2 O2 a2 I2 => k σ2 H2 f2 O2 (a1.stp.trans a2) I2⟩⟩
theorem a1T {tg : Expr} {t : D → DS → Option DS} (he : EO X g e f) (hg : GO X g tg t) (hs : swapsWithSole [tg] e pos.line X.env = pure false := by rfl) (hw : swappedStores [tg] e X.env = pure none := by rfl)
  (h1 : (assignEach [tg] X.env).map (·.2) = [assign tg X.env] := by rfl) : SO X g (.Assign [tg] e pos) (g6 f t) := SO.w (a9I he.pe hg.pe hs hw h1) a6j
theorem n9 {i : Nat} {x : Str} {pos' : Pos} (hN : X.N.Nodup) (hi : X.N[i]? = some x) (hx : Loc X.env.scope x) (he : EO X g e f) (hs : swapsWith e (some (.Name x pos')) pos.line X.env = pure false := by rfl) (hf : X.fn x = true ∨ X.env.scope.names.lookup x = some .local := by first | exact .inl rfl | exact .inr rfl | assumption) :
  SO X g (.Assign [.Name x pos'] e pos) (g6 f (d8 i)) := SO.w (a7f hN hi hx he.pe hs hf) fun E σ H h => by
 obtain ⟨fa, O, s, d, s1, I, h1, k⟩ := a6j E σ H h
 refine ⟨fa, O, s, d, s1, I, h1, fun v H1 f1 O1 a1 I1 r => ?_⟩
 obtain ⟨f2, O2, s2, d2, s3, I2, r2, e2, k2⟩ := k v H1 f1 O1 a1 I1 r
 cases e2
 obtain ⟨P, sub, I'⟩ := I2.put i r2
 exact k2 _ H1 f2 P (a2q sub).stp I'
noncomputable def K1 (i : Nat) (f : DA) : DM := fun s => (f s).bind fun x => if i < x.2.sl.length then some (.next, { x.2 with sl := x.2.sl.set i (.own x.1) }) else none
theorem a1S {i : Nat} {x : Str} {f : DA} {pos' : Pos} (hN : X.N.Nodup) (hi : X.N[i]? = some x) (hx : Loc X.env.scope x) (he : FO X g e f) (hs : swapsWith e (some (.Name x pos')) pos.line X.env = pure false := by rfl) (hf : X.fn x = true ∨ X.env.scope.names.lookup x = some .local := by first | exact .inl rfl | exact .inr rfl | assumption) :
  SO X g (.Assign [.Name x pos'] e pos) (K1 i f) := SO.w (a7f hN hi hx he.pe hs hf) fun E σ H hQ__ => by
 obtain ⟨fa, O, s, fl, s', I, q, k⟩ := hQ__
 obtain ⟨⟨ds, s1⟩, h1, h2⟩ := Option.bind_eq_some_iff.mp q
 by_cases hl : i < s1.sl.length
 ·simp only [] at h2
  rw [if_pos hl] at h2
  cases h2
  refine ⟨fa, O, s, ds, s1, I, h1, fun p xs H1 f1 O1 a1 L hp => ?_⟩
  have np : p ∉ O1 := fun z => by
   obtain ⟨ys, e⟩ := I.owned (a1.sub p z)
   rw [hp] at e; cases e
  obtain ⟨P, sub, I'⟩ := L.put i hl (I.st.mon p hp) np
  refine k _ H1 f1 P ⟨fun b hb => ?_, a1.fe, fun b u e _ n => a1.same b u e n, a1.mon⟩ I'
  rcases sub b hb with y | y
  ·exact .inr (by rw [y]; exact hp)
  ·exact .inl (a1.sub b y)
 ·simp only [] at h2
  rw [if_neg hl] at h2; cases h2
noncomputable def J4 (i : Nat) (f : DE) : DM := fun s => match s.sl[i]? with
 | some (.own _) => (f s).bind fun x => match x.2.sl[i]? with
  | some (.own ds) => if ds.length < sizeLine then some (.next, { x.2 with sl := x.2.sl.set i (.own (ds ++ [x.1])) }) else none
  | _ => none
 | _ => none
theorem a7b {i : Nat} {x : Str} {p1 p2 p3 p4 : Pos} (hv : PE X (.Name x p1) (R4 i)) (he : EO X g e f) (hbase : attributeBase (.Name x p1) ("append" : Str) X.env (eval (.Name x p1) X.env) = eval (.Name x p1) X.env := by rfl)
  (hfew : ((backTo p3 (starEach [e] X.env)).all (fun x => !x.1) && (backToKw p3 (keywordEach [] X.env)).all (fun x => x.1.isSome)
   && decide ([e].length + ([] : List Keyword).length + (if ([] : List Keyword).isEmpty then 0 else 1) < 30)) = true := by rfl)
  (hline : (p2.endLine == p3.line) = true := by rfl) (hs : starEach [e] X.env = (false, eval e X.env) :: starEach [] X.env := by rfl) (hplain : (backTo p3 (starEach [] X.env)).any (·.1) = false := by rfl)
  (hsw : swapsWith (.Call (.Attribute (.Name x p1) ("append" : Str) p2) [e] [] p3) none p4.line X.env = pure false := by rfl) :
  SO X g (.Expr (.Call (.Attribute (.Name x p1) ("append" : Str) p2) [e] [] p3) p4) (J4 i f) :=
 SO.w (a8m (b1S PySem.F.plainAttrs_list PySem.F.slot_list_append PySem.F.type_list_append a5W hv (a0X he.pe a2h hs) hbase hfew hline hs hplain) hsw) fun E σ H hQ__ => by
  obtain ⟨fa, O, s, fl, s', I, q, k⟩ := hQ__
  cases q0 : s.sl[i]? with
  | none => simp only [J4, q0] at q; cases q
  | some z =>
  cases z with
  | no => simp only [J4, q0] at q; cases q
  | val _ => simp only [J4, q0] at q; cases q
  | own ds0 =>
  simp only [J4, q0] at q
  obtain ⟨a, xs0, e1, m, e2, _⟩ := SlR.own I.sl q0
  obtain ⟨⟨d, s1⟩, h1, h2⟩ := Option.bind_eq_some_iff.mp q
  cases q2 : s1.sl[i]? with
  | none => simp only [q2] at h2; cases h2
  | some z =>
   cases z with
   | no => simp only [q2] at h2; cases h2
   | val _ => simp only [q2] at h2; cases h2
   | own ds =>
    simp only [q2] at h2
    by_cases hl : ds.length < sizeLine
    ·rw [if_pos hl] at h2
     cases h2
     refine ⟨_, e1, .inl ⟨rfl, xs0, SqL.of e2⟩, fa, O, s, d, s1, I, h1, fun v H1 f1 O1 a1 I1 r => ?_⟩
     obtain ⟨b, xs, e3, m1, e4, r1⟩ := SlR.own I1.sl q2
     rw [e1] at e3; cases e3
     obtain ⟨I2, a2⟩ := I1.rew q2 e1 m1 e4 (Reps.append r1 (Reps.one r))
     exact ⟨a, xs, v, rfl, rfl, e4, by rw [r1.length]; exact hl, k σ _ f1 O1 (a1.stp.trans a2) I2⟩
    ·rw [if_neg hl] at h2; cases h2
end
end DL

namespace DL
open PySem PySem.Spec L2

noncomputable def D6 (t : D → DS → Option DS) (b : DM) : List D → DS → Option (Fl × DS)
 | [], s => some (.next, s)
 | d :: r, s => (t d s).bind fun s1 => (b s1).bind fun x => match x.1 with
  | .next => D6 t b r x.2
  | .cont => D6 t b r x.2
  | .brk => some (.next, x.2)
  | .ret v => some (.ret v, x.2)
noncomputable def PvD (K : PySem.W.Frag) (g : Gh) (f1 : Option Addr) (O1 : List Addr) (H1 : Hp) (t : D → DS → Option DS) (b : DM) (ds : List D) (fl : Fl) (sf : DS) (i : Nat) : L2.St → Hp → Prop := fun σ' H' =>
 ∃ fa' O' s', Stp f1 O1 H1 fa' O' H' ∧ GI K g σ' H' fa' O' s' ∧ D6 t b (ds.drop i) s' = some (fl, sf)
section
variable {K : PySem.W.Frag} {g : Gh} {f1 : Option Addr} {O1 : List Addr} {H1 H' : Hp} {t : D → DS → Option DS} {b : DM} {ds : List D} {fl : Fl} {sf : DS} {i : Nat} {E : Ends} {σ' : L2.St}
theorem a4S {α : Type} {l : List α} {i : Nat} {d : α} (h : l[i]? = some d) : l.drop i = d :: l.drop (i + 1) := by
 obtain ⟨hi, e⟩ := List.getElem?_eq_some_iff.mp h
 rw [List.drop_eq_getElem_cons hi, e]
theorem a3q (hk : FlK K g E f1 O1 H1 fl sf) {d : D} {x : V} (hd : ds[i]? = some d) (hr : ∀ fa' O', Stp f1 O1 H1 fa' O' H' → Rep K (NN g.F fa' O') fa' H' d x) (h : PvD K g f1 O1 H1 t b ds fl sf i σ' H') :
  a2g K g t x σ' H' fun σ2 H2 => Z5 K g b { E with nx := PvD K g f1 O1 H1 t b ds fl sf (i + 1), ct := PvD K g f1 O1 H1 t b ds fl sf (i + 1), bk := E.nx } σ2 H2 := by
 obtain ⟨fa', O', s', st, I, e⟩ := h
 rw [a4S hd, D6] at e
 obtain ⟨s1, h1, h2⟩ := Option.bind_eq_some_iff.mp e
 obtain ⟨⟨fb, s2⟩, h3, h4⟩ := Option.bind_eq_some_iff.mp h2
 refine ⟨fa', O', s', d, s1, I, hr fa' O' st, h1, fun σ2 H2 f2 O2 a2 I2 => ⟨f2, O2, s1, fb, s2, I2, h3, ?_⟩⟩
 cases fb with
 | next => exact fun σ3 H3 f3 O3 a3 I3 => ⟨f3, O3, s2, st.trans (a2.trans a3), I3, h4⟩
 | cont => exact fun σ3 H3 f3 O3 a3 I3 => ⟨f3, O3, s2, st.trans (a2.trans a3), I3, h4⟩
 | brk => cases h4; exact fun σ3 H3 f3 O3 a3 I3 => hk σ3 H3 f3 O3 (st.trans (a2.trans a3)) I3
 | ret v => cases h4; exact fun σ3 v H3 f3 O3 a3 I3 r => hk σ3 v H3 f3 O3 (st.trans (a2.trans a3)) I3 r
theorem a2x (hk : FlK K g E f1 O1 H1 fl sf) {n : Nat} (hn : ds.length ≤ n) (h : PvD K g f1 O1 H1 t b ds fl sf n σ' H') : E.nx σ' H' := by
 obtain ⟨fa', O', s', st, I, e⟩ := h
 rw [List.drop_eq_nil_of_le hn, D6] at e
 cases e
 exact hk σ' H' fa' O' st I
end
noncomputable def T7 (f : DE) (t : D → DS → Option DS) (b : DM) : DM := fun s => (f s).bind fun x => match x.1 with
 | .lst ds => D6 t b ds x.2
 | .tup ds => D6 t b ds x.2
 | _ => none
section
variable {X : Cx} {g : Gh} {tg iter : Expr} {body : List Stmt} {f : DE} {t : D → DS → Option DS} {b : DM} {pos : Pos}
noncomputable def a9l (K : PySem.W.Frag) (tl : TE) : TI := fun σ H R => tl σ H fun x H1 => ∃ a, x = .ref a ∧ (((∃ xs, SqL K H1 a xs) ∧ R (Itl K a) H1) ∨ ((∃ xs, SqT K H1 a xs) ∧ R (Itt K a) H1))
theorem a6i {l : Expr} {tl : TE} (hl : PE X l tl) : PI X tg l (a9l X.K tl) := by
 intro pins s σ H R I h
 refine thn (hl pins s σ H _ I h) fun v s1 ⟨x, H1, I1, r1, q1⟩ => ?_
 obtain ⟨a, e, q⟩ := q1
 subst e
 cases r1
 rcases q with ⟨⟨xs, hq⟩, q⟩ | ⟨⟨xs, hq⟩, q⟩
 ·obtain ⟨its, rv, p, hz⟩ := I1.list hq
  refine wpAny_pyIter_list p.isList ?_
  refine ⟨s1.heap.objs.size, [s1.heap.objs.size], _, _, H1, rfl, I1.kept (t' := s1.toks) fun b o e => Heap.get?_push_of_some _ e, b0a a _, ⟨_, Heap.get?_push_size _ rfl, rfl, rfl⟩, fun b hb => ?_, q⟩
  have e : b = s1.heap.objs.size := by simpa using hb
  subst e
  exact I1.fpOk (Nat.le_refl _) (I1.hok.fresh (Nat.le_refl _))
 ·obtain ⟨its, rv, p, hz⟩ := I1.tuple hq
  refine wpAny_pyIter_tuple (show s1.heap.IsTuple a its.toArray from p) ?_
  refine ⟨s1.heap.objs.size, [s1.heap.objs.size], _, _, H1, rfl, I1.kept (t' := s1.toks) fun b o e => Heap.get?_push_of_some _ e, b0p a _, ⟨_, Heap.get?_push_size _ rfl, rfl, rfl⟩, fun b hb => ?_, q⟩
  have e : b = s1.heap.objs.size := by simpa using hb
  subst e
  exact I1.fpOk (Nat.le_refl _) (I1.hok.fresh (Nat.le_refl _))
theorem a6u (hp : PassesOwn (model X.prog X.w) X.A X.env X.xe) (hc : X.calm = true) (he : EO X g iter f) (hg : GO X g tg t) (hb : SSO X g body b) (hs : ∀ x, foldedSetIterable iter X.env x = pure x := by intro _; rfl) :
  SO X g (.For tg iter body [] pos) (T7 f t b) := SO.w (a6O hp hc (a6i he.pe) hg.pe hb.pe hs) fun E σ H hQ__ => by
 obtain ⟨fa, O, s, fl, sf, I, q, k⟩ := hQ__
 obtain ⟨⟨d, s1⟩, h1, h2⟩ := Option.bind_eq_some_iff.mp q
 refine ⟨fa, O, s, d, s1, I, h1, fun v H1 f1 O1 a1 I1 r => ?_⟩
 have k1 := k.shift a1.stp
 cases d with
 | lst ds =>
  simp only [Rep] at r
  obtain ⟨a, xs, rfl, na, q, w⟩ := r
  refine ⟨a, rfl, .inl ⟨⟨xs, SqL.of q⟩, a8V (xs := xs) (PvD X.K g f1 O1 H1 t b ds fl sf) ⟨f1, O1, s1, Stp.refl, I1, h2⟩ ?_ ?_ ?_⟩⟩
  ·rintro i σ' H' _ ⟨fa', O', s', st, I', e⟩
   exact SqL.of ((I1.car st).ls a xs na q).1
  ·intro i x σ' H' hx h
   obtain ⟨d, hd, rd⟩ := Reps.get' w hx
   exact a3q k1 hd (fun fa' O' st => Rep.stp I1 st rd) h
  ·intro σ' H' h
   exact a2x k1 (Nat.le_of_eq w.length.symm) h
 | tup ds =>
  simp only [Rep] at r
  obtain ⟨a, xs, rfl, q, w⟩ := r
  refine ⟨a, rfl, .inr ⟨⟨xs, q⟩, b0C (xs := xs) (PvD X.K g f1 O1 H1 t b ds fl sf) ⟨f1, O1, s1, Stp.refl, I1, h2⟩ ?_ ?_ ?_⟩⟩
  ·rintro i σ' H' _ ⟨fa', O', s', st, I', e⟩
   exact (I1.car st).tp a xs q
  ·intro i x σ' H' hx h
   obtain ⟨d, hd, rd⟩ := Reps.get' w hx
   exact a3q k1 hd (fun fa' O' st => Rep.stp I1 st rd) h
  ·intro σ' H' h
   exact a2x k1 (Nat.le_of_eq w.length.symm) h
 | _ => cases h2
noncomputable def ups (lo : Int) (n : Nat) : List D := (List.range n).map fun (i : Nat) => D.int (lo + (i : Int))
theorem a3v {lo : Int} {n i : Nat} (h : i < n) : (ups lo n)[i]? = some (.int (lo + (i : Int))) := by simp [ups, h]
theorem a02 (lo : Int) (n : Nat) : (ups lo n).length = n := by simp [ups]
noncomputable def J0 : List D → Option (List D)
 | [.int j] => if -(2 ^ 62) ≤ j ∧ j < 2 ^ 62 then some (ups 0 j.toNat) else none
 | [.int i, .int j] => if -(2 ^ 62) ≤ i ∧ i < 2 ^ 62 ∧ -(2 ^ 62) ≤ j ∧ j < 2 ^ 62 then some (ups i (j - i).toNat) else none
 | _ => none
noncomputable def a09 (f : DA) (t : D → DS → Option DS) (b : DM) : DM := fun s => (f s).bind fun x => (J0 x.1).bind fun ds => D6 t b ds x.2
theorem a5B {ds es : List D} {a : D} (h : J0 ds = some es) (l : ds = [a]) : ∃ j : Int, a = .int j ∧ -(2 ^ 62) ≤ j ∧ j < 2 ^ 62 ∧ es = ups 0 j.toNat := by
 subst l
 cases a with
 | int j =>
  simp only [J0] at h
  by_cases hj : -(2 ^ 62) ≤ j ∧ j < 2 ^ 62
  ·rw [if_pos hj] at h; cases h; exact ⟨j, rfl, hj.1, hj.2, rfl⟩
  ·rw [if_neg hj] at h; cases h
 | _ => cases h
theorem a5F {a : Expr} {fa : DE} {p cpos : Pos} (hp : PassesOwn (model X.prog X.w) X.A X.env X.xe) (hc : X.calm = true) (hgl : Gl X "range") (hm : X.mg "range" = none) (ha : EO X g a fa) (hg : GO X g tg t) (hb : SSO X g body b)
  (hs1 : starEach [a] X.env = [(false, eval a X.env)] := by rfl) (hs : ∀ x, foldedSetIterable (.Call (.Name "range" p) [a] [] cpos) X.env x = pure x := by intro _; rfl) :
  SO X g (.For tg (.Call (.Name "range" p) [a] [] cpos) body [] pos) (a09 (a0 fa b0) t b) :=
 SO.w (a6O hp hc (a63 hgl hm (a4x ha g9 hs1).pe hs1) hg.pe hb.pe hs) fun E σ H hQ__ => by
  obtain ⟨fa, O, s, fl, sf, I, q, k⟩ := hQ__
  obtain ⟨⟨ds, s1⟩, h1, h2⟩ := Option.bind_eq_some_iff.mp q
  obtain ⟨es, h3, h4⟩ := Option.bind_eq_some_iff.mp h2
  obtain ⟨d, s2, rs, e1, e2, e3⟩ := a0D h1
  cases e2
  obtain ⟨j, rfl, j1, j2, rfl⟩ := a5B h3 e3
  refine ⟨fa, O, s, ds, s1, I, h1, fun vs H1 f1 O1 a1 I1 r => ?_⟩
  have k1 := k.shift a1.stp
  rw [e3] at r
  simp only [Reps, Rep] at r
  obtain ⟨x, ys, rfl, rfl, rfl⟩ := r
  refine ⟨j, rfl, j1, j2, b1a (lo := 0) (n := j.toNat) (PvD X.K g f1 O1 H1 t b (ups 0 j.toNat) fl sf) ⟨f1, O1, s1, Stp.refl, I1, h4⟩ ?_ ?_⟩
  ·intro i σ' H' hi h
   exact a3q k1 (a3v hi) (fun fa' O' st => by simp only [Rep]) h
  ·intro σ' H' h
   exact a2x k1 (by rw [a02]; exact Nat.le_refl _) h
noncomputable def whN (c : DT) (b : DM) : Nat → DS → Option (Fl × DS)
 | 0, _ => none
 | n + 1, s => (c s).bind fun x => if x.1 = true then (b x.2).bind fun y => match y.1 with
   | .next => whN c b n y.2
   | .cont => whN c b n y.2
   | .brk => some (.next, y.2)
   | .ret v => some (.ret v, y.2)
  else some (.next, x.2)
open Classical in
noncomputable def C8 (c : DT) (b : DM) : DM := fun s => if h : ∃ n r, whN c b n s = some r then whN c b h.choose s else none
theorem a3M {c : DT} {b : DM} : ∀ (n : Nat) {s : DS} {r : Fl × DS}, whN c b n s = some r → whN c b (n + 1) s = some r
 | 0, s, r, h => by cases h
 | n + 1, s, r, h => by
  rw [whN] at h ⊢
  obtain ⟨⟨x, s1⟩, h1, h2⟩ := Option.bind_eq_some_iff.mp h
  refine Option.bind_eq_some_iff.mpr ⟨(x, s1), h1, ?_⟩
  cases x with
  | false => exact h2
  | true =>
   simp only [if_true] at h2 ⊢
   obtain ⟨⟨y, s2⟩, h3, h4⟩ := Option.bind_eq_some_iff.mp h2
   refine Option.bind_eq_some_iff.mpr ⟨(y, s2), h3, ?_⟩
   cases y with
   | next => exact a3M n h4
   | cont => exact a3M n h4
   | brk => exact h4
   | ret v => exact h4
theorem a5k {c : DT} {b : DM} {n m : Nat} (hnm : n ≤ m) {s : DS} {r : Fl × DS} (h : whN c b n s = some r) : whN c b m s = some r := by
 induction hnm with
 | refl => exact h
 | step _ ih => exact a3M _ ih
theorem a5n {c : DT} {b : DM} {n : Nat} {s : DS} {r : Fl × DS} (h : whN c b n s = some r) : C8 c b s = some r := by
 have hx : ∃ n r, whN c b n s = some r := ⟨n, r, h⟩
 unfold C8
 rw [dif_pos hx]
 obtain ⟨r', h'⟩ := hx.choose_spec
 have e1 := a5k (Nat.le_max_left n hx.choose) h
 have e2 := a5k (Nat.le_max_right n hx.choose) h'
 rw [e1] at e2
 rw [h', e2]
theorem a67 {c : DT} {b : DM} {s : DS} {r : Fl × DS} (h : C8 c b s = some r) : ∃ n, whN c b n s = some r := by
 unfold C8 at h
 by_cases hx : ∃ n r, whN c b n s = some r
 ·rw [dif_pos hx] at h; exact ⟨_, h⟩
 ·rw [dif_neg hx] at h; cases h
theorem U3 {c : DT} {b : DM} {s s1 s2 : DS} {r : Fl × DS} (h1 : c s = some (true, s1)) (h2 : b s1 = some (.next, s2)) (h3 : C8 c b s2 = some r) : C8 c b s = some r := by
 obtain ⟨n, h⟩ := a67 h3
 refine a5n (n := n + 1) ?_
 rw [whN, h1]
 simp only [Option.bind_some, if_true, h2]
 exact h
theorem Z3 {c : DT} {b : DM} {s s1 : DS} (h1 : c s = some (false, s1)) : C8 c b s = some (.next, s1) := by
 refine a5n (n := 1) ?_
 rw [whN, h1]
 simp
theorem Z4 {c : Expr} {fc : DT} (hp : PassesOwn (model X.prog X.w) X.A X.env X.xe) (hc : TO X g c fc) (hb : SSO X g body b) : SO X g (.While c body [] pos) (C8 fc b) := SO.w (a9Z hp hc.pe hb.pe) fun E σ H hQ__ => by
 obtain ⟨fa, O, s, fl, sf, I, q, k⟩ := hQ__
 obtain ⟨n, h⟩ := a67 q
 refine ⟨fun m σ' H' => ∃ fa' O' s', Stp fa O H fa' O' H' ∧ GI X.K g σ' H' fa' O' s' ∧ whN fc b m s' = some (fl, sf), ⟨n, fa, O, s, Stp.refl, I, h⟩, ?_⟩
 rintro m σ1 H1 ⟨f1, O1, s1, a1, I1, h1⟩
 cases m with
 | zero => cases h1
 | succ m =>
  rw [whN] at h1
  obtain ⟨⟨x, s2⟩, h2, h3⟩ := Option.bind_eq_some_iff.mp h1
  refine ⟨f1, O1, s1, x, s2, I1, h2, fun H2 f2 O2 a2 I2 => ?_⟩
  cases x with
  | false => rw [if_neg Bool.false_ne_true] at h3 ⊢; cases h3; exact k σ1 H2 f2 O2 (a1.trans a2.stp) I2
  | true =>
   rw [if_pos rfl] at h3 ⊢
   obtain ⟨⟨y, s3⟩, h4, h5⟩ := Option.bind_eq_some_iff.mp h3
   refine ⟨fun σ' H' => ∃ fa' O' s', Stp fa O H fa' O' H' ∧ GI X.K g σ' H' fa' O' s' ∧ whN fc b m s' = some (fl, sf), fun σ' H' z => ⟨m, Nat.lt_succ_self m, z⟩, f2, O2, s2, y, s3, I2, h4, ?_⟩
   have a12 := a1.trans a2.stp
   cases y with
   | next => exact fun σ3 H3 f3 O3 a3 I3 => ⟨f3, O3, s3, a12.trans a3, I3, h5⟩
   | cont => exact fun σ3 H3 f3 O3 a3 I3 => ⟨f3, O3, s3, a12.trans a3, I3, h5⟩
   | brk => cases h5; exact fun σ3 H3 f3 O3 a3 I3 => k σ3 H3 f3 O3 (a12.trans a3) I3
   | ret v => cases h5; exact fun σ3 v H3 f3 O3 a3 I3 r => k σ3 v H3 f3 O3 (a12.trans a3) I3 r
end

noncomputable abbrev DFn := List D → Option FS → Option (D × Option FS)
noncomputable def spD (K : PySem.W.Frag) (n : Nat) (m : DFn) : Sp := fun vs H Q _ => ∃ (F : Addr → Prop) (fa : Option Addr) (ds : List D) (fs : Option FS) (d : D) (fs' : Option FS),
 (∀ b, F b → H b ≠ none) ∧ (∀ a, fa = some a → F a) ∧ Reps K F fa H ds vs ∧ FeedR F H fa fs ∧ m ds fs = some (d, fs') ∧ ds.length = n ∧
  ∀ v H' fa', Stp fa [] H fa' [] H' → FeedR (fun b => F b ∨ fa' = some b) H' fa' fs' → Rep K (fun b => F b ∨ fa' = some b) fa' H' d v → Q v H'
noncomputable abbrev FnD (P : Program) (w : World) (K : PySem.W.Frag) (mg : Str → Option Value) (base : Heap) (k : Nat) (f : Addr) (fd : FuncData) (ps : List Str) (m : DFn) : Prop := FnOk P w K mg base CX0 k f fd ps (spD K ps.length m)
noncomputable def mFn (n : Nat) (b : DM) : DFn := fun ds fs => (b ⟨ds.map .val ++ List.replicate (n - ds.length) .no, fs⟩).bind fun x => match x.1 with
 | .ret d => some (d, x.2.fs)
 | .next => some (.non, x.2.fs)
 | _ => none
theorem a5e {K : PySem.W.Frag} {N : Addr → Prop} {fa : Option Addr} {H : Hp} : ∀ n : Nat, SlR K N fa H (List.replicate n .no) (List.replicate n none) []
 | 0 => by simp [SlR]
 | n + 1 => by
  simp only [List.replicate_succ, SlR]
  exact ⟨_, _, rfl, a5e n⟩
theorem a5U {K : PySem.W.Frag} {N : Addr → Prop} {fa : Option Addr} {H : Hp} {n : Nat} : ∀ {ds : List D} {vs : List V}, Reps K N fa H ds vs → SlR K N fa H (ds.map .val ++ List.replicate n .no) (vs.map some ++ List.replicate n none) []
 | [], vs, h => by simp only [Reps] at h; subst h; simpa using a5e n
 | d :: r, vs, h => by
  simp only [Reps] at h
  obtain ⟨x, ys, rfl, h1, h2⟩ := h
  simp only [List.map_cons, List.cons_append, SlR]
  exact ⟨x, _, rfl, h1, a5U h2⟩
section
variable {P : Program} {w : World} {K : PySem.W.Frag} {mg : Str → Option Value} {base : Heap}
theorem a6Q {x qual : Str} {st : Stmt} {f : Addr} {fd : FuncData} {N ps : List Str} {k : Nat} {b : DM} (F : Fun K x qual st f fd) (S : FnScope N ps (j8 st))
  (hbody : ∀ (cdv : Value) (A : Around) (outer : List Env) (s : Shared) (H : Hp) (E : XK) (g : Gh), Room k (A.deeper (PyProof.Rows.envOfC qual (j8 st) s.heap.objs.size f cdv)) → SSO (Q6 CX0 P w K mg base N qual (j8 st) f cdv A outer s H E).nox g (u9 st) b) :
  FnD P w K mg base (k + 1) f fd ps (mFn N.length b) := by
 refine F.ok S (fun vs H Q E h => ?_) (fun cdv A outer s H vs Q E hr h => ?_)
 ·obtain ⟨F, fa, ds, fs, d, fs', _, _, r, _, _, hl, _⟩ := h
  rw [r.length]; exact hl
 obtain ⟨F, fa, ds, fs, d, fs', tr, ff, r, fd, e, hl, q⟩ := h
 refine ⟨_, (hbody cdv A outer s H E ⟨F, H, fa⟩ hr).pe, ?_⟩
 obtain ⟨⟨fl, s'⟩, h1, h2⟩ := Option.bind_eq_some_iff.mp e
 have hN : ∀ b, NN F fa [] b → F b := fun b z => by
  rcases z with z | z | z
  ·exact z
  ·cases z
  ·exact ff b z
 have c : Car K F fa H (NN F fa []) fa H := ⟨fun b xs n q => ⟨q, fun z => n (hN b z)⟩, fun _ _ q => q, fun _ _ q => q, fun _ q => q⟩
 have el : (L2.start N vs) = vs.map some ++ List.replicate (N.length - ds.length) none := by rw [L2.start, r.length]
 have I : GI K ⟨F, H, fa⟩ (L2.start N vs) H fa [] ⟨ds.map .val ++ List.replicate (N.length - ds.length) .no, fs⟩ := by
  refine ⟨List.nodup_nil, ?_, fun b hb => (by cases hb), Stp.refl, tr, ff, fd.car c fun _ _ => rfl, fun _ _ z => (by cases z)⟩
  rw [el]
  exact a5U (Reps.go c ds vs r)
 have fin : ∀ {fa' : Option Addr} {O' : List Addr} {H' : Hp} {σ' : L2.St} {v : V} {dd : D}, Stp fa [] H fa' O' H' → GI K ⟨F, H, fa⟩ σ' H' fa' O' s' → Rep K (NN F fa' O') fa' H' dd v → dd = d → s'.fs = fs' → Q v H' := by
  intro fa' O' H' σ' v dd a1 I1 r1 e1 e2
  subst e1; subst e2
  have c1 : Car K (NN F fa' O') fa' H' (fun b => F b ∨ fa' = some b) fa' H' := ⟨fun b xs n q => ⟨q, fun z => n (by
   rcases z with z | z
   ·exact .inl z
   ·exact .inr (.inr z))⟩, fun _ _ q => q, fun _ _ q => q, fun _ q => q⟩
  exact q v H' fa' ⟨fun b hb => (by cases hb), a1.fe, a1.same, a1.mon⟩ (I1.fd.car c1 fun _ _ => rfl) (Rep.go c1 _ _ r1)
 refine ⟨fa, [], _, fl, s', I, h1, ?_⟩
 cases fl with
 | next =>
  simp only [Option.some.injEq, Prod.mk.injEq] at h2
  exact fun σ' H' fa' O' a1 I1 => fin a1 I1 (v := .non) (dd := .non) (by simp only [Rep]) h2.1 h2.2
 | ret dd =>
  simp only [Option.some.injEq, Prod.mk.injEq] at h2
  exact fun σ' v H' fa' O' a1 I1 r1 => fin a1 I1 r1 h2.1 h2.2
 | brk => cases h2
 | cont => cases h2
end
noncomputable def d5 (m : DFn) (f : DA) : DE := fun s => (f s).bind fun x => (m x.1 x.2.fs).map fun y => (y.1, { x.2 with fs := y.2 })
section
variable {X : Cx} {g : Gh} {k : Nat} {f : Addr} {fd : FuncData} {ps : List Str} {m : DFn} {x : Str} {p pos : Pos} {e : Expr} {es : List Expr} {t : DA}
theorem b2r {n : Nat} (hn : ∀ s ds s', t s = some (ds, s') → ds.length = n) (σ : L2.St) (H : Hp) (Q : VK) (h : L3 X.K g (d5 m t) σ H Q) : a6k (spD X.K n m) [] E0 (a4h X.K g t) σ H Q := by
 obtain ⟨fa, O, s, d, s', I, q, k⟩ := h
 obtain ⟨⟨ds, s1⟩, h1, h2⟩ := Option.bind_eq_some_iff.mp q
 obtain ⟨⟨d1, fs1⟩, h3, h4⟩ := Option.map_eq_some_iff.mp h2
 simp only [Prod.mk.injEq] at h4
 obtain ⟨e1, e2⟩ := h4
 subst e1; subst e2
 refine ⟨fa, O, s, ds, s1, I, h1, fun vs H1 f1 O1 a1 I1 r => ?_⟩
 show spD X.K n m (vs ++ []) H1 Q E0
 rw [List.append_nil]
 refine ⟨NN g.F f1 O1, f1, ds, s1.fs, d1, fs1, fun b hb => I1.nn_tracked hb, fun a ha => .inr (.inr ha), r, I1.fd, h3, hn s ds s1 h1, fun v H2 f2 a2 fd2 r2 => ?_⟩
 have a3 : StE f1 O1 H1 f2 O1 H2 := ⟨fun b hb => hb, a2.fe, fun b u e n => a2.same b u e (by simp) n, a2.mon⟩
 have c := I1.car a3.stp
 have c2 : Car X.K (fun b => NN g.F f1 O1 b ∨ f2 = some b) f2 H2 (NN g.F f2 O1) f2 H2 := ⟨fun b xs n q => ⟨q, fun z => n (by
   rcases z with z | z | z
   ·exact .inl (.inl z)
   ·exact .inl (.inr (.inl z))
   ·exact .inr z)⟩, fun _ _ q => q, fun _ _ q => q, fun _ q => q⟩
 refine k v H2 f2 O1 (a1.trans a3) ⟨I1.nd, SlR.go c (fun b xs hb e => ?_) I1.sl, I1.fr, I1.st.trans ⟨fun b hb => (by cases hb), a2.fe, fun b u e n z => a2.same b u e n z, a2.mon⟩, I1.tr, I1.ff, fd2.car c2 fun _ _ => rfl, I1.nf_step a3.fe⟩ (Rep.go c2 _ _ r2)
 exact a3.same b _ e fun z => I1.nf b z hb
theorem b2o (F : FnD X.prog X.w X.K X.mg X.base k f fd ps m) (hr : Room k X.A) (hg : Gl X x) (hm : X.mg x = some (.ref f)) (hk : PySem.W.keepIn X.K (.ref f) = true) (hb : Binds X.K fd ps [])
  (ha : AO X g (e :: es) t) (hn : ∀ s ds s', t s = some (ds, s') → ds.length = ps.length) (hdb : (x == ("__debug__" : Str)) = false := by decide) (he : starEach (e :: es) X.env = (false, eval e X.env) :: starEach es X.env := by rfl) (hpl : (backTo pos (starEach es X.env)).any (·.1) = false := by rfl) :
  EO X g (.Call (.Name x p) (e :: es) [] pos) (d5 m t) := EO.w (a9g F hr hg hm hk hb .nil b0u ha.pe hdb he hpl) (b2r hn)
theorem i9 : ∀ s ds s', b0 s = some (ds, s') → ds.length = 0 := fun s ds s' h => by cases h; rfl
theorem d9 {a : DE} {r : DA} {n : Nat} (h : ∀ s ds s', r s = some (ds, s') → ds.length = n) : ∀ s ds s', a0 a r s = some (ds, s') → ds.length = n + 1 := fun s ds s' q => by
 obtain ⟨d, s1, es, h1, h2, h3⟩ := a0D q
 subst h3
 simp [h _ _ _ h2]
end
end DL

namespace DL
open PySem PySem.Spec L2

noncomputable def ItD (K : PySem.W.Frag) (N : Addr → Prop) (fa : Option Addr) (H1 : Hp) (J : It) (ds : List D) : Prop := ∀ N' fa' H', Car K N fa H1 N' fa' H' → (∀ b u, H1 b = some u → fa ≠ some b → H' b = some u) → ∀ i : Nat,
 (∀ d, ds[i]? = some d → J.go i H' ∧ ∀ x H'', J.yld i H' x H'' → H'' = H' ∧ Rep K N' fa' H' d x) ∧ (ds.length ≤ i → J.stop i H')
noncomputable def a0C (K : PySem.W.Frag) (g : Gh) (f : DA) : TI := fun σ H R => ∃ fa O s ds s', GI K g σ H fa O s ∧ f s = some (ds, s') ∧ ds.length ≤ sizeLine ∧
 ∀ J H' fa' O', StE fa O H fa' O' H' → GI K g σ H' fa' O' s' → ItD K (NN g.F fa' O') fa' H' J ds → R J H'
structure IO (X : Cx) (g : Gh) (tg iter : Expr) (f : DA) : Prop where
 pe : PI X tg iter (a0C X.K g f)
noncomputable def C1 (f : DE) : DA := fun s => (f s).bind fun x => match x.1 with
 | .lst ds => some (ds, x.2)
 | .tup ds => some (ds, x.2)
 | _ => none
noncomputable def M6 (f : DA) : DA := fun s => (f s).bind fun x => (J0 x.1).map fun ds => (ds, x.2)
section
variable {X : Cx} {g : Gh} {tg iter : Expr} {f : DE}
theorem PIw {t t' : TI} (h : PI X tg iter t) (w : ∀ σ H R, t' σ H R → t σ H R) : PI X tg iter t' := fun pins s σ H R I q => h pins s σ H R I (w σ H R q)
theorem IO.w {f : DA} {t : TI} (h : PI X tg iter t) (w : ∀ σ H R, a0C X.K g f σ H R → t σ H R) : IO X g tg iter f := ⟨PIw h w⟩
theorem S7 (h : EO X g iter f) : IO X g tg iter (C1 f) := IO.w (a6i h.pe) fun σ H R hQ__ => by
 obtain ⟨fa, O, s, ds, s', I, e, hz, k⟩ := hQ__
 obtain ⟨⟨d, s1⟩, h1, h2⟩ := Option.bind_eq_some_iff.mp e
 refine ⟨fa, O, s, d, s1, I, h1, fun v H1 f1 O1 a1 I1 r => ?_⟩
 cases d with
 | lst es =>
  cases h2
  simp only [Rep] at r
  obtain ⟨a, xs, rfl, na, q, w⟩ := r
  refine ⟨a, rfl, .inl ⟨⟨xs, SqL.of q⟩, k _ H1 f1 O1 a1 I1 fun N' fa' H' c _ i => ⟨fun d hd => ?_, fun hl => ?_⟩⟩⟩
  ·obtain ⟨x, hx, rx⟩ := Reps.get w hd
   have q' := (c.ls a xs na q).1
   refine ⟨⟨xs, x, SqL.of q', hx⟩, fun y H'' hy => ?_⟩
   obtain ⟨e1, e2⟩ := hy
   have := e2 xs (SqL.of q')
   rw [hx] at this; cases this
   exact ⟨e1, Rep.go c d x rx⟩
  ·exact ⟨xs, SqL.of (c.ls a xs na q).1, by rw [w.length]; exact hl⟩
 | tup es =>
  cases h2
  simp only [Rep] at r
  obtain ⟨a, xs, rfl, q, w⟩ := r
  refine ⟨a, rfl, .inr ⟨⟨xs, q⟩, k _ H1 f1 O1 a1 I1 fun N' fa' H' c _ i => ⟨fun d hd => ?_, fun hl => ?_⟩⟩⟩
  ·obtain ⟨x, hx, rx⟩ := Reps.get w hd
   have q' := c.tp a xs q
   refine ⟨⟨xs, x, q', hx⟩, fun y H'' hy => ?_⟩
   obtain ⟨e1, e2⟩ := hy
   have := e2 xs q'
   rw [hx] at this; cases this
   exact ⟨e1, Rep.go c d x rx⟩
  ·exact ⟨xs, c.tp a xs q, by rw [w.length]; exact hl⟩
 | _ => cases h2
theorem a9K {K : PySem.W.Frag} {N : Addr → Prop} {fa : Option Addr} {H1 : Hp} (lo : Int) (n : Nat) : ItD K N fa H1 (Itr lo n) (ups lo n) := fun N' fa' H' c _ i => ⟨fun d hd => by
 have hi : i < n := by have := (List.getElem?_eq_some_iff.mp hd).1; rwa [a02] at this
 rw [a3v hi] at hd
 cases hd
 refine ⟨hi, fun x H'' hy => ?_⟩
 obtain ⟨e1, e2⟩ := hy
 subst e2
 exact ⟨e1, by simp only [Rep]⟩, fun hl => by rw [a02] at hl; exact hl⟩
theorem a7s {a : Expr} {fa : DE} {p cpos : Pos} (hgl : Gl X "range") (hm : X.mg "range" = none) (ha : EO X g a fa) (hs1 : starEach [a] X.env = [(false, eval a X.env)] := by rfl) :
  IO X g tg (.Call (.Name "range" p) [a] [] cpos) (M6 (a0 fa b0)) := IO.w (a63 hgl hm (a4x ha g9 hs1).pe hs1) fun σ H R hQ__ => by
 obtain ⟨fa, O, s, es, s', I, q, hz, k⟩ := hQ__
 obtain ⟨⟨ds, s1⟩, h1, h2⟩ := Option.bind_eq_some_iff.mp q
 obtain ⟨es', h3, h4⟩ := Option.map_eq_some_iff.mp h2
 cases h4
 obtain ⟨d, s2, rs, e1, e2, e3⟩ := a0D h1
 cases e2
 obtain ⟨j, rfl, j1, j2, rfl⟩ := a5B h3 e3
 refine ⟨fa, O, s, ds, _, I, h1, fun vs H1 f1 O1 a1 I1 r => ?_⟩
 rw [e3] at r
 simp only [Reps, Rep] at r
 obtain ⟨x, ys, rfl, rfl, rfl⟩ := r
 exact ⟨j, rfl, j1, j2, k _ H1 f1 O1 a1 I1 (a9K 0 j.toNat)⟩
end

noncomputable def Q1 (sl : List Sl) (i : Nat) : Sl := match sl[i]? with
 | some (Sl.val d) => Sl.val d
 | _ => Sl.no
noncomputable def C6 (idx : List Nat) (sl : List Sl) : List Sl := idx.map (Q1 sl)
noncomputable def A9 (mk : D → Option (List Sl)) (fc : DT) (fe : DE) : List D → Option FS → Option (List D × Option FS)
 | [], fs => some ([], fs)
 | d :: r, fs => (mk d).bind fun sl => (fc ⟨sl, fs⟩).bind fun c => if c.1 = true then (fe c.2).bind fun y => (A9 mk fc fe r y.2.fs).map fun z => (y.1 :: z.1, z.2) else A9 mk fc fe r c.2.fs
noncomputable def B5 (idx : List Nat) (fi : DA) (fc : DT) (fe : DE) : DA := fun s => (fi s).bind fun x => if x.1.length ≤ sizeLine then (A9 (fun d => some (.val d :: C6 idx x.2.sl)) fc fe x.1 x.2.fs).map fun y => (y.1, { x.2 with fs := y.2 }) else none
noncomputable def FF (g : Gh) (fa : Option Addr) (O : List Addr) (p : Addr) : Addr → Prop := fun b => NN g.F fa O b ∨ b = p
structure CI (K : PySem.W.Frag) (g : Gh) (f1 : Option Addr) (O1 : List Addr) (Hd : Hp) (p : Addr) (fa : Option Addr) (H : Hp) (ys : List V) (res : List D) (fs : Option FS) : Prop where
 st : Stp f1 [p] Hd fa [p] H
 ls : H p = some (.lst ys)
 rs : Reps K (FF g fa O1 p) fa H res ys
 fd : FeedR (FF g fa O1 p) H fa fs
 nf : fa ≠ some p
section
variable {K : PySem.W.Frag} {g : Gh} {f1 fa fa' : Option Addr} {O1 : List Addr} {Hd H H' : Hp} {p : Addr} {ys : List V} {res : List D} {fs : Option FS}
theorem CI.nofa (c : CI K g f1 O1 Hd p fa H ys res fs) : fa ≠ some p := c.nf
theorem a87 (h0 : ∀ xs, fa ≠ none → ∀ a, fa = some a → ¬ Rd H a (.tup xs)) (hfz : ∀ a, fa = some a → ∀ o u, ¬ H a = some (.frz o u)) (a : StE fa [] H fa' [] H') : Car K (FF g fa O1 p) fa H (FF g fa' O1 p) fa' H' := by
 refine ⟨fun b xs n q => ⟨a.same b _ q fun z => n (.inl (.inr (.inr z))), fun z => ?_⟩, fun b xs q => ?_, fun b xs q => ?_, fun x e => a.stp.fa_keep e⟩
 ·rcases z with (z | z | z) | z
  ·exact n (.inl (.inl z))
  ·exact n (.inl (.inr (.inl z)))
  ·rcases a.fe with e | ⟨e, h⟩
   ·exact n (.inl (.inr (.inr (e ▸ z))))
   ·rw [h b z] at q; cases q
  ·exact n (.inr z)
 ·refine SqT.stp' a.stp (fun x e ys => h0 ys (by rw [e]; simp) x e) (fun x hx => by cases hx) q
 ·rcases q with ⟨o, q⟩ | q
  ·exact .inl ⟨o, a.same _ _ q fun z => hfz b z _ _ q⟩
  ·exact .inr q
theorem a86 {N : Addr → Prop} (h : FeedR N H fa fs) : ∀ xs, fa ≠ none → ∀ a, fa = some a → ¬ Rd H a (.tup xs) := fun xs _ a e z => h.no_tup e z
theorem CI.step (c : CI K g f1 O1 Hd p fa H ys res fs) (a : StE fa [] H fa' [] H') {g' : Gh} {σ : L2.St} {s' : DS} (hF : ∀ b, FF g fa' O1 p b → NN g'.F fa' [] b) (I : GI K g' σ H' fa' [] s') : CI K g f1 O1 Hd p fa' H' ys res s'.fs := by
 have cr : Car K (FF g fa O1 p) fa H (FF g fa' O1 p) fa' H' := a87 (a86 c.fd) (fun x e o u => c.fd.no_frz e) a
 refine ⟨c.st.trans ⟨fun b hb => .inl hb, a.fe, fun b u e _ n => a.same b u e n, a.mon⟩, a.same p _ c.ls c.nofa, Reps.go cr _ _ c.rs, I.fd.car (K := K) ⟨fun b xs n q => ⟨q, fun z => n (hF b z)⟩, fun _ _ q => q, fun _ _ q => q, fun _ q => q⟩ fun _ _ => rfl, fun z => ?_⟩
 rcases a.fe with y | ⟨_, y⟩
 ·rw [y] at z; exact c.nf z
 ·have := c.ls; rw [y p z] at this; cases this
theorem CI.app (c : CI K g f1 O1 Hd p fa H ys res fs) {N : Addr → Prop} {d : D} {v : V} (hF : ∀ b, FF g fa O1 p b → N b) (r : Rep K N fa H d v) : CI K g f1 O1 Hd p fa (upd H p (.lst (ys ++ [v]))) (ys ++ [v]) (res ++ [d]) fs := by
 have cr : Car K (FF g fa O1 p) fa H (FF g fa O1 p) fa (upd H p (.lst (ys ++ [v]))) := by
  refine ⟨fun b xs n q => ⟨by rw [u5 (fun z => n (.inr z))]; exact q, n⟩, fun b xs q => ?_, fun b xs q => ?_, fun _ q => q⟩
  ·rcases q with (q | ⟨o, q⟩) | q
   ·exact .inl (.inl (by rw [u5 (fun z => by rw [z, c.ls] at q; cases q)]; exact q))
   ·exact .inl (.inr ⟨o, by rw [u5 (fun z => by rw [z, c.ls] at q; cases q)]; exact q⟩)
   ·exact .inr q
  ·rcases q with ⟨o, q⟩ | q
   ·exact .inl ⟨o, by rw [u5 (fun z => by rw [z, c.ls] at q; cases q)]; exact q⟩
   ·exact .inr q
 have c0 : Car K N fa H (FF g fa O1 p) fa H := ⟨fun b xs n q => ⟨q, fun z => n (hF b z)⟩, fun _ _ q => q, fun _ _ q => q, fun _ q => q⟩
 refine ⟨c.st.trans ⟨fun b hb => .inl hb, .inl rfl, fun b u e n _ => by rw [u5 (fun z => n (by simp [z]))]; exact e, fun b z => ?_⟩, B8, ?_, c.fd.car cr fun a e => u5 fun z => c.nofa (z ▸ e), c.nf⟩
 ·by_cases hb : b = p
  ·subst hb; rw [B8] at z; cases z
  ·rw [u5 hb] at z; exact z
 ·exact Reps.append (Reps.go cr _ _ c.rs) (Reps.one (Rep.go cr _ _ (Rep.go c0 _ _ r)))
end
section
variable {X : Cx} {g : Gh} {scope : Scope} {cl : List (Str × Addr)} {N' : List Str} {idx : List Nat} {iter elt tg : Expr} {ifs : List Expr} {pos : Pos} {fi : DA} {fc : DT} {fe : DE}
noncomputable def a1i (X : Cx) (g : Gh) (ifs : List Expr) (f : DT) : Prop := a4w X ifs (M9 X.K g f)
noncomputable def w6 : DT := fun s => some (true, s)
theorem N2 : a1i X g [] w6 := fun pins s σ H Q I ⟨fa, O, s0, d, s', G, e, k⟩ => a9j pins s σ H Q I (by cases e; exact k H fa O StE.refl G)
theorem a5y {K : PySem.W.Frag} {N : Addr → Prop} {fa : Option Addr} {H : Hp} {sl : List Sl} {σ : L2.St} {O : List Addr} (h : SlR K N fa H sl σ O) : ∀ idx : List Nat, SlR K N fa H (C6 idx sl) (idx.map fun i => (σ[i]?).join) []
 | [] => by simp [C6, SlR]
 | i :: r => by
  have ih := a5y h r
  have go : ∀ e : sl[i]? = none ∨ (∃ z, sl[i]? = some z ∧ ∀ d, z ≠ .val d), Q1 sl i = .no := fun e => by
   unfold Q1
   rcases e with e | ⟨z, e, n⟩
   ·rw [e]
   ·rw [e]
    cases z with
    | val d => exact absurd rfl (n d)
    | no => rfl
    | own ds => rfl
  show SlR K N fa H (Q1 sl i :: C6 r sl) ((σ[i]?).join :: r.map fun i => (σ[i]?).join) []
  cases e : sl[i]? with
  | none =>
   rw [go (.inl e)]
   simp only [SlR]
   exact ⟨_, _, rfl, ih⟩
  | some z =>
   cases z with
   | no =>
    rw [go (.inr ⟨_, e, fun d z => by cases z⟩)]
    simp only [SlR]
    exact ⟨_, _, rfl, ih⟩
   | own ds =>
    rw [go (.inr ⟨_, e, fun d z => by cases z⟩)]
    simp only [SlR]
    exact ⟨_, _, rfl, ih⟩
   | val d =>
    obtain ⟨u, e1, q⟩ := SlR.val h e
    have ec : Q1 sl i = .val d := by unfold Q1; rw [e]
    rw [ec]
    simp only [SlR]
    exact ⟨u, _, by rw [e1]; rfl, q, ih⟩
noncomputable def a8s (mk : List Sl → D → Option (List Sl)) (fi : DA) (fc : DT) (fe : DE) : DA := fun s => (fi s).bind fun x => if x.1.length ≤ sizeLine then (A9 (mk x.2.sl) fc fe x.1 x.2.fs).map fun y => (y.1, { x.2 with fs := y.2 }) else none
theorem a6E {n : Nat} {G : TG} {mk : List Sl → D → Option (List Sl)} (hG : ∀ (N : Addr → Prop) (fa : Option Addr) (sl : List Sl) (d : D) (sl0 : List Sl) (x : V) (σ : L2.St) (H : Hp) (Q : L2.St → Hp → Prop), mk sl d = some sl0 → Rep X.K N fa H d x → SlR X.K N fa H (C6 idx sl) (idx.map fun i => (σ[i]?).join) [] →
  (∀ σ' : L2.St, (σ'.length = (C0 n idx σ).length ∧ ∀ (j : Nat) (v : V), (C0 n idx σ)[j]? = some (some v) → σ'[j]? = some (some v)) → SlR X.K N fa H sl0 σ' [] → Q σ' H) → G x (C0 n idx σ) H Q) : ∀ σ H Q, a0e X.K g (a8s mk fi fc fe) σ H Q → a1z n idx (a0C X.K g fi) G (fun σ H Q => ∃ g', M9 X.K g' fc σ H Q) (fun σ H Q => ∃ g', L3 X.K g' fe σ H Q) σ H Q := by
 intro σ H Q ⟨fa, O, s, res, s', I, e, kk⟩
 obtain ⟨⟨ds, s1⟩, h1, h2⟩ := Option.bind_eq_some_iff.mp e
 by_cases hz : ds.length ≤ sizeLine
 ·simp only [if_pos hz] at h2
  obtain ⟨⟨out, fsf⟩, h3, h4⟩ := Option.map_eq_some_iff.mp h2
  simp only [Prod.mk.injEq] at h4
  obtain ⟨e1, e2⟩ := h4
  subst e1; subst e2
  refine ⟨fa, O, s, ds, s1, I, h1, hz, fun J H1 f1 O1 a1 I1 J1 p hp => ?_⟩
  have stE : ∀ {fa' : Option Addr} {H' : Hp}, Stp f1 [p] (upd H1 p (.lst [])) fa' [p] H' → StE f1 O1 H1 fa' O1 H' := fun {fa' H'} a => by
   refine ⟨fun _ h => h, ?_, fun b u e n => ?_, fun b z => (E9 (fa := f1) (O := O1) hp).mon b (a.mon b z)⟩
   ·rcases a.fe with e | ⟨e, h⟩
    ·exact .inl e
    ·exact .inr ⟨e, fun x z => (E9 (fa := f1) (O := O1) hp).mon x (h x z)⟩
   ·have nb : b ≠ p := K4 e hp
    exact a.same b u (by rw [u5 nb]; exact e) (by simp [nb]) n
  have carP : ∀ {fa' : Option Addr} {H' : Hp}, Stp f1 [p] (upd H1 p (.lst [])) fa' [p] H' → Car X.K (NN g.F f1 O1) f1 H1 (FF g fa' O1 p) fa' H' := fun {fa' H'} a => by
   have c := I1.car (stE a).stp
   refine ⟨fun b xs n q => ?_, c.tp, c.fz, c.fe⟩
   obtain ⟨q', n'⟩ := c.ls b xs n q
   refine ⟨q', ?_⟩
   rintro (z | z)
   ·exact n' z
   ·subst z; rw [hp] at q; cases q
  refine ⟨fun i m H' => m = ds.length - i ∧ i ≤ ds.length ∧ ∃ fa' ys res' rest fs', CI X.K g f1 O1 (upd H1 p (.lst [])) p fa' H' ys res' fs' ∧ A9 (mk s1.sl) fc fe (ds.drop i) fs' = some (rest, fsf) ∧ res' ++ rest = out ∧ ys.length ≤ i, ?_, ?_⟩
  ·refine ⟨ds.length, by simp, Nat.zero_le _, f1, [], [], out, s1.fs, ⟨Stp.refl, B8, Reps.nil, ?_, fun z => I1.fd.tracked z hp⟩, by simpa using h3, rfl, Nat.le_refl _⟩
   exact I1.fd.car (a2e I1 hp) (I1.fd.same_new hp)
  ·rintro i m H' ⟨rfl, hil, fa', ys, res', rest, fs', c, hd, ho, hy⟩
   have Hcar := carP c.st
   obtain ⟨jgo, jstop⟩ := J1 _ _ _ Hcar (fun b u e n => (stE c.st).same b u e n) i
   by_cases hlt : i < ds.length
   ·have hdi : ds[i]? = some ds[i] := List.getElem?_eq_getElem hlt
    obtain ⟨go, yl⟩ := jgo _ hdi
    refine .inr ⟨go, fun x H'' hx => ?_⟩
    obtain ⟨e1, rx⟩ := yl x H'' hx
    subst e1
    rw [a4S hdi, A9] at hd
    obtain ⟨sl0, hm, hd⟩ := Option.bind_eq_some_iff.mp hd
    obtain ⟨⟨b, sb⟩, h5, h6⟩ := Option.bind_eq_some_iff.mp hd
    have hNN : ∀ b, NN (FF g fa' O1 p) fa' [] b → FF g fa' O1 p b := fun b z => by
     rcases z with z | z | z
     ·exact z
     ·cases z
     ·exact .inl (.inr (.inr z))
    have cN : Car X.K (FF g fa' O1 p) fa' H'' (NN (FF g fa' O1 p) fa' []) fa' H'' := ⟨fun b xs n q => ⟨q, fun z => n (hNN b z)⟩, fun _ _ q => q, fun _ _ q => q, fun _ q => q⟩
    have trk : ∀ b, FF g fa' O1 p b → H'' b ≠ none := fun b z => by
     rcases z with (z | z | z) | z
     ·exact fun w => I1.trF z ((stE c.st).mon b w)
     ·obtain ⟨xs, e⟩ := I1.owned z
      exact fun w => by have := (stE c.st).mon b w; rw [e] at this; cases this
     ·exact c.fd.tracked z
     ·rw [z, c.ls]; simp
    refine hG (NN (FF g fa' O1 p) fa' []) fa' s1.sl ds[i] sl0 x σ H'' _ hm (Rep.go cN _ _ rx) (SlR.go cN (fun a xs ha => by cases ha) (a5y (SlR.go Hcar (fun a xs ha e => (stE c.st).same a _ e fun z => I1.nf a z ha) I1.sl) idx)) fun σ1 hσ hsl => ⟨hσ, ?_⟩
    have G0 : GI X.K ⟨FF g fa' O1 p, H'', fa'⟩ σ1 H'' fa' [] ⟨sl0, fs'⟩ := ⟨List.nodup_nil, hsl, fun b hb => (by cases hb), Stp.refl, trk, fun a ha => .inl (.inr (.inr ha)), c.fd.car cN fun _ _ => rfl, fun _ _ z => (by cases z)⟩
    refine ⟨⟨FF g fa' O1 p, H'', fa'⟩, fa', [], _, b, sb, G0, h5, fun H3 f3 O3 a3 I3 => ?_⟩
    have eO : O3 = [] := List.eq_nil_iff_forall_not_mem.mpr fun z hz => by have := a3.sub z hz; cases this
    subst eO
    have hF3 : ∀ b, FF g f3 O1 p b → NN (FF g fa' O1 p) f3 [] b := fun b z => by
     rcases z with (z | z | z) | z
     ·exact .inl (.inl (.inl z))
     ·exact .inl (.inl (.inr (.inl z)))
     ·exact .inr (.inr z)
     ·exact .inl (.inr z)
    have c3 := c.step a3 hF3 I3
    cases b with
    | false =>
     rw [if_neg Bool.false_ne_true] at h6
     refine b3R ?_
     exact ⟨ds.length - (i + 1), by omega, rfl, hlt, f3, ys, res', rest, sb.fs, c3, h6, ho, Nat.le_succ_of_le hy⟩
    | true =>
     rw [if_pos rfl] at h6
     refine b1z ?_
     obtain ⟨⟨dd, sd⟩, h7, h8⟩ := Option.bind_eq_some_iff.mp h6
     obtain ⟨⟨rest2, fs2⟩, h9, h10⟩ := Option.map_eq_some_iff.mp h8
     simp only [Prod.mk.injEq] at h10
     refine ⟨⟨FF g fa' O1 p, H'', fa'⟩, f3, [], sb, dd, sd, I3, h7, fun v H4 f4 O4 a4 I4 r4 => ?_⟩
     have eO : O4 = [] := List.eq_nil_iff_forall_not_mem.mpr fun z hz => by have := a4.sub z hz; cases this
     subst eO
     have hF4 : ∀ b, FF g f4 O1 p b → NN (FF g fa' O1 p) f4 [] b := fun b z => by
      rcases z with (z | z | z) | z
      ·exact .inl (.inl (.inl z))
      ·exact .inl (.inl (.inr (.inl z)))
      ·exact .inr (.inr z)
      ·exact .inl (.inr z)
     have c4 := c3.step a4 hF4 I4
     refine ⟨ys, c4.ls, by omega, ds.length - (i + 1), by omega, rfl, hlt, f4, ys ++ [v], res' ++ [dd], rest2, sd.fs, c4.app hF4 r4, by rw [h9, h10.2], ?_, by simp; omega⟩
     rw [← ho, ← h10.1]; simp
   ·refine .inl ⟨jstop (Nat.le_of_not_lt hlt), ?_⟩
    rw [List.drop_eq_nil_of_le (Nat.le_of_not_lt hlt), A9] at hd
    simp only [Option.some.injEq, Prod.mk.injEq] at hd
    obtain ⟨hd1, hd2⟩ := hd
    subst hd1; subst hd2
    rw [List.append_nil] at ho
    subst ho
    have aE := stE c.st
    have car1 := I1.car aE.stp
    have sameO : ∀ a xs, a ∈ O1 → H1 a = some (.lst xs) → H' a = some (.lst xs) := fun a xs ha e => aE.same a _ e fun z => I1.nf a z ha
    refine kk p ys H' fa' O1 (a1.trans aE) ⟨⟨I1.nd, SlR.go car1 sameO I1.sl, I1.fr, I1.st.trans ⟨fun b hb => (by cases hb), aE.fe, fun b u e _ n => aE.same b u e n, aE.mon⟩, I1.tr, I1.ff, ?_, I1.nf_step aE.fe⟩, c.ls, SlR.go Hcar sameO I1.sl, c.fd, c.rs, c.nf⟩ (a1.mon p hp)
    exact c.fd.car (K := X.K) ⟨fun b xs n q => ⟨q, fun z => n (.inl z)⟩, fun _ _ q => q, fun _ _ q => q, fun _ q => q⟩ fun _ _ => rfl
 ·simp only [if_neg hz] at h2; cases h2
theorem b3I (k : CompOk X scope cl N' 1 idx) : ∀ σ H Q, a0e X.K g (B5 idx fi fc fe) σ H Q → a1z 1 idx (a0C X.K g fi) (V9 0) (fun σ H Q => ∃ g', M9 X.K g' fc σ H Q) (fun σ H Q => ∃ g', L3 X.K g' fe σ H Q) σ H Q :=
 a6E (mk := fun sl d => some (.val d :: C6 idx sl)) fun N fa sl d sl0 x σ H Q hm rx hc kk => by
  cases hm
  refine kk _ ⟨by simp, fun j v hj => ?_⟩ ?_
  ·cases j with
   | zero => simp [C0] at hj
   | succ j => rw [List.getElem?_set_ne (by simp)]; exact hj
  ·have eb : (C0 1 idx σ).set 0 (some x) = some x :: idx.map fun i => (σ[i]?).join := by simp [C0]
   rw [eb]
   simp only [SlR]
   exact ⟨x, _, rfl, rx, hc⟩
theorem U4 (hc : X.calm = true) (k : CompOk X scope cl N' 1 idx) (hi : IO X g tg iter fi) (hg : ∀ C s0 H0 ex, PG (blk X N' scope cl C s0 H0 ex) tg (V9 0))
  (ht : ∀ C s0 H0 ex g', a1i (blk X N' scope cl C s0 H0 ex) g' ifs fc) (he : ∀ C s0 H0 ex g', EO (blk X N' scope cl C s0 H0 ex) g' elt fe) (hs : ∀ x, foldedSetIterable iter X.env x = pure x := by intro _; rfl) :
  FO X g (.ListComp elt [⟨tg, iter, ifs, 0⟩] scope pos) (B5 idx fi fc fe) := by
 exact FO.w (a5D (tc := fun σ H Q => ∃ g', M9 X.K g' fc σ H Q) (te := fun σ H Q => ∃ g', L3 X.K g' fe σ H Q) hc k hi.pe hg (fun C s0 H0 ex pins s σ H Q I ⟨g', h⟩ => ht C s0 H0 ex g' pins s σ H Q I h) (fun C s0 H0 ex pins s σ H Q I ⟨g', h⟩ => (he C s0 H0 ex g').pe pins s σ H Q I h) hs) (b3I k)
end
end DL

namespace HT2
open PySem PyProof.Rows
theorem cat_tup0 {prog : Program} {w : World} {A : Around} {E : Value → Shared → Prop} {s : Shared} {t b : Addr} {ws : List Value} {Q : Value → Shared → Prop} (ht : IsTup s.heap t ([] : List Value).toArray) (hb : IsTup s.heap b ws.toArray)
  (h : Q (.ref b) s) : wpAny (model prog w) A (binaryOp .Add (.ref t) (.ref b)) Q E s := by
 obtain ⟨⟨cls, dd, data, sl⟩, ho, hc, n, hd⟩ := id ht
 obtain ⟨⟨cls2, dd2, data2, sl2⟩, ho2, hc2, n2, hd2⟩ := id hb
 simp only at hc hd hc2 hd2
 subst hc hd hc2 hd2
 exact concat_meets ⟨_, ho, rfl⟩ ⟨_, ho2, rfl⟩ noFill_tuple_add seq_tuple_add PySem.F.slot_tuple_add PySem.F.entry_tuple_add (PySem.F.args_tuple_add_2 _ _)
  (tuple_addW0 t b _ ws.toArray n n2 dd dd2 sl sl2 (by simp)) ⟨ho, ho2, h⟩
end HT2
namespace DL
open PySem PySem.Spec L2

noncomputable def x8 (i : Int) : Bool := decide (i.natAbs.log2 < 1000000)
theorem a5v {i : Int} (h : x8 i = true) : Builtin.Int.intBits i ≤ 2 ^ 20 := by
 have h1 : i.natAbs.log2 < 1000000 := of_decide_eq_true h
 unfold Builtin.Int.intBits
 split
 ·exact Nat.zero_le _
 ·have e : (2 : Nat) ^ 20 = 1048576 := by decide
  rw [e]; omega
noncomputable def D2 (j : Int) : Bool := decide (j ≠ 0) && decide (j.natAbs.log2 < 9000)
section
variable {X : Cx}
theorem op_mulB : OpR X (binaryOp .Mult) (rI (fun i j => x8 i = true ∧ x8 j = true) fun i j => .int (i * j)) := opI fun _ _ _ _ _ _ _ hc q => PyProof.Rows.mul_int q (IntMulOk.of_bits (a5v hc.1) (a5v hc.2))
theorem E8 : OpR X (binaryOp .FloorDiv) (rI (fun _ j => D2 j = true) fun i j => .int (i.fdiv j)) := opI fun i j _ _ _ _ _ hc q => by
 have hc' : D2 j = true := hc
 unfold D2 at hc'
 rw [Bool.and_eq_true] at hc'
 exact PyProof.Rows.floordiv_int (of_decide_eq_true hc'.1) q (.inl (PyProof.noPylong_of_log2 (of_decide_eq_true hc'.2)))
noncomputable def a6c (K : PySem.W.Frag) : R2 := fun x y H Q => ∃ a b ys, x = .ref a ∧ y = .ref b ∧ SqT K H a [] ∧ SqT K H b ys ∧ Q (.ref b) H
theorem op_catT0 : OpR X (binaryOp .Add) (a6c X.K) := by
 intro pins s σ H x y v u Q I rx ry h
 obtain ⟨a, b, ys, rfl, rfl, ha, hb, q⟩ := h
 cases rx
 cases ry
 obtain ⟨its, r1, ht, _⟩ := I.tuple ha
 obtain ⟨its2, r2, ht2, _⟩ := I.tuple hb
 cases r1
 exact HT2.cat_tup0 ht ht2 ⟨.ref b, H, I, rfl, q⟩
noncomputable def a5R (K : PySem.W.Frag) : R2 := fun x y H Q => (rI0 (fun i j => .int (i + j)) x y H Q ∨ (∃ i j, x = .str i ∧ y = .str j ∧ i.length + j.length ≤ sizeLine ∧ Q (.str (i ++ j)) H)) ∨ ((a6c K x y H Q ∨ a6H K x y H Q) ∨ a5f x y H Q)
theorem D3 : OpR X (binaryOp .Add) (a5R X.K) := (op_add.or b0H).or ((op_catT0.or b4p).or a91)
noncomputable def a57 : R2 := fun x y H Q => rI (fun i j => x8 i = true ∧ x8 j = true) (fun i j => .int (i * j)) x y H Q ∨ a6p x y H Q
theorem u8 : OpR X (binaryOp .Mult) a57 := op_mulB.or b3t
end
noncomputable def k0 : D → D → Option D
 | .int i, .int j => some (.int (i + j))
 | .str x, .str y => if x.length + y.length ≤ sizeLine then some (.str (x ++ y)) else none
 | .tup xs, .tup ys => if xs.length + ys.length ≤ sizeLine then some (.tup (xs ++ ys)) else none
 | .lst xs, .lst ys => if xs.length + ys.length ≤ sizeLine then some (.lst (xs ++ ys)) else none
 | _, _ => none
noncomputable def n8 : D → D → Option D
 | .int i, .int j => some (.int (i - j))
 | _, _ => none
noncomputable def m5 : D → D → Option D
 | .int i, .int j => if x8 i && x8 j then some (.int (i * j)) else none
 | .lst xs, .int k => if -(2 ^ 63) ≤ k ∧ k < 2 ^ 63 ∧ xs.length * k.toNat ≤ sizeLine then some (.lst (List.replicate k.toNat xs).flatten) else none
 | _, _ => none
noncomputable def B1 : D → D → Option D
 | .int i, .int j => if D2 j then some (.int (i.fdiv j)) else none
 | _, _ => none
noncomputable def A5 : D → D → Option D
 | .int i, .int j => if j ≠ 0 then some (.int (i.fmod j)) else none
 | _, _ => none
noncomputable def a0k : D → D → Option D
 | .int i, .int j => if 0 ≤ j ∧ j ≤ 1000000 ∧ i.natAbs < 2 ^ 64 then some (.int (i ^ j.toNat)) else none
 | _, _ => none
noncomputable def o0 : D → Option D
 | .int i => some (.int (-i))
 | _ => none
noncomputable def j5 (p : Int → Int → Bool) : D → D → Option D
 | .int i, .int j => some (.bl (p i j))
 | _, _ => none
theorem a56 {K : PySem.W.Frag} {N : Addr → Prop} {fa : Option Addr} {H : Hp} {ds : List D} {xs : List V} (r : Reps K N fa H ds xs) : xs = [] ↔ ds = [] := by
 have := r.length
 cases xs <;> cases ds <;> simp_all
theorem Reps.flat {K : PySem.W.Frag} {N : Addr → Prop} {fa : Option Addr} {H : Hp} {ds : List D} {xs : List V} (r : Reps K N fa H ds xs) : ∀ k : Nat, Reps K N fa H (List.replicate k ds).flatten (List.replicate k xs).flatten
 | 0 => by simp [Reps]
 | k + 1 => by
  simp only [List.replicate_succ, List.flatten_cons]
  exact Reps.append r (Reps.flat r k)
section
variable {K : PySem.W.Frag}
theorem D1 : R2D K (a5R K) k0 := by
 intro g σ H fa O s x y d1 d2 d Q I r1 r2 e k
 cases d1 with
 | int i =>
  cases d2 with
  | int j =>
   cases e
   simp only [RepB, Rep] at r1 r2
   exact .inl (.inl ⟨i, j, r1, r2, k _ H StE.refl I (by simp only [Rep])⟩)
  | _ => cases e
 | str a =>
  cases d2 with
  | str b =>
   simp only [k0] at e
   by_cases h : a.length + b.length ≤ sizeLine
   ·rw [if_pos h] at e
    cases e
    simp only [RepB, Rep] at r1 r2
    refine .inl (.inr ⟨a, b, r1.1, r2.1, h, k _ H StE.refl I ?_⟩)
    simp only [Rep]
    exact ⟨trivial, by rw [strLen_append]; exact h⟩
   ·rw [if_neg h] at e; cases e
  | _ => cases e
 | tup as =>
  cases d2 with
  | tup bs =>
   simp only [k0] at e
   by_cases h : as.length + bs.length ≤ sizeLine
   ·rw [if_pos h] at e
    cases e
    simp only [RepB, Rep] at r1 r2
    obtain ⟨a, xs, rfl, qa, wa⟩ := r1
    obtain ⟨b, ys, rfl, qb, wb⟩ := r2
    by_cases hx : xs = []
    ·have ha := (a56 wa).mp hx
     subst hx; subst ha
     refine .inr (.inl (.inl ⟨a, b, ys, rfl, rfl, qa, qb, k _ H StE.refl I ?_⟩))
     simp only [Rep, List.nil_append]
     exact ⟨b, ys, rfl, qb, wb⟩
    ·refine .inr (.inl (.inr ⟨a, b, xs, ys, rfl, rfl, qa, qb, hx, by rw [wa.length, wb.length]; exact h, fun hy => ?_, fun hy p hp => ?_⟩))
     ·have hb := (a56 wb).mp hy
      subst hy; subst hb
      refine k _ H StE.refl I ?_
      simp only [Rep, List.append_nil]
      exact ⟨a, xs, rfl, qa, wa⟩
     ·have a2 : StE fa O H fa O (upd H p (.tup (xs ++ ys))) := E9 hp
      refine k _ _ a2 (I.new hp) ?_
      simp only [Rep]
      exact ⟨p, _, rfl, SqT.of B8, Reps.stp I a2.stp (Reps.append wa wb)⟩
   ·rw [if_neg h] at e; cases e
  | _ => cases e
 | lst as =>
  cases d2 with
  | lst bs =>
   simp only [k0] at e
   by_cases h : as.length + bs.length ≤ sizeLine
   ·rw [if_pos h] at e
    cases e
    obtain ⟨a, xs, rfl, _, qa, wa⟩ := r1
    obtain ⟨b, ys, rfl, _, qb, wb⟩ := r2
    refine .inr (.inr ⟨a, b, xs, ys, rfl, rfl, qa, qb, by rw [wa.length, wb.length]; exact h, fun p hp => ?_⟩)
    have a2 : StE fa O H fa O (upd H p (.lst (xs ++ ys))) := E9 hp
    have L := a08 I hp (Reps.append wa wb)
    refine k _ _ a2 L.gi ?_
    simp only [Rep]
    exact ⟨p, _, rfl, a2o I a2 L.gi hp L.nf, B8, Reps.stp I a2.stp (Reps.append wa wb)⟩
   ·rw [if_neg h] at e; cases e
  | _ => cases e
 | _ => cases e
theorem a3B {C : Int → Int → Prop} {f : Int → Int → D} {f' : Int → Int → V} {p : D → D → Option D} (hp : ∀ d1 d2 d, p d1 d2 = some d → ∃ i j, d1 = .int i ∧ d2 = .int j ∧ C i j ∧ d = f i j) (hf : ∀ N fa H i j, Rep K N fa H (f i j) (f' i j)) : R2D K (rI C f') p := by
 intro g σ H fa O s x y d1 d2 d Q I r1 r2 e k
 obtain ⟨i, j, rfl, rfl, c, rfl⟩ := hp d1 d2 d e
 simp only [RepB, Rep] at r1 r2
 exact ⟨i, j, r1, r2, c, k _ H StE.refl I (hf _ _ _ _ _)⟩
theorem a5E {f : Int → Int → D} {f' : Int → Int → V} {p : D → D → Option D} (hp : ∀ d1 d2 d, p d1 d2 = some d → ∃ i j, d1 = .int i ∧ d2 = .int j ∧ d = f i j) (hf : ∀ N fa H i j, Rep K N fa H (f i j) (f' i j)) : R2D K (rI0 f') p := by
 intro g σ H fa O s x y d1 d2 d Q I r1 r2 e k
 obtain ⟨i, j, rfl, rfl, rfl⟩ := hp d1 d2 d e
 simp only [RepB, Rep] at r1 r2
 exact ⟨i, j, r1, r2, k _ H StE.refl I (hf _ _ _ _ _)⟩
theorem G4 : R2D K (rI0 fun i j => .int (i - j)) n8 := a5E (f := fun i j => .int (i - j)) (fun d1 d2 d e => by
 cases d1 <;> cases d2 <;> first | (cases e; done) | (cases e; exact ⟨_, _, rfl, rfl, rfl⟩)) fun _ _ _ _ _ => by simp only [Rep]
theorem C5 (p : Int → Int → Bool) : R2D K (rI0 fun i j => .bl (p i j)) (j5 p) := a5E (f := fun i j => .bl (p i j)) (fun d1 d2 d e => by
 cases d1 <;> cases d2 <;> first | (cases e; done) | (cases e; exact ⟨_, _, rfl, rfl, rfl⟩)) fun _ _ _ _ _ => by simp only [Rep]
theorem u7 : R2D K a57 m5 := by
 intro g σ H fa O s x y d1 d2 d Q I r1 r2 e k
 cases d1 with
 | int i =>
  cases d2 with
  | int j =>
   simp only [m5] at e
   by_cases h : (x8 i && x8 j) = true
   ·rw [if_pos h] at e
    cases e
    rw [Bool.and_eq_true] at h
    simp only [RepB, Rep] at r1 r2
    exact .inl ⟨i, j, r1, r2, h, k _ H StE.refl I (by simp only [Rep])⟩
   ·rw [if_neg h] at e; cases e
  | _ => cases e
 | lst as =>
  cases d2 with
  | int j =>
   simp only [m5] at e
   by_cases h : -(2 ^ 63) ≤ j ∧ j < 2 ^ 63 ∧ as.length * j.toNat ≤ sizeLine
   ·rw [if_pos h] at e
    cases e
    obtain ⟨a, xs, rfl, _, qa, wa⟩ := r1
    simp only [RepB, Rep] at r2
    subst r2
    refine .inr ⟨a, j, xs, rfl, rfl, qa, h.1, h.2.1, by rw [wa.length]; exact h.2.2, fun p hp => ?_⟩
    have a2 : StE fa O H fa O (upd H p (.lst (List.replicate j.toNat xs).flatten)) := E9 hp
    have L := a08 I hp (wa.flat j.toNat)
    refine k _ _ a2 L.gi ?_
    simp only [Rep]
    exact ⟨p, _, rfl, a2o I a2 L.gi hp L.nf, B8, Reps.stp I a2.stp (wa.flat j.toNat)⟩
   ·rw [if_neg h] at e; cases e
  | _ => cases e
 | _ => cases e
theorem G1 : R2D K (rI (fun _ j => D2 j = true) fun i j => .int (i.fdiv j)) B1 := a3B (f := fun i j => .int (i.fdiv j)) (fun d1 d2 d e => by
  cases d1 <;> cases d2 <;> first
    | (cases e; done)
    | (simp only [B1] at e
       split at e
       · rename_i h; cases e; exact ⟨_, _, rfl, rfl, h, rfl⟩
       · cases e)) fun _ _ _ _ _ => by simp only [Rep]
theorem L8 : R2D K (rI (fun _ j => j ≠ 0) fun i j => .int (i.fmod j)) A5 := a3B (f := fun i j => .int (i.fmod j)) (fun d1 d2 d e => by
  cases d1 <;> cases d2 <;> first
    | (cases e; done)
    | (simp only [A5] at e
       split at e
       · rename_i h; cases e; exact ⟨_, _, rfl, rfl, h, rfl⟩
       · cases e)) fun _ _ _ _ _ => by simp only [Rep]
theorem b0w : R2D K (rI a7j fun i j => .int (i ^ j.toNat)) a0k := a3B (f := fun i j => .int (i ^ j.toNat)) (fun d1 d2 d e => by
  cases d1 <;> cases d2 <;> first
    | (cases e; done)
    | (simp only [a0k] at e
       split at e
       · rename_i h; cases e; exact ⟨_, _, rfl, rfl, h, rfl⟩
       · cases e)) fun _ _ _ _ _ => by simp only [Rep]
theorem P9 : R1D K (rU fun i => .int (-i)) o0 := by
 intro g σ H fa O s x d1 d Q I r1 e k
 cases d1 with
 | int i => cases e; simp only [RepB, Rep] at r1; exact ⟨i, r1, k _ H StE.refl I (by simp only [Rep])⟩
 | _ => cases e
noncomputable def T6 : D → Bool
 | .non => true
 | _ => false
end
end DL

namespace DL
open PySem PySem.Spec L2

section
variable {X : Cx} {pins : List (Addr × Obj)} {σ : L2.St} {H : Hp} {s : Shared} {N : Addr → Prop} {fa : Option Addr}
mutual
theorem N3 (I : Inv X pins σ H s) : ∀ (d : D) (v : V) (u : Value), M2 X.K N fa H d v → RelV v u → d.plain = true → ∃ as, Reads s.heap u d.py as
 | .non, v, u, r, ru, _ => by
  simp only [M2, Rep] at r; subst r; cases ru
  simp only [D.py]; exact ⟨[], .none⟩
 | .bl b, v, u, r, ru, _ => by
  simp only [M2, Rep] at r; subst r; cases ru
  simp only [D.py]; exact ⟨[], .bool b⟩
 | .int i, v, u, r, ru, _ => by
  simp only [M2, Rep] at r; subst r
  obtain ⟨t, rfl⟩ := ru
  simp only [D.py]; exact ⟨[], .int i t⟩
 | .str x, v, u, r, ru, _ => by
  simp only [M2, Rep] at r; obtain ⟨r, _⟩ := r; subst r
  obtain ⟨t, rfl⟩ := ru
  simp only [D.py]; exact ⟨[], .str x t⟩
 | .tup ds, v, u, r, ru, hp => by
  simp only [M2, Rep] at r
  obtain ⟨a, xs, rfl, q, w⟩ := r
  cases ru
  obtain ⟨its, rv, ⟨o, h1, h2, n, h3⟩, _⟩ := I.tuple q
  obtain ⟨as, ra⟩ := a2U I ds xs its w rv (by simpa only [D.plain] using hp)
  simp only [D.py]
  exact ⟨as, .tuple h1 h2 h3 (by simpa using ra)⟩
 | .lst ds, v, u, r, ru, hp => by
  obtain ⟨a, xs, rfl, q, w⟩ := r
  cases ru
  obtain ⟨its, rv, ⟨o, n, h1, h2, h3, h4⟩, _⟩ := I.list (SqL.of q)
  obtain ⟨as, ra⟩ := a2U I ds xs its w rv (by simpa only [D.plain] using hp)
  simp only [D.py]
  exact ⟨_, .list h1 h2 h4 (by simpa using ra)⟩
 | .feed, v, u, r, ru, hp => by simp only [D.plain] at hp; cases hp
 | .scr _, v, u, r, ru, hp => by simp only [D.plain] at hp; cases hp
theorem a2U (I : Inv X pins σ H s) : ∀ (ds : List D) (xs : List V) (us : List Value), Reps X.K N fa H ds xs → Vals xs us → D.plains ds = true → ∃ as, ReadsAll s.heap us (D.pys ds) as
 | [], xs, us, r, ru, _ => by
  simp only [Reps] at r; subst r; cases ru
  simp only [D.pys]; exact ⟨[], .nil⟩
 | d :: ds, xs, us, r, ru, hp => by
  simp only [Reps] at r
  obtain ⟨x, ys, rfl, r1, r2⟩ := r
  cases ru with
  | cons q qs =>
   simp only [D.plains, Bool.and_eq_true] at hp
   obtain ⟨as, h1⟩ := N3 I d x _ r1.o q hp.1
   obtain ⟨bs, h2⟩ := a2U I ds ys _ r2 qs hp.2
   simp only [D.pys]; exact ⟨_, .cons h1 h2⟩
end
end

noncomputable def y7 (d : D) : Bool := d.plain && SeqAt.shaped d.py
noncomputable def pEq (d1 d2 : D) : Option D := match d1, d2 with
 | .str x, .str y => some (.bl (decide (x = y)))
 | d1, d2 => if y7 d1 && y7 d2 then some (.bl (PyData.eqv d1.py d2.py)) else none
noncomputable def pNe (d1 d2 : D) : Option D := match d1, d2 with
 | .str x, .str y => some (.bl (!decide (x = y)))
 | d1, d2 => if y7 d1 && y7 d2 then some (.bl (!PyData.eqv d1.py d2.py)) else none
noncomputable def a0o (K : PySem.W.Frag) (f : Bool → Bool) : R2 := fun x y H Q => ∃ N fa d1 d2, RepB K N fa H d1 x ∧ RepB K N fa H d2 y ∧ y7 d1 = true ∧ y7 d2 = true ∧ Q (.bl (f (PyData.eqv d1.py d2.py))) H
section
variable {X : Cx} {K : PySem.W.Frag}
theorem a8Y (hu : X.A.units + 64 < cLine) : OpR X (compareOp .Eq) (a0o X.K id) := by
 intro pins s σ H x y v u Q I rx ry h
 obtain ⟨N, fa, d1, d2, r1, r2, o1, o2, q⟩ := h
 unfold y7 at o1 o2
 rw [Bool.and_eq_true] at o1 o2
 obtain ⟨as, h1⟩ := N3 I d1 x v r1.o rx o1.1
 obtain ⟨bs, h2⟩ := N3 I d2 y u r2.o ry o2.1
 exact PyProof.Rows.eq_dataH h1 h2 o1.2 o2.2 hu ⟨.bl _, H, I, rfl, q⟩
theorem a9L (hu : X.A.units + 64 < cLine) : OpR X (compareOp .NotEq) (a0o X.K not) := by
 intro pins s σ H x y v u Q I rx ry h
 obtain ⟨N, fa, d1, d2, r1, r2, o1, o2, q⟩ := h
 unfold y7 at o1 o2
 rw [Bool.and_eq_true] at o1 o2
 obtain ⟨as, h1⟩ := N3 I d1 x v r1.o rx o1.1
 obtain ⟨bs, h2⟩ := N3 I d2 y u r2.o ry o2.1
 exact PyProof.Rows.ne_dataH h1 h2 o1.2 o2.2 hu ⟨.bl _, H, I, rfl, q⟩
theorem K2 (hu : X.A.units + 64 < cLine) : OpR X (compareOp .Eq) (fun x y H Q => rEq x y H Q ∨ a0o X.K id x y H Q) := op_eq.or (a8Y hu)
theorem G9 (hu : X.A.units + 64 < cLine) : OpR X (compareOp .NotEq) (fun x y H Q => rNe x y H Q ∨ a0o X.K not x y H Q) := op_ne.or (a9L hu)
theorem a9Q {d1 d2 d : D} (h : pEq d1 d2 = some d) : (∃ x y, d1 = .str x ∧ d2 = .str y ∧ d = .bl (decide (x = y))) ∨ (y7 d1 = true ∧ y7 d2 = true ∧ d = .bl (PyData.eqv d1.py d2.py)) := by
 unfold pEq at h
 split at h
 ·cases h; exact .inl ⟨_, _, rfl, rfl, rfl⟩
 ·split at h
  ·rename_i q
   rw [Bool.and_eq_true] at q
   cases h; exact .inr ⟨q.1, q.2, rfl⟩
  ·cases h
theorem b4n {d1 d2 d : D} (h : pNe d1 d2 = some d) : (∃ x y, d1 = .str x ∧ d2 = .str y ∧ d = .bl (!decide (x = y))) ∨ (y7 d1 = true ∧ y7 d2 = true ∧ d = .bl (!PyData.eqv d1.py d2.py)) := by
 unfold pNe at h
 split at h
 ·cases h; exact .inl ⟨_, _, rfl, rfl, rfl⟩
 ·split at h
  ·rename_i q
   rw [Bool.and_eq_true] at q
   cases h; exact .inr ⟨q.1, q.2, rfl⟩
  ·cases h
theorem a4Z (x y : Str) : decide (V.str x = V.str y) = decide (x = y) := by
 by_cases h : x = y
 ·subst h; simp
 ·rw [decide_eq_false h, decide_eq_false fun z => h (V.str.inj z)]
theorem K3 : R2D K (fun x y H Q => rEq x y H Q ∨ a0o K id x y H Q) pEq := by
 intro g σ H fa O s x y d1 d2 d Q I r1 r2 e k
 rcases a9Q e with ⟨a, b, rfl, rfl, rfl⟩ | ⟨h1, h2, rfl⟩
 ·simp only [RepB, Rep] at r1 r2
  obtain ⟨rfl, _⟩ := r1
  obtain ⟨rfl, _⟩ := r2
  exact .inl ⟨rfl, k _ H StE.refl I (by simp only [Rep, a4Z])⟩
 ·exact .inr ⟨_, _, d1, d2, r1, r2, h1, h2, k _ H StE.refl I (by simp only [Rep, id])⟩
theorem J5 : R2D K (fun x y H Q => rNe x y H Q ∨ a0o K not x y H Q) pNe := by
 intro g σ H fa O s x y d1 d2 d Q I r1 r2 e k
 rcases b4n e with ⟨a, b, rfl, rfl, rfl⟩ | ⟨h1, h2, rfl⟩
 ·simp only [RepB, Rep] at r1 r2
  obtain ⟨rfl, _⟩ := r1
  obtain ⟨rfl, _⟩ := r2
  exact .inl ⟨rfl, k _ H StE.refl I (by simp only [Rep, a4Z])⟩
 ·exact .inr ⟨_, _, d1, d2, r1, r2, h1, h2, k _ H StE.refl I (by simp only [Rep])⟩

noncomputable def pIx : D → D → Option D
 | .tup ds, .int i => atI ds i
 | .lst ds, .int i => atI ds i
 | _, _ => none
theorem a66 {N : Addr → Prop} {fa : Option Addr} {H : Hp} {ds : List D} {xs : List V} {i : Int} {d : D} (r : Reps K N fa H ds xs) (h : atI ds i = some d) : ∃ v, atI xs i = some v ∧ Rep K N fa H d v := by
 unfold atI at h ⊢
 rw [r.length]
 cases e : ixN ds.length i with
 | none => rw [e] at h; cases h
 | some j =>
  rw [e] at h
  simp only [Option.bind_some] at h ⊢
  exact Reps.get r h
theorem i4 : R2D K (fun x y H Q => a3J K x y H Q ∨ a3V K x y H Q) pIx := by
 intro g σ H fa O s x y d1 d2 d Q I r1 r2 e k
 cases d1 with
 | tup ds =>
  cases d2 with
  | int i =>
   simp only [RepB, Rep] at r1 r2
   obtain ⟨a, xs, rfl, q, w⟩ := r1
   obtain ⟨v, hv, rv⟩ := a66 w (show atI ds i = some d from e)
   exact .inr ⟨a, xs, i, v, rfl, r2, q, hv, k v H StE.refl I rv⟩
  | _ => cases e
 | lst ds =>
  cases d2 with
  | int i =>
   obtain ⟨a, xs, rfl, _, q, w⟩ := r1
   simp only [RepB, Rep] at r2
   obtain ⟨v, hv, rv⟩ := a66 w (show atI ds i = some d from e)
   exact .inl ⟨a, xs, i, v, rfl, r2, SqL.of q, hv, k v H StE.refl I rv⟩
  | _ => cases e
 | _ => cases e
theorem i5 : IxR X (fun x y H Q => a3J X.K x y H Q ∨ a3V X.K x y H Q) := ix_list.or a8u
end

noncomputable def dCB (p : List D → Option D) (f : DA) : DE := fun s => (f s).bind fun x => (p x.1).map fun d => (d, x.2)
noncomputable def dCF (p : List D → Option (List D)) (f : DA) : DA := fun s => (f s).bind fun x => (p x.1).map fun d => (d, x.2)
section
variable {X : Cx} {g : Gh} {x : Str} {p pos : Pos} {e : Expr} {es : List Expr} {t : DA} {id T : String} {r : List V → Hp → VK → Prop} {pr : List D → Option D} {pf : List D → Option (List D)}
theorem a7l (hr : RCD X.K r pr) (σ : L2.St) (H : Hp) (Q : VK) (h : L3 X.K g (dCB pr t) σ H Q) : tCB r (a1K X.K g t) σ H Q := by
 obtain ⟨f0, O, s, d, s', I, e, k⟩ := h
 obtain ⟨⟨ds, s1⟩, h1, h⟩ := Option.bind_eq_some_iff.mp e
 obtain ⟨d', h3, h⟩ := Option.map_eq_some_iff.mp h
 simp only [Prod.mk.injEq] at h
 obtain ⟨e1, e2⟩ := h
 subst e1; subst e2
 exact ⟨f0, O, s, ds, s1, I, h1, fun vs H1 f1 O1 a1 I1 r1 => hr g σ H1 f1 O1 s1 vs ds d' Q I1 r1 h3 fun z H3 a3 I3 r3 => k z H3 f1 O1 (a1.trans a3) I3 r3⟩
theorem a9e (hr : RCF X.K r pf) (σ : L2.St) (H : Hp) (Q : VK) (h : a0e X.K g (dCF pf t) σ H Q) : tCB r (a1K X.K g t) σ H Q := by
 obtain ⟨f0, O, s, d, s', I, e, k⟩ := h
 obtain ⟨⟨ds, s1⟩, h1, h⟩ := Option.bind_eq_some_iff.mp e
 obtain ⟨d', h3, h⟩ := Option.map_eq_some_iff.mp h
 simp only [Prod.mk.injEq] at h
 obtain ⟨e1, e2⟩ := h
 subst e1; subst e2
 exact ⟨f0, O, s, ds, s1, I, h1, fun vs H1 f1 O1 a1 I1 r1 => hr g σ H1 f1 O1 s1 vs ds d' Q I1 r1 h3 fun q ys H3 a3 L e3 => k q ys H3 f1 O1 (a1.trans a3) L (a1.mon _ e3)⟩
theorem C3 (hc : CallR X (.builtin id) r) (hr : RCD X.K r pr) (hg : Gl X x) (hm : X.mg x = none) (hv : bootBuiltins x = some (.builtin id)) (ha : BAO X g (e :: es) t) (hn : x ≠ "__name__" := by decide) (hdb : (x == ("__debug__" : Str)) = false := by decide)
  (he : starEach (e :: es) X.env = (false, eval e X.env) :: starEach es X.env := by rfl) (hpl : (backTo pos (starEach es X.env)).any (·.1) = false := by rfl) : EO X g (.Call (.Name x p) (e :: es) [] pos) (dCB pr t) :=
 EO.w (a5H hc hg hm hv ha.pe hn hdb he hpl) (a7l hr)
theorem O0 (hc : CallR X (.type T) r) (hr : RCD X.K r pr) (hg : Gl X x) (hm : X.mg x = none) (hv : bootBuiltins x = some (.type T)) (ha : BAO X g (e :: es) t) (hn : x ≠ "__name__" := by decide) (hdb : (x == ("__debug__" : Str)) = false := by decide)
  (he : starEach (e :: es) X.env = (false, eval e X.env) :: starEach es X.env := by rfl) (hpl : (backTo pos (starEach es X.env)).any (·.1) = false := by rfl) : EO X g (.Call (.Name x p) (e :: es) [] pos) (dCB pr t) :=
 EO.w (b4m hc hg hm hv ha.pe hn hdb he hpl) (a7l hr)
end
theorem a9P {K : PySem.W.Frag} {N : Addr → Prop} {fa : Option Addr} {H : Hp} {d : D} {xs : List V} (r : R5 K N fa H [d] xs) : ∃ x, xs = [x] ∧ RepB K N fa H d x := by
 obtain ⟨x, ys, rfl, r1, r2⟩ := r
 simp only [R5] at r2; subst r2
 exact ⟨x, rfl, r1⟩
noncomputable def one {α : Type} (p : D → Option α) : List D → Option α
 | [d] => p d
 | _ => none
theorem b0W {α : Type} {p : D → Option α} {ds : List D} {a : α} (h : one p ds = some a) : ∃ d, ds = [d] ∧ p d = some a := by
 cases ds with
 | nil => cases h
 | cons d r =>
  cases r with
  | nil => exact ⟨d, rfl, h⟩
  | cons _ _ => cases h
noncomputable def m7 : D → Option D
 | .tup ds => some (.int (ds.length : Nat))
 | .lst ds => some (.int (ds.length : Nat))
 | .str x => some (.int (x.length : Nat))
 | _ => none
noncomputable def N4 : D → Option D
 | .int i => some (.int (if i < 0 then -i else i))
 | _ => none
noncomputable def a3s : D → Option D
 | .int i => some (.int i)
 | .bl b => some (.int (if b then 1 else 0))
 | _ => none
noncomputable def C7 : D → Option D
 | .tup ds => some (.tup ds)
 | .lst ds => some (.tup ds)
 | _ => none
noncomputable def O8 : List D → Option Bool
 | [] => some true
 | .bl b :: r => (O8 r).map fun c => b && c
 | _ :: _ => none
noncomputable def M4 : D → Option D
 | .lst ds => (O8 ds).map .bl
 | _ => none
noncomputable def M3 (d : D) : Bool := d.plain && d.py.showable && d.py.canLay0 && decide (d.py.depth ≤ 64) && decide (d.py.shown.length ≤ sizeLine)
noncomputable def w9 (d : D) : Option D := if M3 d then some (.str d.py.shown) else none
section
variable {X : Cx} {K : PySem.W.Frag}
theorem T1 : CallR X (.builtin "len") (fun xs H Q => (∃ p ys, xs = [.ref p] ∧ (SqL X.K H p ys ∨ SqT X.K H p ys) ∧ Q (.int ys.length) H) ∨ (∃ z, xs = [.str z] ∧ z.length ≤ sizeLine ∧ Q (.int z.length) H)) := call_len_seq.or b1y
theorem rc1 {r : List V → Hp → VK → Prop} {p : D → Option D} (h : ∀ (g : Gh) (σ : L2.St) (H : Hp) (fa : Option Addr) (O : List Addr) (s : DS) (x : V) (d1 d : D) (Q : VK), GI K g σ H fa O s → RepB K (NN g.F fa O) fa H d1 x → p d1 = some d →
  (∀ v H', StE fa O H fa O H' → GI K g σ H' fa O s → Rep K (NN g.F fa O) fa H' d v → Q v H') → r [x] H Q) : RCD K r (one p) := by
 intro g σ H fa O s xs ds d Q I rs e k
 obtain ⟨d1, rfl, e1⟩ := b0W e
 obtain ⟨x, rfl, rx⟩ := a9P rs
 exact h g σ H fa O s x d1 d Q I rx e1 k
theorem T0 : RCD K (fun xs H Q => (∃ p ys, xs = [.ref p] ∧ (SqL K H p ys ∨ SqT K H p ys) ∧ Q (.int ys.length) H) ∨ (∃ z, xs = [.str z] ∧ z.length ≤ sizeLine ∧ Q (.int z.length) H)) (one m7) := rc1 fun g σ H fa O s x d1 d Q I r e k => by
 cases d1 with
 | tup es =>
  cases e
  simp only [RepB, Rep] at r
  obtain ⟨a, ys, rfl, q, w⟩ := r
  exact .inl ⟨a, ys, rfl, .inr q, k _ H StE.refl I (by rw [w.length]; simp only [Rep])⟩
 | lst es =>
  cases e
  obtain ⟨a, ys, rfl, _, q, w⟩ := r
  exact .inl ⟨a, ys, rfl, .inl (SqL.of q), k _ H StE.refl I (by rw [w.length]; simp only [Rep])⟩
 | str z =>
  cases e
  simp only [RepB, Rep] at r
  obtain ⟨rfl, l⟩ := r
  exact .inr ⟨z, rfl, l, k _ H StE.refl I (by simp only [Rep])⟩
 | _ => cases e
theorem a2m : RCD K (fun xs H Q => ∃ i, xs = [.int i] ∧ Q (.int (if i < 0 then -i else i)) H) (one N4) := rc1 fun g σ H fa O s x d1 d Q I r e k => by
 cases d1 with
 | int i =>
  cases e
  simp only [RepB, Rep] at r
  subst r
  exact ⟨i, rfl, k _ H StE.refl I (by simp only [Rep])⟩
 | _ => cases e
theorem a8N : RCD K (fun xs H Q => (∃ i, xs = [.int i] ∧ Q (.int i) H) ∨ ∃ k, xs = [.bl k] ∧ Q (.int (if k then 1 else 0)) H) (one a3s) := rc1 fun g σ H fa O s x d1 d Q I r e k => by
 cases d1 with
 | int i =>
  cases e
  simp only [RepB, Rep] at r
  subst r
  exact .inl ⟨i, rfl, k _ H StE.refl I (by simp only [Rep])⟩
 | bl b =>
  cases e
  simp only [RepB, Rep] at r
  subst r
  exact .inr ⟨b, rfl, k _ H StE.refl I (by simp only [Rep])⟩
 | _ => cases e
theorem Q7 : RCD K (fun xs H Q => ∃ p ys, xs = [.ref p] ∧ ((SqL K H p ys ∧ ∀ l, H l = none → Q (.ref l) (upd H l (.tup ys))) ∨ (SqT K H p ys ∧ Q (.ref p) H))) (one C7) := rc1 fun g σ H fa O s x d1 d Q I r e k => by
 cases d1 with
 | tup es =>
  cases e
  simp only [RepB, Rep] at r
  obtain ⟨a, ys, rfl, q, w⟩ := r
  exact ⟨a, ys, rfl, .inr ⟨q, k _ H StE.refl I (by simp only [Rep]; exact ⟨a, ys, rfl, q, w⟩)⟩⟩
 | lst es =>
  cases e
  obtain ⟨a, ys, rfl, _, q, w⟩ := r
  refine ⟨a, ys, rfl, .inl ⟨SqL.of q, fun p hp => ?_⟩⟩
  have a2 : StE fa O H fa O (upd H p (.tup ys)) := E9 hp
  refine k _ _ a2 (I.new hp) ?_
  simp only [Rep]
  exact ⟨p, ys, rfl, SqT.of B8, Reps.stp I a2.stp w⟩
 | _ => cases e
noncomputable def a6a (K : PySem.W.Frag) : List V → Hp → VK → Prop := fun xs H Q => ∃ N fa d x, xs = [x] ∧ RepB K N fa H d x ∧ M3 d = true ∧ Q (.str d.py.shown) H
theorem R9 (hu : X.A.units + 66 < cLine) (hg : X.A.guards = some []) : CallR X (.builtin "repr") (a6a X.K) := by
 intro pins s σ H xs us Q I r h
 obtain ⟨N, fa, d, x, rfl, rx, ok, q⟩ := h
 obtain ⟨u, rfl, ru⟩ := S6 r
 unfold M3 at ok
 simp only [Bool.and_eq_true, decide_eq_true_eq] at ok
 obtain ⟨⟨⟨⟨hp, hs⟩, hl⟩, hd⟩, hz⟩ := ok
 obtain ⟨as, ra⟩ := N3 I d x u rx.o ru hp
 have fin : ∀ (h' : Heap) (tk : Nat) (t : Tok), (∀ b o, s.heap.get? b = some o → h'.get? b = some o) → EP X pins σ Q (.str d.py.shown t) { s with heap := h', toks := tk } := fun h' tk t hk => ⟨.str d.py.shown, H, I.kept hk, ⟨t, rfl⟩, q⟩
 cases d with
 | non =>
  simp only [RepB, Rep] at rx; subst rx; cases ru
  exact P.repr_of_none (fin s.heap _ _ fun _ _ e => e)
 | bl b =>
  simp only [RepB, Rep] at rx; subst rx; cases ru
  have := fin s.heap (s.toks + 1) s.toks fun _ _ e => e
  refine P.repr_of_bool ?_
  cases b <;> simpa only [D.py, PyData.shown] using this
 | int i =>
  simp only [RepB, Rep] at rx; subst rx
  obtain ⟨t, rfl⟩ := ru
  have := fin s.heap (s.toks + 1) s.toks fun _ _ e => e
  simp only [D.py, PyData.showable, decide_eq_true_eq] at hs
  exact P.repr_of_int hs (by simpa only [D.py, PyData.shown] using this)
 | str z =>
  simp only [RepB, Rep] at rx; obtain ⟨rx, _⟩ := rx; subst rx
  obtain ⟨t, rfl⟩ := ru
  have := fin s.heap (s.toks + 1) s.toks fun _ _ e => e
  exact P.repr_of_str (by simpa only [D.py, PyData.shown] using this) (by simpa only [D.py, PyData.shown] using hz)
 | tup ds =>
  simp only [RepB, Rep] at rx
  obtain ⟨a, ys, rfl, _⟩ := rx
  cases ru
  exact repr_of_reads' ra hs (PyData.noDict_hsm (PyData.hasDict_of_canLay _ hl)) hg (by first | decide | omega) (fun _ _ e => e) (fun h' t tk hk => fin h' tk t hk) hz
 | lst ds =>
  obtain ⟨a, ys, rfl, _⟩ := rx
  cases ru
  exact repr_of_reads' ra hs (PyData.noDict_hsm (PyData.hasDict_of_canLay _ hl)) hg (by first | decide | omega) (fun _ _ e => e) (fun h' t tk hk => fin h' tk t hk) hz
 | feed => cases hp
 | scr _ => cases hp
theorem R3 : RCD K (a6a K) (one w9) := rc1 fun g σ H fa O s x d1 d Q I r e k => by
 unfold w9 at e
 by_cases h : M3 d1 = true
 ·rw [if_pos h] at e
  cases e
  refine ⟨_, _, d1, x, rfl, r, h, k _ H StE.refl I ?_⟩
  simp only [Rep]
  unfold M3 at h
  simp only [Bool.and_eq_true, decide_eq_true_eq] at h
  exact ⟨trivial, h.2⟩
 ·rw [if_neg h] at e; cases e
noncomputable def a6W (K : PySem.W.Frag) : List V → Hp → VK → Prop := fun xs H Q => ∃ (a : Addr) (bs : List Bool), xs = [.ref a] ∧ SqL K H a (bs.map V.bl) ∧ Q (.bl (bs.all fun b => b)) H
theorem a4Q : ∀ {bs : List Bool} {us : List Value}, Vals (bs.map V.bl) us → us = bs.map Value.bool
 | [], _, .nil => rfl
 | b :: r, _, .cons q t => by
  cases (show _ = Value.bool b from q)
  rw [a4Q t]
  rfl
theorem a3T (hc : X.calm = true) : CallR X (.builtin "all") (a6W X.K) := by
 intro pins s σ H xs us Q I r h
 obtain ⟨a, bs, rfl, hq, q⟩ := h
 obtain ⟨u, rfl, ru⟩ := S6 r
 cases ru
 obtain ⟨its, rv, p, _⟩ := I.list hq
 have eb := a4Q rv
 subst eb
 refine call_all_walk (wpAny_pyIter_list p.isList ?_)
 have hl : s.heap.IsList a (bs.map Value.bool).toArray := p.isList
 have ha : a < s.heap.objs.size := by obtain ⟨o, e, _⟩ := hl; exact Heap.lt_size e
 refine ⟨s.heap.objs.size, _, _, _, _, _, fun i => (bs[i]?).getD true, rfl, Walks.list (A := X.A.in1) (I.ok.hd hc) s.heap.objs.size a (Nat.ne_of_lt ha) (bs.map Value.bool).toArray, ⟨⟨_, Heap.get?_push_size _ rfl, rfl, rfl⟩, ?_⟩, ?_, fun h' tk hk => ?_⟩
 ·obtain ⟨o, e, c⟩ := hl
  exact ⟨o, Heap.get?_push_of_some _ e, c⟩
 ·intro i v s' Q' E' hv hQ
  have hv' : (bs.map Value.bool)[i]? = some v := by simpa using hv
  rw [List.getElem?_map] at hv'
  cases e : bs[i]? with
  | none => rw [e] at hv'; cases hv'
  | some b =>
   rw [e] at hv'
   cases hv'
   have hQ' : Q' b s' := by simpa [e] using hQ
   exact wpAny_truthy_bool hQ'
 ·have e1 : ((List.range (bs.map Value.bool).toArray.size).all fun i => (bs[i]?).getD true) = bs.all fun b => b := by
   rw [List.size_toArray, List.length_map, Bool.eq_iff_iff, List.all_eq_true, List.all_eq_true]
   constructor
   ·intro h b hb
    obtain ⟨i, hi, e⟩ := List.mem_iff_getElem.mp hb
    have := h i (List.mem_range.mpr hi)
    rw [List.getElem?_eq_getElem hi, e] at this
    exact this
   ·intro h i hi
    rw [List.mem_range] at hi
    rw [List.getElem?_eq_getElem hi]
    exact h _ (List.getElem_mem hi)
  rw [e1]
  refine ⟨.bl _, H, I.kept fun b o e => hk b o ?_ (Heap.get?_push_of_some _ e), rfl, q⟩
  simp only [List.mem_singleton]
  exact Nat.ne_of_lt (Heap.lt_size e)
theorem a6v : ∀ {ds : List D} {c : Bool}, O8 ds = some c → ∃ bs : List Bool, ds = bs.map D.bl ∧ c = bs.all fun b => b
 | [], c, h => by cases h; exact ⟨[], rfl, rfl⟩
 | .bl b :: r, c, h => by
  simp only [O8] at h
  obtain ⟨c', h1, h2⟩ := Option.map_eq_some_iff.mp h
  obtain ⟨bs, e1, e2⟩ := a6v h1
  exact ⟨b :: bs, by rw [e1]; rfl, by rw [← h2, e2]; rfl⟩
 | .non :: r, c, h => by cases h
 | .int _ :: r, c, h => by cases h
 | .str _ :: r, c, h => by cases h
 | .tup _ :: r, c, h => by cases h
 | .lst _ :: r, c, h => by cases h
 | .feed :: r, c, h => by cases h
 | .scr _ :: r, c, h => by cases h
theorem a6h {N : Addr → Prop} {fa : Option Addr} {H : Hp} : ∀ {bs : List Bool} {xs : List V}, Reps K N fa H (bs.map D.bl) xs → xs = bs.map V.bl
 | [], xs, h => by simpa only [List.map_nil, Reps] using h
 | b :: r, xs, h => by
  simp only [List.map_cons, Reps, Rep] at h
  obtain ⟨x, ys, rfl, rfl, h⟩ := h
  rw [a6h h]
  rfl
theorem a3c : RCD K (a6W K) (one M4) := rc1 fun g σ H fa O s x d1 d Q I r e k => by
 cases d1 with
 | lst es =>
  obtain ⟨c, h1, h2⟩ := Option.map_eq_some_iff.mp (show (O8 es).map D.bl = some d from e)
  subst h2
  obtain ⟨bs, rfl, rfl⟩ := a6v h1
  obtain ⟨a, ys, rfl, _, q, w⟩ := r
  have := a6h w
  subst this
  exact ⟨a, bs, rfl, SqL.of q, k _ H StE.refl I (by simp only [Rep])⟩
 | _ => cases e
end
end DL

namespace DL
open PySem PySem.Spec L2

noncomputable def FS.get (key : Str) (f : FS) : Option D :=
 if f.kind = 0 then if key = "cells" then some (.lst (f.cells.map .int)) else if key = "at" then some (.int f.pos) else if key = "left" then some (.int f.left) else if key = "turn" then some (.int f.turn) else none else none
noncomputable def FS.put (key : Str) (n : Int) (f : FS) : Option FS :=
 if f.kind = 0 then if key = "at" then some { f with pos := n } else if key = "left" then some { f with left := n } else if key = "turn" then some { f with turn := n } else none else none
noncomputable def dFG (i : Nat) (key : Str) : DE := fun s => match s.sl[i]? with
 | some (.val .feed) => s.fs.bind fun f => (f.get key).map fun d => (d, s)
 | _ => none
noncomputable def dFP (i : Nat) (key : Str) (fe : DE) : DM := fun s => (fe s).bind fun x => match x.2.sl[i]?, x.1 with
 | some (.val .feed), .int n => x.2.fs.bind fun f => (f.put key n).map fun f' => (.next, { x.2 with fs := some f' })
 | _, _ => none
noncomputable def dFN (i : Nat) : DE := fun s => match s.sl[i]?, s.fs with
 | some (.val (.scr ns)), none => some (.feed, { s with fs := some ⟨ns, 0, 0, 0, 0⟩ })
 | _, _ => none
noncomputable abbrev E3 (c : Addr) (f : FS) : List (Key × V) := [(Sum.inr ("cells" : Str), V.ref c), (Sum.inr ("at" : Str), V.int f.pos), (Sum.inr ("left" : Str), V.int f.left), (Sum.inr ("turn" : Str), V.int f.turn)]
theorem a2L : ¬ (Sum.inr ("cells" : Str) : Key) = Sum.inr ("at" : Str) := by intro h; exact absurd (Sum.inr.inj h) (by decide +kernel)
theorem a4E : ¬ (Sum.inr ("cells" : Str) : Key) = Sum.inr ("left" : Str) := by intro h; exact absurd (Sum.inr.inj h) (by decide +kernel)
theorem a2P : ¬ (Sum.inr ("cells" : Str) : Key) = Sum.inr ("turn" : Str) := by intro h; exact absurd (Sum.inr.inj h) (by decide +kernel)
theorem a1W : ¬ (Sum.inr ("at" : Str) : Key) = Sum.inr ("left" : Str) := by intro h; exact absurd (Sum.inr.inj h) (by decide +kernel)
theorem a1V : ¬ (Sum.inr ("at" : Str) : Key) = Sum.inr ("turn" : Str) := by intro h; exact absurd (Sum.inr.inj h) (by decide +kernel)
theorem a2t : ¬ (Sum.inr ("left" : Str) : Key) = Sum.inr ("turn" : Str) := by intro h; exact absurd (Sum.inr.inj h) (by decide +kernel)
theorem b3b (c : Addr) (f : FS) : C9 (E3 c f) (Sum.inr ("cells" : Str)) = some (.ref c) := U2 rfl
theorem a5r (c : Addr) (f : FS) : C9 (E3 c f) (Sum.inr ("at" : Str)) = some (.int f.pos) := by rw [G3 a2L, U2 rfl]
theorem a52 (c : Addr) (f : FS) : C9 (E3 c f) (Sum.inr ("left" : Str)) = some (.int f.left) := by rw [G3 a4E, G3 a1W, U2 rfl]
theorem a6C (c : Addr) (f : FS) : C9 (E3 c f) (Sum.inr ("turn" : Str)) = some (.int f.turn) := by rw [G3 a2P, G3 a1V, G3 a2t, U2 rfl]
theorem a2G {kvs : List (Key × V)} {k : Key} {v x : V} (h : C9 kvs k = some x) : A6 kvs k v = kvs.map (fun kv => if kv.1 = k then (kv.1, v) else kv) := by
 unfold A6
 rw [if_pos (by rw [a1L, h]; rfl)]
theorem a8S (c : Addr) (f : FS) (n : Int) : A6 (E3 c f) (Sum.inr ("at" : Str)) (.int n) = E3 c { f with pos := n } := by
 rw [a2G (a5r c f)]
 simp only [List.map_cons, List.map_nil, if_neg a2L, if_neg (Ne.symm a1W), if_neg (Ne.symm a1V), if_true]
theorem a8C (c : Addr) (f : FS) (n : Int) : A6 (E3 c f) (Sum.inr ("left" : Str)) (.int n) = E3 c { f with left := n } := by
 rw [a2G (a52 c f)]
 simp only [List.map_cons, List.map_nil, if_neg a4E, if_neg a1W, if_neg (Ne.symm a2t), if_true]
theorem a8J (c : Addr) (f : FS) (n : Int) : A6 (E3 c f) (Sum.inr ("turn" : Str)) (.int n) = E3 c { f with turn := n } := by
 rw [a2G (a6C c f)]
 simp only [List.map_cons, List.map_nil, if_neg a2P, if_neg a1V, if_neg a2t, if_true]
theorem FS.get_val {key : Str} {f : FS} {d : D} (h : f.get key = some d) (c : Addr) : ∃ v, C9 (E3 c f) (Sum.inr key) = some v ∧ ((v = .ref c ∧ d = .lst (f.cells.map .int)) ∨ ∃ i, v = .int i ∧ d = .int i) ∧ f.kind = 0 := by
 unfold FS.get at h
 split at h
 case isFalse => cases h
 rename_i hk
 split at h
 ·rename_i e; subst e; cases h; exact ⟨_, b3b c f, .inl ⟨rfl, rfl⟩, hk⟩
 split at h
 ·rename_i e; subst e; cases h; exact ⟨_, a5r c f, .inr ⟨_, rfl, rfl⟩, hk⟩
 split at h
 ·rename_i e; subst e; cases h; exact ⟨_, a52 c f, .inr ⟨_, rfl, rfl⟩, hk⟩
 split at h
 ·rename_i e; subst e; cases h; exact ⟨_, a6C c f, .inr ⟨_, rfl, rfl⟩, hk⟩
 ·cases h
theorem FS.put_val {key : Str} {f f' : FS} {n : Int} (h : f.put key n = some f') (c : Addr) : A6 (E3 c f) (Sum.inr key) (.int n) = E3 c f' ∧ f'.cells = f.cells ∧ f.kind = 0 ∧ f'.kind = 0 := by
 unfold FS.put at h
 split at h
 case isFalse => cases h
 rename_i hk
 split at h
 ·rename_i e; subst e; cases h; exact ⟨a8S c f n, rfl, hk, hk⟩
 split at h
 ·rename_i e; subst e; cases h; exact ⟨a8C c f n, rfl, hk, hk⟩
 split at h
 ·rename_i e; subst e; cases h; exact ⟨a8J c f n, rfl, hk, hk⟩
 ·cases h
section
variable {X : Cx} {g : Gh} {i : Nat} {x key : Str} {p1 p2 pos pos' : Pos} {j : Nat}
theorem S8 (hu : X.A.units + 1 < cLine) (hv : PE X (.Name x p1) (R4 i)) : EO X g (.Subscript (.Name x p1) (.Constant (.str key) j p2) pos) (dFG i key) :=
 EO.w (b4g hu hv W5 (fun _ _ => rfl)) fun σ H Q hQ__ => by
  obtain ⟨fa, O, s, d, s', I, e, k⟩ := hQ__
  unfold dFG at e
  cases q : s.sl[i]? with
  | none => rw [q] at e; cases e
  | some z =>
   rw [q] at e
   cases z with
   | no => cases e
   | own _ => cases e
   | val dz =>
    cases dz with
    | feed =>
     obtain ⟨f, h1, h2⟩ := Option.bind_eq_some_iff.mp e
     obtain ⟨d', h3, h4⟩ := Option.map_eq_some_iff.mp h2
     cases h4
     obtain ⟨u, e1, r⟩ := SlR.val I.sl q
     simp only [Rep] at r
     obtain ⟨a, ha, rfl⟩ := r
     have fd := I.fd
     rw [h1, ha] at fd
     obtain ⟨_, c, hc, nc, lc⟩ := fd
     obtain ⟨v, hval, hd, hk⟩ := FS.get_val h3 c
     rw [a3j hk] at hc
     refine ⟨_, e1, a, v, rfl, ?_, k v H fa O StE.refl I ?_⟩
     ·have := DGet.k (k := Sum.inr key) hc
      rw [hval] at this
      exact this
     ·rcases hd with ⟨rfl, rfl⟩ | ⟨n, rfl, rfl⟩
      ·simp only [Rep]
       exact ⟨c, _, rfl, by rw [ha]; exact nc, lc, Reps.ints⟩
      ·simp only [Rep]
    | _ => cases e
theorem a1p {e : Expr} {fe : DE} (hu : X.A.units + 1 < cLine) (hv : PE X (.Name x p1) (R4 i)) (he : EO X g e fe) (hs : swapsWith e (some (.Subscript (.Name x p1) (.Constant (.str key) j p2) pos')) pos.line X.env = pure false := by rfl) :
  SO X g (.Assign [.Subscript (.Name x p1) (.Constant (.str key) j p2) pos'] e pos) (dFP i key fe) :=
 SO.w (b1j hu hv W5 he.pe hs) fun E σ H hQ__ => by
  obtain ⟨fa, O, s, fl, s', I, q, k⟩ := hQ__
  obtain ⟨⟨d, s1⟩, h1, h2⟩ := Option.bind_eq_some_iff.mp q
  simp only [] at h2
  cases q1 : s1.sl[i]? with
  | none => rw [q1] at h2; cases h2
  | some z =>
   rw [q1] at h2
   cases z with
   | no => cases h2
   | own _ => cases h2
   | val dz =>
    cases dz with
    | feed =>
     cases d with
     | int n =>
      simp only [] at h2
      obtain ⟨f, h3, h4⟩ := Option.bind_eq_some_iff.mp h2
      obtain ⟨f', h5, h6⟩ := Option.map_eq_some_iff.mp h4
      cases h6
      refine ⟨fa, O, s, .int n, s1, I, h1, fun v H1 f1 O1 a1 I1 r => ?_⟩
      simp only [Rep] at r
      subst r
      obtain ⟨u, e1, ru⟩ := SlR.val I1.sl q1
      simp only [Rep] at ru
      obtain ⟨a, ha, rfl⟩ := ru
      have fd := I1.fd
      rw [h3, ha] at fd
      obtain ⟨lc63, c, hc, nc, lc⟩ := fd
      obtain ⟨hput, hcell, hk, hk'⟩ := FS.put_val h5 c
      rw [a3j hk] at hc
      have hp := DPut.k (k := Sum.inr key) (v := .int n) hc (by show 4 < sizeLine; decide)
      rw [hput] at hp
      refine ⟨_, e1, a, _, rfl, hp, ?_⟩
      have a2 : StE f1 O1 H1 f1 O1 (upd H1 a (.dK (E3 c f'))) := ⟨fun _ h => h, .inl rfl, fun b w e nb => by rw [u5 (fun z => nb (by rw [z]; exact ha))]; exact e, fun b z => by
       by_cases hb : b = a
       ·subst hb; rw [B8] at z; cases z
       ·rw [u5 hb] at z; exact z⟩
      have cr := I1.car a2.stp
      refine k σ _ f1 O1 (a1.stp.trans a2.stp) ⟨I1.nd, SlR.go cr (fun b xs hb e => a2.same b _ e fun z => I1.nf b z hb) I1.sl, I1.fr, ?_, I1.tr, I1.ff, ?_, I1.nf⟩
      ·refine ⟨fun b hb => (by cases hb), I1.st.fe, fun b w e _ nb => ?_, fun b z => I1.st.mon b (a2.mon b z)⟩
       refine a2.same b w (I1.st.same b w e (by simp) nb) fun z => ?_
       rcases I1.st.fe with y | ⟨y, y2⟩
       ·rw [y] at z; exact nb z
       ·rw [y2 b z] at e; cases e
      ·rw [ha]
       refine ⟨by rw [hcell]; exact lc63, c, by rw [a3j hk', B8], nc, ?_⟩
       rw [u5 (fun z => by rw [z, hc] at lc; cases lc), hcell]
       exact lc
     | _ => cases h2
    | _ => cases h2
theorem a80 (xs : List V) (h : xs.length ≤ 63) : K6 xs none (some 63) = xs := by
 unfold K6
 have e1 : HT.sIx xs.length 0 none = 0 := rfl
 have e2 : HT.sIx xs.length xs.length (some 63) = xs.length := by
  have := HT.sIx_nat xs.length xs.length 63
  rw [show ((63 : Nat) : Int) = 63 from rfl] at this
  rw [this]; omega
 rw [e1, e2, List.drop_zero, Nat.sub_zero, List.take_length]
theorem b0Q (q : Addr) : a0s [] [(Sum.inr ("cells" : Str), V.ref q), (Sum.inr ("at" : Str), V.int 0), (Sum.inr ("left" : Str), V.int 0), (Sum.inr ("turn" : Str), V.int 0)] = E3 q ⟨[], 0, 0, 0, 0⟩ := by
 show A6 (A6 (A6 (A6 ([] : List (Key × V)) (Sum.inr ("cells" : Str)) (V.ref q)) (Sum.inr ("at" : Str)) (V.int 0)) (Sum.inr ("left" : Str)) (V.int 0)) (Sum.inr ("turn" : Str)) (V.int 0) = _
 have e1 : A6 ([] : List (Key × V)) (Sum.inr ("cells" : Str)) (V.ref q) = [(Sum.inr ("cells" : Str), V.ref q)] := a2i _ a2k
 have e2 : A6 ([(Sum.inr ("cells" : Str), V.ref q)] : List (Key × V)) (Sum.inr ("at" : Str)) (V.int 0) = [(Sum.inr ("cells" : Str), V.ref q), (Sum.inr ("at" : Str), V.int 0)] := a2i _ (by rw [G3 a2L, a2k])
 have e3 : A6 ([(Sum.inr ("cells" : Str), V.ref q), (Sum.inr ("at" : Str), V.int 0)] : List (Key × V)) (Sum.inr ("left" : Str)) (V.int 0) = [(Sum.inr ("cells" : Str), V.ref q), (Sum.inr ("at" : Str), V.int 0), (Sum.inr ("left" : Str), V.int 0)] := a2i _ (by rw [G3 a4E, G3 a1W, a2k])
 rw [e1, e2, e3]
 exact a2i _ (by rw [G3 a2P, G3 a1V, G3 a2t, a2k])
theorem b0V {k1 k2 k3 k4 j63 j0 j1 j2 : Nat} {q1 q2 q3 q4 q5 q6 q7 q8 q9 q10 : Pos} (hv : PE X (.Name x p1) (R4 i)) :
  EO X g (.Dict [some (.Constant (.str ("cells" : Str)) k1 q1), some (.Constant (.str ("at" : Str)) k2 q2), some (.Constant (.str ("left" : Str)) k3 q3), some (.Constant (.str ("turn" : Str)) k4 q4)]
   [.Subscript (.Name x p1) (.Slice none (some (.Constant (.int 63) j63 q5)) none q6) q7, .Constant (.int 0) j0 q8, .Constant (.int 0) j1 q9, .Constant (.int 0) j2 q10] pos) (dFN i) :=
 EO.w (a8q (a1h W5 (a6Y a6m hv a6I (a7a a0Y)) (a1h W5 a0Y (a1h W5 a0Y (a1h W5 a0Y a8F)))) rfl rfl (by simp) (by show 4 ≤ 15; decide)) fun σ H Q hQ__ => by
  obtain ⟨fa, O, s, d, s', I, e, k⟩ := hQ__
  unfold dFN at e
  cases q : s.sl[i]? with
  | none => rw [q] at e; cases e
  | some z =>
   rw [q] at e
   cases z with
   | no => cases e
   | own _ => cases e
   | val dz =>
    cases dz with
    | scr ns =>
     cases hf : s.fs with
     | some f => rw [hf] at e; cases e
     | none =>
      rw [hf] at e
      cases e
      obtain ⟨u, e1, r⟩ := SlR.val I.sl q
      simp only [Rep] at r
      obtain ⟨l63, a, rfl, sq⟩ := r
      have fd := I.fd
      rw [hf] at fd
      have fan : fa = none := by cases fa with | none => rfl | some _ => exact fd.elim
      subst fan
      intro p hp
      have sq1 : SqF X.K (upd H p (.dK [])) a (ns.map V.int) := by
       rcases sq with ⟨o, sq⟩ | sq
       ·exact .inl ⟨o, by rw [u5 (K4 sq hp)]; exact sq⟩
       ·exact .inr sq
      refine ⟨_, e1, 63, rfl, a, _, rfl, sq1.sq, fun c hc => ?_⟩
      rw [a80 _ (by rw [List.length_map]; exact l63)]
      have npc : c ≠ p := fun z => by rw [z, B8] at hc; cases hc
      have hcH : H c = none := by rw [u5 npc] at hc; exact hc
      refine ⟨by rw [u5 (Ne.symm npc), B8], [(Sum.inr ("cells" : Str), V.ref c), (Sum.inr ("at" : Str), V.int 0), (Sum.inr ("left" : Str), V.int 0), (Sum.inr ("turn" : Str), V.int 0)], rfl, by show 4 ≤ 15; decide, ?_⟩
      rw [b0Q]
      have fresh : ∀ b u, H b = some u → b ≠ p ∧ b ≠ c := fun b u e => ⟨K4 e hp, K4 e hcH⟩
      have a2 : StE none O H (some p) O (upd (upd (upd H p (.dK [])) c (.lst (ns.map V.int))) p (.dK (E3 c ⟨[], 0, 0, 0, 0⟩))) := by
       refine ⟨fun _ h => h, .inr ⟨rfl, fun b z => by cases z; exact hp⟩, fun b u e _ => ?_, fun b z => ?_⟩
       ·obtain ⟨n1, n2⟩ := fresh b u e
        rw [u5 n1, u5 n2, u5 n1]; exact e
       ·by_cases h1 : b = p
        ·subst h1; exact hp
        ·by_cases h2 : b = c
         ·subst h2; exact hcH
         ·rw [u5 h1, u5 h2, u5 h1] at z; exact z
      have cr := I.car a2.stp
      refine k _ _ (some p) O a2 ⟨I.nd, SlR.go cr (fun b xs hb e => a2.same b _ e (by simp)) I.sl, I.fr, I.st.trans ⟨fun b hb => (by cases hb), a2.fe, fun b u e _ n => a2.same b u e n, a2.mon⟩, I.tr, I.ff, ?_, I.nf_step a2.fe⟩ (by simp only [Rep]; exact ⟨p, rfl, rfl⟩)
      refine ⟨l63, c, B8, ?_, ?_⟩
      ·rintro (z | z | z)
       ·exact I.trF z hcH
       ·obtain ⟨xs, e⟩ := I.owned z
        rw [hcH] at e; cases e
       ·exact npc (Option.some.inj z).symm
      ·rw [u5 npc, B8]
    | _ => cases e
end
end DL
namespace DL
open PySem PySem.Spec L2
section
variable {X : Cx} {g : Gh} {i : Nat} {x : Str} {n : Int} {p1 p2 pos pos' : Pos} {j : Nat}
end
end DL

namespace DL
open PySem PySem.Spec L2

structure Cal (P : Program) (w : World) (K : PySem.W.Frag) (mg : Str → Option Value) (base : Heap) (k : Nat) (x : Str) (ps : List Str) (m : DFn) : Prop where
 ex : ∃ (f : Addr) (fd : FuncData), FnD P w K mg base k f fd ps m ∧ mg x = some (.ref f) ∧ PySem.W.keepIn K (.ref f) = true ∧ Binds K fd ps []
structure Blt (mg : Str → Option Value) : Prop where
 len : mg "len" = none
 range : mg "range" = none
 abs : mg "abs" = none
 tuple : mg "tuple" = none
 list : mg "list" = none
 int : mg "int" = none
 bool : mg "bool" = none
 str : mg "str" = none
 repr : mg "repr" = none
 all : mg "all" = none
 isinstance : mg "isinstance" = none
 zip : mg "zip" = none
 enumerate : mg "enumerate" = none
 min : mg "min" = none
 max : mg "max" = none
 reversed : mg "reversed" = none
 any : mg "any" = none
 sum : mg "sum" = none
 sorted : mg "sorted" = none
section
variable {X : Cx} {g : Gh} {k : Nat} {ps : List Str} {m : DFn} {x : Str} {p pos : Pos} {e : Expr} {es : List Expr} {t : DA}
theorem i8 (C : Cal X.prog X.w X.K X.mg X.base k x ps m) (k' : Nat) (hr : Room k' X.A) (hk : k ≤ k') (hg : Gl X x)
  (ha : AO X g (e :: es) t) (hn : ∀ s ds s', t s = some (ds, s') → ds.length = ps.length) (hdb : (x == ("__debug__" : Str)) = false := by decide) (he : starEach (e :: es) X.env = (false, eval e X.env) :: starEach es X.env := by rfl) (hpl : (backTo pos (starEach es X.env)).any (·.1) = false := by rfl) :
  EO X g (.Call (.Name x p) (e :: es) [] pos) (d5 m t) := by
 obtain ⟨f, fd, F, hm, hkp, hb⟩ := C.ex
 exact b2o F (hr.mono hk) hg hm hkp hb ha hn hdb he hpl
end
theorem v8 {P : Program} {w : World} {K : PySem.W.Frag} {mg : Str → Option Value} {base : Heap} {x : Str} {st : Stmt} {f : Addr} {fd : FuncData} {N ps : List Str} {k : Nat} {b : DM} (F : Fun K x x st f fd) (hm : mg x = some (.ref f)) (hb : Binds K fd ps []) (S : FnScope N ps (j8 st))
  (hbody : ∀ (cdv : Value) (A : Around) (outer : List Env) (s : Shared) (H : Hp) (E : XK) (g : Gh), Room k (A.deeper (PyProof.Rows.envOfC x (j8 st) s.heap.objs.size f cdv)) → SSO (Q6 CX0 P w K mg base N x (j8 st) f cdv A outer s H E).nox g (u9 st) b) :
  Cal P w K mg base (k + 1) x ps (mFn N.length b) := ⟨f, fd, a6Q F S hbody, hm, F.kp, hb⟩
theorem u64 {A : Around} {k : Nat} (hr : Room k A) : A.units + 64 < cLine := by have := hr.un; omega
theorem u66 {A : Around} {k : Nat} (hr : Room k A) : A.units + 66 < cLine := by have := hr.un; omega
theorem S9 : bootBuiltins ("len" : Str) = some (.builtin "len") := by decide +kernel
theorem a1D : bootBuiltins ("abs" : Str) = some (.builtin "abs") := by decide +kernel
theorem Q0 : bootBuiltins ("repr" : Str) = some (.builtin "repr") := by decide +kernel
theorem a4N : bootBuiltins ("all" : Str) = some (.builtin "all") := by decide +kernel
theorem b1N : bootBuiltins ("isinstance" : Str) = some (.builtin "isinstance") := by decide +kernel
theorem L7 : bootBuiltins ("tuple" : Str) = some (.type "tuple") := by decide +kernel
theorem a5p : bootBuiltins ("int" : Str) = some (.type "int") := by decide +kernel
theorem a6f : bootBuiltins ("bool" : Str) = some (.type "bool") := by decide +kernel
theorem a2d {κ : Type} [BEq κ] [LawfulBEq κ] {β : Type} : ∀ {l : List (κ × β)} {x : κ} {v : β}, l.lookup x = some v → (x, v) ∈ l
 | [], _, _, h => by simp at h
 | (a, b) :: r, x, v, h => by
  rw [List.lookup_cons] at h
  cases e : x == a with
  | true =>
   rw [e] at h
   cases h
   rw [eq_of_beq e]
   exact List.mem_cons_self ..
  | false =>
   rw [e] at h
   exact List.mem_cons_of_mem _ (a2d h)
noncomputable def hasAll (names : List (Str × NameKind)) (cl : List (Str × Addr)) : Bool := names.all fun p => !(p.2 == .cell || p.2 == .free) || (cl.lookup p.1).isSome
theorem a5K {names : List (Str × NameKind)} {cl : List (Str × Addr)} (h : hasAll names cl = true) : ∀ x, (names.lookup x = some .cell ∨ names.lookup x = some .free) → ∃ c, cl.lookup x = some c := fun x hx => by
 have key : ∀ kd, names.lookup x = some kd → (kd == NameKind.cell || kd == NameKind.free) = true → ∃ c, cl.lookup x = some c := fun kd e q => by
  have m := a2d e
  have z := List.all_eq_true.mp h _ m
  simp only [q, Bool.not_true, Bool.false_or] at z
  exact Option.isSome_iff_exists.mp z
 rcases hx with e | e
 ·exact key _ e rfl
 ·exact key _ e rfl
inductive CapL (X : Cx) (scope : Scope) : List Nat → List Str → Prop where
 | nil : CapL X scope [] []
 | cons {i : Nat} {y : Str} {r : List Nat} {ys : List Str} (h1 : X.N[i]? = some y) (h2 : X.env.scope.names.lookup y = some .cell ∨ X.env.scope.names.lookup y = some .free)
   (h3 : (relabel scope X.env).names.lookup y = some .cell ∨ (relabel scope X.env).names.lookup y = some .free) (t : CapL X scope r ys) : CapL X scope (i :: r) (y :: ys)
theorem CapL.len {X : Cx} {scope : Scope} : ∀ {idx : List Nat} {ys : List Str}, CapL X scope idx ys → ys.length = idx.length
 | _, _, .nil => rfl
 | _, _, .cons _ _ _ t => by simp [CapL.len t]
theorem CapL.at {X : Cx} {scope : Scope} : ∀ {idx : List Nat} {ys : List Str}, CapL X scope idx ys → ∀ (j i : Nat) (y : Str), idx[j]? = some i → ys[j]? = some y →
  X.N[i]? = some y ∧ (X.env.scope.names.lookup y = some .cell ∨ X.env.scope.names.lookup y = some .free) ∧ ((relabel scope X.env).names.lookup y = some .cell ∨ (relabel scope X.env).names.lookup y = some .free)
 | _, _, .nil, j, i, y, h, _ => by simp at h
 | _, _, .cons h1 h2 h3 t, 0, i, y, e1, e2 => by
  simp at e1 e2
  subst e1; subst e2
  exact ⟨h1, h2, h3⟩
 | _, _, .cons _ _ _ t, j + 1, i, y, e1, e2 => t.at j i y (by simpa using e1) (by simpa using e2)
inductive SubL (cells : List (Str × Addr)) : List (Str × Addr) → Prop where
 | nil : SubL cells []
 | cons {x : Str} {c : Addr} {r : List (Str × Addr)} (h : cells.lookup x = some c) (t : SubL cells r) : SubL cells ((x, c) :: r)
theorem SubL.mem {cells : List (Str × Addr)} : ∀ {cl : List (Str × Addr)}, SubL cells cl → ∀ x c, (x, c) ∈ cl → cells.lookup x = some c
 | _, .nil, x, c, h => by cases h
 | _, .cons e t, x, c, h => by
  rcases List.mem_cons.mp h with z | z
  ·cases z; exact e
  ·exact t.mem x c z
theorem T3 {X : Cx} {scope : Scope} {cl : List (Str × Addr)} {x : Str} {caps : List Str} {idx : List Nat} (clos : closureFor scope X.env = pure cl) (sub : SubL X.env.cells cl) (cell : ∀ y ∈ scope.names, y.2 ≠ .cell) (kind : scope.kind = .function)
  (names : ∀ y ∈ scope.names, y.2 = .local → scope.names.lookup y.1 = some .local) (has : hasAll (relabel scope X.env).names cl = true) (cap : CapL X scope idx caps) : CompOk X scope cl (x :: caps) 1 idx :=
 ⟨clos, fun y c e => sub.mem y c (a2d e), cell, kind, names, a5K has, by rw [List.length_cons, cap.len, Nat.add_comm], fun j i y e1 e2 => cap.at j i y e1 (by rw [Nat.add_comm] at e2; simpa using e2)⟩
noncomputable def p9 (i j : Nat) (f : DA) : DM := fun s => (f s).bind fun x => match x.1 with
 | [a, b] => some (.next, { x.2 with sl := (x.2.sl.set i (.val a)).set j (.val b) })
 | _ => none
section
variable {X : Cx} {g : Gh}
theorem a3K {i j : Nat} {x y : Str} {a b : Expr} {f : DA} {px py pt pos : Pos} {kt k2 pt2} (hc : X.calm = true) (hN : X.N.Nodup) (hi : X.N[i]? = some x) (hj : X.N[j]? = some y) (hij : i ≠ j)
  (hx : X.env.scope.names.lookup x = some .local) (hy : X.env.scope.names.lookup y = some .local) (ha : AO X g [a, b] f)
  (hw : swappedStores [.Tuple [.Name x px, .Name y py] kt pt] (.Tuple [a, b] k2 pt2) X.env = pure (some [x, y]))
  (hs : swapsWithSole [.Tuple [.Name x px, .Name y py] kt pt] (.Tuple [a, b] k2 pt2) pos.line X.env = pure false := by rfl) :
  SO X g (.Assign [.Tuple [.Name x px, .Name y py] kt pt] (.Tuple [a, b] k2 pt2) pos) (p9 i j f) := SO.w (b03 hc hN hi hj hij hx hy ha.pe hw hs) fun E σ H hQ__ => by
 obtain ⟨fa, O, s, fl, s', I, q, k⟩ := hQ__
 obtain ⟨⟨ds, s1⟩, h1, h2⟩ := Option.bind_eq_some_iff.mp q
 refine ⟨fa, O, s, ds, s1, I, h1, fun vs H1 f1 O1 a1 I1 r => ?_⟩
 match ds, h2, r with
 | [d1, d2], h2, r =>
  simp only [Option.some.injEq, Prod.mk.injEq] at h2
  obtain ⟨e1, e2⟩ := h2
  subst e1; subst e2
  simp only [Reps] at r
  obtain ⟨v, ys, rfl, rv, u, zs, rfl, ru, rfl⟩ := r
  refine ⟨v, u, rfl, ?_⟩
  obtain ⟨P, sub, I2⟩ := I1.put i rv
  have a2 : StE f1 O1 H1 f1 P H1 := a2q sub
  obtain ⟨P3, sub3, I3⟩ := I2.put j (Rep.stp I1 a2.stp ru)
  exact k _ H1 f1 P3 (a1.stp.trans (a2.stp.trans (a2q sub3).stp)) I3
end
theorem walkD {l : PySem.W.OpenLaw} {q : Program} {loose : List Str} {XP : (Str → Option Value) → Heap → Prop} {YP : World → Heap → Prop} {d : DefRec} {K : Params → PySem.W.Frag} {m : DFn} {k : Nat} (hn : l.most = some 63) (hdf : d.params.defaults = []) (hr : Room k callerA)
  (hY : ∀ (w : World) (h : Heap), YP w h → (K w.params).In h)
  (F : ∀ (w : World) (mg : Str → Option Value) (fa : Addr) (h : Heap), (K w.params).In h → h.Ns mainGlobals mg → mg d.name = some (.ref fa) →
   ∃ fd : FuncData, (∀ (s : Shared) (u : Value), BindsTo s fd ⟨[u], []⟩ [("_law_script", u)]) ∧ ∀ base : Heap, (K w.params).In base → base.Ns mainGlobals mg → FnOk l.prog w (K w.params) mg base CX0 k fa fd ["_law_script"] (spD (K w.params) 1 m))
  (math : ∀ ns : List Int, ns.length ≤ 63 → ∃ fs', m [.scr ns] none = some (.bl true, fs')) :
  PySem.W.WalkO q loose XP YP l.row.toRowW d [] (fun f vs => PySem.call f vs) :=
 L2.walk_of (n := 63) (k := k) (x := "_law_script") (CX := fun _ => CX0) (sp := fun w => spD (K w.params) 1 m) hn (by decide) hdf hr hY F (fun w H a ns hl hO hS => by
  obtain ⟨fs', e⟩ := math ns hl
  refine ⟨fun _ => False, none, [.scr ns], none, .bl true, fs', fun b z => z.elim, fun a z => (by cases z), ?_, trivial, e, rfl, fun v H' fa' _ _ r => by simpa only [Rep] using r⟩
  simp only [Reps, Rep]
  refine ⟨_, _, rfl, ⟨hl, a, rfl, ?_⟩, rfl⟩
  rcases hS with (z | ⟨o, z⟩) | z
  ·rcases hO a with y | ⟨o, xs, y⟩ <;> · rw [z] at y; cases y
  ·exact .inl ⟨o, z⟩
  ·exact .inr z) fun _ _ _ _ _ z => z
end DL

namespace DL
open PySem PySem.Spec L2
noncomputable def tyN : D → Option String
 | .non => some "NoneType"
 | .bl _ => some "bool"
 | .int _ => some "int"
 | .str _ => some "str"
 | .tup _ => some "tuple"
 | .lst _ => some "list"
 | _ => none
noncomputable def E6 (T C : String) : Bool := T == C || (T == "bool" && C == "int")
noncomputable def M0 (C : String) (d : D) : Option D := (tyN d).map fun T => .bl (E6 T C)
noncomputable def Kit (K : PySem.W.Frag) (C : String) : Prop := ∀ T, T = "NoneType" ∨ T = "bool" ∨ T = "int" ∨ T = "str" ∨ T = "tuple" ∨ T = "list" → PySem.W.kitOne K (.type T) (.type C) = some (E6 T C)
theorem a8g {K : PySem.W.Frag} : Kit K "int" := by rintro T (rfl | rfl | rfl | rfl | rfl | rfl) <;> rfl
theorem a5a {K : PySem.W.Frag} : Kit K "bool" := by rintro T (rfl | rfl | rfl | rfl | rfl | rfl) <;> rfl
theorem a2N {K : PySem.W.Frag} : Kit K "tuple" := by rintro T (rfl | rfl | rfl | rfl | rfl | rfl) <;> rfl
noncomputable def a83 (K : PySem.W.Frag) (C : String) : List V → Hp → VK → Prop := fun xs H Q => ∃ N fa d T x, xs = [x, .ty C] ∧ RepB K N fa H d x ∧ tyN d = some T ∧ Q (.bl (E6 T C)) H
theorem b3Q {X : Cx} {C : String} (hk : Kit X.K C) : CallR X (.builtin "isinstance") (a83 X.K C) := by
 intro pins s σ H xs us Q I r h
 obtain ⟨N, fa, d, T, x, rfl, rx, hT, q⟩ := h
 obtain ⟨u, c, rfl, ru, rc⟩ := a8G r
 cases (show c = Value.type C from rc)
 have fin : ∀ tk, EP X pins σ Q (.bool (E6 T C)) { s with toks := tk } := fun tk => ⟨.bl (E6 T C), H, I.tok tk, rfl, q⟩
 cases d with
 | non =>
  cases hT
  simp only [RepB, Rep] at rx; subst rx; cases ru
  exact PySem.W.kia_one PySem.W.kitx_none I.kIn True.intro (hk _ (by simp)) (fun z => nomatch z) fin
 | bl b =>
  cases hT
  simp only [RepB, Rep] at rx; subst rx; cases ru
  exact PySem.W.kia_one PySem.W.kitx_bool I.kIn True.intro (hk _ (by simp)) (fun z => nomatch z) fin
 | int i =>
  cases hT
  simp only [RepB, Rep] at rx; subst rx; obtain ⟨t, rfl⟩ := ru
  exact PySem.W.kia_one PySem.W.kitx_int I.kIn True.intro (hk _ (by simp)) (fun z => nomatch z) fin
 | str i =>
  cases hT
  simp only [RepB, Rep] at rx; obtain ⟨rx, _⟩ := rx; subst rx; obtain ⟨t, rfl⟩ := ru
  exact PySem.W.kia_one PySem.W.kitx_str I.kIn True.intro (hk _ (by simp)) (fun z => nomatch z) fin
 | tup ds =>
  cases hT
  simp only [RepB, Rep] at rx
  obtain ⟨a, ys, rfl, sq, _⟩ := rx
  cases ru
  obtain ⟨its, _, ⟨o, h1, h2, _⟩, _⟩ := I.tuple sq
  exact PySem.W.kia_one PySem.W.kitx_tuple I.kIn ⟨o, h1, h2⟩ (hk _ (by simp)) (fun z => nomatch z) fin
 | lst ds =>
  cases hT
  obtain ⟨a, ys, rfl, _, sq, _⟩ := rx
  cases ru
  obtain ⟨its, _, ⟨o, n, h1, h2, _⟩, _⟩ := I.list (SqL.of sq)
  exact PySem.W.kia_one PySem.W.kitx_list I.kIn ⟨o, h1, h2⟩ (hk _ (by simp)) (fun z => nomatch z) fin
 | feed => cases hT
 | scr _ => cases hT
section
variable {X : Cx} {g : Gh} {a b c : Expr} {fa fb fc : DE} {pos : Pos}
theorem X8 {cn : Str} {C : String} {p p2 : Pos} (hk : Kit X.K C) (hg : Gl X "isinstance") (hm : X.mg "isinstance" = none) (hgc : Gl X cn) (hmc : X.mg cn = none) (hvc : bootBuiltins cn = some (.type C)) (ha : BO X g a fa)
  (hn : cn ≠ "__name__" := by decide) (hd : (cn == ("__debug__" : Str)) = false := by decide) (hs1 : starEach [.Name cn p2] X.env = (false, eval (.Name cn p2) X.env) :: starEach [] X.env := by rfl)
  (he : starEach [a, .Name cn p2] X.env = (false, eval a X.env) :: starEach [.Name cn p2] X.env := by rfl) (hpl : (backTo pos (starEach [.Name cn p2] X.env)).any (·.1) = false := by rfl) :
  EO X g (.Call (.Name "isinstance" p) [a, .Name cn p2] [] pos) (dUn (M0 C) fa) :=
 EO.w (a5H (b3Q hk) hg hm b1N (a0X ha.pe (a0X (a8Z (v := .ty C) hgc hmc hvc rfl hn hd) a2h hs1) he) (by decide) (by decide) he hpl) fun σ H Q hQ__ => by
  obtain ⟨f0, O, s, d, s', I, e, k⟩ := hQ__
  obtain ⟨⟨x, s1⟩, h1, h⟩ := Option.bind_eq_some_iff.mp e
  obtain ⟨d', h3, h⟩ := Option.map_eq_some_iff.mp h
  simp only [Prod.mk.injEq] at h
  obtain ⟨e1, e2⟩ := h
  subst e1; subst e2
  obtain ⟨T, h4, h5⟩ := Option.map_eq_some_iff.mp h3
  subst h5
  exact ⟨f0, O, s, x, s1, I, h1, fun v H1 f1 O1 a1 I1 r1 => ⟨_, _, x, T, v, rfl, r1, h4, k _ H1 f1 O1 a1 I1 (by simp only [Rep])⟩⟩
noncomputable abbrev DO := DS → Option (Option Int × DS)
noncomputable def a5J (K : PySem.W.Frag) (g : Gh) (f : DO) : L2.TO := fun σ H Q => ∃ fa O s d s', GI K g σ H fa O s ∧ f s = some (d, s') ∧ ∀ H' fa' O', StE fa O H fa' O' H' → GI K g σ H' fa' O' s' → Q d H'
structure OO (X : Cx) (g : Gh) (e : Option Expr) (f : DO) : Prop where
 pe : PO X e (a5J X.K g f)
noncomputable def dNo : DO := fun s => some (none, s)
noncomputable def dAt (f : DE) : DO := fun s => (f s).bind fun x => match x.1 with | .int i => some (some i, x.2) | _ => none
theorem POw {e : Option Expr} {t t' : L2.TO} (h : PO X e t) (w : ∀ σ H Q, t' σ H Q → t σ H Q) : PO X e t' := fun pins s σ H Q I q => h pins s σ H Q I (w σ H Q q)
theorem OO.w {e : Option Expr} {f : DO} {t : L2.TO} (h : PO X e t) (w : ∀ σ H Q, a5J X.K g f σ H Q → t σ H Q) : OO X g e f := ⟨POw h w⟩
theorem a2a : OO X g none dNo := OO.w a6I fun σ H Q hQ__ => by
 obtain ⟨f0, O, s, d, s', I, e, k⟩ := hQ__
 cases e
 exact k H f0 O StE.refl I
theorem a1t (h : BO X g a fa) : OO X g (some a) (dAt fa) := OO.w (a7a h.pe) fun σ H Q hQ__ => by
 obtain ⟨f0, O, s, d, s', I, e, k⟩ := hQ__
 obtain ⟨⟨x, s1⟩, h1, e⟩ := Option.bind_eq_some_iff.mp e
 cases x with
 | int i =>
  simp only [Option.some.injEq, Prod.mk.injEq] at e
  obtain ⟨e1, e2⟩ := e
  subst e1; subst e2
  exact ⟨f0, O, s, .int i, s1, I, h1, fun v H1 f1 O1 a1 I1 r1 => ⟨i, by simpa only [RepB, Rep] using r1, k H1 f1 O1 a1 I1⟩⟩
 | _ => cases e
noncomputable def J8 (xs : List D) (lo hi : Option Int) : List D := (xs.drop (HT.sIx xs.length 0 lo)).take (HT.sIx xs.length xs.length hi - HT.sIx xs.length 0 lo)
theorem a4u {K : PySem.W.Frag} {N : Addr → Prop} {fa : Option Addr} {H : Hp} {ds : List D} {xs : List V} (r : Reps K N fa H ds xs) (lo hi : Option Int) : Reps K N fa H (J8 ds lo hi) (K6 xs lo hi) := by
 unfold J8 K6
 rw [r.length]
 exact (r.drop _).take _
end
end DL

namespace HT2
open PySem PyProof.Rows HT
section
variable {prog : Program} {w : World} {A : Around} {E : Value → Shared → Prop} {s : Shared}
theorem getItem_tuple_whole {t sl : Addr} {items : Array Value} {vl vu : Value} {lo hi : Option Int} {Q : Value → Shared → Prop} (ht : IsTup s.heap t items) (hs : s.heap.IsSliceOf sl vl vu .none) (pl : IsPart vl lo) (pu : IsPart vu hi)
  (hw : sIx items.size 0 lo = 0 ∧ sIx items.size items.size hi = items.size) (h : Q (.ref t) s) : wpAny (model prog w) A (getItem (.ref t) (.ref sl)) Q E s := by
 obtain ⟨os, hos, hcs, hds⟩ := id hs
 have hTs : s.TypeIs (.ref sl) "slice" := ⟨os, hos, hcs⟩
 unfold getItem
 try with_reducible refine wpAny_holding ?_
 first | refine wpAny_bind (wpAny_pure ?_) | skip
 refine wpAny_bind (wpAny_sequenceKey ht.typeIs (by decide) ?_)
 refine wpAny_bind (wpAny_callSpecial?_slot (name := Str.ofString "__getitem__") ht.typeIs PyProof.Rows.slot_tuple_getitem
  (wpAny_call_entry PyProof.Rows.slot_tuple_getitem ht.typeIs entry_tuple_getitem ?_ (args_tuple_getitem _ _)))
 show wpAny _ _ (Builtin.Tuple.tupleItemsOf (.ref t) >>= _) _ _ s
 refine wpAny_bind (tupleItemsOf_ ht ?_)
 refine wpAny_bind (wpAny_typeOf hTs ?_)
 rw [if_pos (by decide)]
 refine wpAny_bind (a6l hs pl pu ?_)
 have hyes : (((sIx items.size 0 lo : Nat) : Int) == 0 && (1 : Int) == 1 && (sIx items.size items.size hi - sIx items.size 0 lo) == items.size) = true := by
  rw [hw.1, hw.2]; simp
 show wpAny _ _ (if (((sIx items.size 0 lo : Nat) : Int) == 0 && (1 : Int) == 1 && (sIx items.size items.size hi - sIx items.size 0 lo) == items.size) = true then _ else _) _ _ s
 rw [if_pos hyes]
 refine wpAny_bind (m := Builtin.Tuple.tupleIsExact _) (wpAny_bind (wpAny_typeOf ht.typeIs (wpAny_pure ?_)))
 rw [if_pos (by decide)]
 first
  | exact wpAny_bind (wpAny_rule (wpAny_bind (wpAny_pure (wpAny_pure ⟨_, rfl, wpAny_pure h⟩))))
  | exact wpAny_bind (wpAny_rule (wpAny_pure ⟨_, rfl, wpAny_pure h⟩))
  | exact wpAny_bind (wpAny_rule (wpAny_bind (wpAny_pure ⟨_, rfl, wpAny_pure h⟩)))
end
end HT2
namespace DL
open PySem PySem.Spec L2
section
variable {X : Cx} {g : Gh} {a : Expr} {fa : DE} {pos : Pos}
noncomputable def b1H (K : PySem.W.Frag) : V → Option Int → Option Int → Hp → VK → Prop := fun x lo hi H Q => ∃ a xs, x = .ref a ∧ SqT K H a xs ∧ (HT.sIx xs.length 0 lo = 0 ∧ HT.sIx xs.length xs.length hi = xs.length) ∧ Q (.ref a) H
theorem a7Z : L2.SlR X (b1H X.K) := by
 intro pins s σ H x v vl vu lo hi sl Q I rx hs pl pu h
 obtain ⟨a, xs, rfl, hx, hw, q⟩ := h
 cases rx
 obtain ⟨its, r, ht, hz⟩ := I.tuple hx
 have hlen : its.toArray.size = xs.length := by rw [List.size_toArray]; exact r.length.symm
 refine ⟨"tuple", _, PyProof.Rows.slot_tuple_getitem.lookup, ht.typeIs, ?_⟩
 exact HT2.getItem_tuple_whole ht hs pl pu (by rw [hlen]; exact hw) ⟨.ref a, H, I, rfl, q⟩
theorem a70 {xs : List D} {lo hi : Option Int} (h : HT.sIx xs.length 0 lo = 0 ∧ HT.sIx xs.length xs.length hi = xs.length) : J8 xs lo hi = xs := by
 unfold J8
 rw [h.1, h.2, List.drop_zero, Nat.sub_zero, List.take_length]
noncomputable def dSl (f : DE) (lo hi : DO) : DE := fun s => (f s).bind fun x => (lo x.2).bind fun l => (hi l.2).bind fun h => match x.1 with
 | .tup ds => some (.tup (J8 ds l.1 h.1), h.2)
 | .lst ds => some (.lst (J8 ds l.1 h.1), h.2)
 | _ => none
theorem a2u {lo hi : Option Expr} {fl fh : DO} {p2 : Pos} (ha : BO X g a fa) (hl : OO X g lo fl) (hh : OO X g hi fh) : EO X g (.Subscript a (.Slice lo hi none p2) pos) (dSl fa fl fh) :=
 EO.w (a6Y (L2.SlR.or (L2.SlR.or b1s a7Z) a6m) ha.pe hl.pe hh.pe) fun σ H Q hQ__ => by
  obtain ⟨f0, O, s, d, s', I, e, k⟩ := hQ__
  obtain ⟨⟨x, s1⟩, h1, e⟩ := Option.bind_eq_some_iff.mp e
  obtain ⟨⟨l, s2⟩, h2, e⟩ := Option.bind_eq_some_iff.mp e
  obtain ⟨⟨h, s3⟩, h3, e⟩ := Option.bind_eq_some_iff.mp e
  refine ⟨f0, O, s, x, s1, I, h1, fun v H1 f1 O1 a1 I1 r1 => ⟨f1, O1, s1, l, s2, I1, h2, fun H2 f2 O2 a2 I2 => ⟨f2, O2, s2, h, s3, I2, h3, fun H3 f3 O3 a3 I3 => ?_⟩⟩⟩
  have r3 := RepB.stp I2 a3 (RepB.stp I1 a2 r1)
  cases x with
  | lst ds =>
   simp only [Option.some.injEq, Prod.mk.injEq] at e
   obtain ⟨e1, e2⟩ := e
   subst e1; subst e2
   obtain ⟨c, xs, rfl, _, q, w⟩ := r3
   refine .inr ⟨c, xs, rfl, SqL.of q, fun p hp => ?_⟩
   have a4 : StE f3 O3 H3 f3 O3 (upd H3 p (.lst (K6 xs l h))) := E9 hp
   have L := a08 I3 hp (a4u w l h)
   refine k _ _ f3 O3 (a1.trans (a2.trans (a3.trans a4))) L.gi ?_
   simp only [Rep]
   exact ⟨p, _, rfl, a2o I3 a4 L.gi hp L.nf, B8, Reps.stp I3 a4.stp (a4u w l h)⟩
  | tup ds =>
   simp only [Option.some.injEq, Prod.mk.injEq] at e
   obtain ⟨e1, e2⟩ := e
   subst e1; subst e2
   simp only [RepB, Rep] at r3
   obtain ⟨c, xs, rfl, q, w⟩ := r3
   by_cases hw : HT.sIx xs.length 0 l = 0 ∧ HT.sIx xs.length xs.length h = xs.length
   ·refine .inl (.inr ⟨c, xs, rfl, q, hw, k _ H3 f3 O3 (a1.trans (a2.trans a3)) I3 ?_⟩)
    rw [w.length] at hw
    rw [a70 hw]
    simp only [Rep]
    exact ⟨c, xs, rfl, q, w⟩
   ·refine .inl (.inl ⟨c, xs, rfl, q, hw, fun p hp => ?_⟩)
    have a4 : StE f3 O3 H3 f3 O3 (upd H3 p (.tup (K6 xs l h))) := E9 hp
    refine k _ _ f3 O3 (a1.trans (a2.trans (a3.trans a4))) (I3.new hp) ?_
    simp only [Rep]
    exact ⟨p, _, rfl, SqT.of B8, Reps.stp I3 a4.stp (a4u w l h)⟩
  | _ => cases e
end
end DL

namespace HT3
open PySem PyProof.Rows HT
section
variable {prog : Program} {w : World} {A : Around} {E : Value → Shared → Prop} {s : Shared}
end
end HT3
namespace DL
open PySem PySem.Spec L2 PyProof.Rows
section
variable {X : Cx} {g : Gh} {a st : Expr} {fa fs : DE} {pos p2 : Pos}
end
end DL

namespace DL
open PySem PySem.Spec L2
noncomputable def a3D : Expr → Bool
 | .Starred _ _ => false
 | _ => true
theorem a5N {a : Expr} {es : List Expr} {env : Env} (h : a3D a = true) : starEach (a :: es) env = (false, eval a env) :: starEach es env := by
 cases a <;> first | rfl | (cases h)
section
variable {X : Cx} {g : Gh} {a : Expr} {es : List Expr} {fa : DE} {fr : DA}
theorem ac (ha : EO X g a fa) (hr : AO X g es fr) (hs : a3D a = true := by rfl) : AO X g (a :: es) (a0 fa fr) := a4x ha hr (a5N hs)
theorem bc (ha : BO X g a fa) (hr : BAO X g es fr) (hs : a3D a = true := by rfl) : BAO X g (a :: es) (a0 fa fr) := b4b ha hr (a5N hs)
end
end DL

namespace DL
open PySem PySem.Spec L2 PyProof.Rows
noncomputable def inD (x : D) (ds : List D) : Bool := (D.pys ds).any fun y => PyData.eqv y x.py
noncomputable def V5 (f : Bool → Bool) (x c : D) : Option D := match c with
 | .lst ds => if y7 x && y7 (.lst ds) then some (.bl (f (inD x ds))) else none
 | .tup ds => if y7 x && y7 (.tup ds) then some (.bl (f (inD x ds))) else none
 | _ => none
noncomputable def pIn (x c : D) : Option D := V5 id x c
noncomputable def N7 (x c : D) : Option D := V5 not x c
noncomputable def a0E (K : PySem.W.Frag) (f : Bool → Bool) : R2 := fun x y H Q => ∃ N fa d1 d2 ds, RepB K N fa H d1 x ∧ RepB K N fa H d2 y ∧ (d2 = .lst ds ∨ d2 = .tup ds) ∧ y7 d1 = true ∧ y7 d2 = true ∧ Q (.bl (f (inD d1 ds))) H
section
variable {X : Cx} {K : PySem.W.Frag}
theorem a2n {u a b : Nat} (h : u + 64 < cLine) (ha : a + 1 ≤ 64) : u + 1 + min a b < cLine := by
 have : min a b ≤ a := Nat.min_le_left _ _
 omega
theorem b2H (hu : X.A.units + 64 < cLine) : OpR X (compareOp .In) (a0E X.K id) := by
 intro pins s σ H x y v u Q I rx ry h
 obtain ⟨N, fa, d1, d2, ds, r1, r2, hd, o1, o2, q⟩ := h
 unfold y7 at o1 o2
 rw [Bool.and_eq_true] at o1 o2
 obtain ⟨as, h1⟩ := N3 I d1 x v r1.o rx o1.1
 obtain ⟨bs, h2⟩ := N3 I d2 y u r2.o ry o2.1
 have l2 := SeqAt.canLay_of_shaped o2.2
 have dp := SeqAt.depth_of_shaped o2.2
 rcases hd with rfl | rfl
 ·simp only [D.py, PyData.canLay0, PyData.depth] at h2 l2 dp
  exact SeqAt.in_list_reads h2 h1 l2 (SeqAt.canLay_of_shaped o1.2) (a2n hu dp) ⟨.bl _, H, I, rfl, q⟩
 ·simp only [D.py, PyData.canLay0, PyData.depth] at h2 l2 dp
  exact SeqAt.in_tuple_reads h2 h1 l2 (SeqAt.canLay_of_shaped o1.2) (a2n hu dp) ⟨.bl _, H, I, rfl, q⟩
theorem a5i (hu : X.A.units + 64 < cLine) : OpR X (compareOp .NotIn) (a0E X.K not) := by
 intro pins s σ H x y v u Q I rx ry h
 obtain ⟨N, fa, d1, d2, ds, r1, r2, hd, o1, o2, q⟩ := h
 unfold y7 at o1 o2
 rw [Bool.and_eq_true] at o1 o2
 obtain ⟨as, h1⟩ := N3 I d1 x v r1.o rx o1.1
 obtain ⟨bs, h2⟩ := N3 I d2 y u r2.o ry o2.1
 have l2 := SeqAt.canLay_of_shaped o2.2
 have dp := SeqAt.depth_of_shaped o2.2
 rcases hd with rfl | rfl
 ·simp only [D.py, PyData.canLay0, PyData.depth] at h2 l2 dp
  exact SeqAt.notIn_list_reads h2 h1 l2 (SeqAt.canLay_of_shaped o1.2) (a2n hu dp) ⟨.bl _, H, I, rfl, q⟩
 ·simp only [D.py, PyData.canLay0, PyData.depth] at h2 l2 dp
  exact SeqAt.notIn_tuple_reads h2 h1 l2 (SeqAt.canLay_of_shaped o1.2) (a2n hu dp) ⟨.bl _, H, I, rfl, q⟩
theorem b1J {f : Bool → Bool} {x c d : D} (h : V5 f x c = some d) : ∃ ds, (c = .lst ds ∨ c = .tup ds) ∧ y7 x = true ∧ y7 c = true ∧ d = .bl (f (inD x ds)) := by
 unfold V5 at h
 cases c with
 | lst ds =>
  simp only at h
  split at h
  ·rename_i q; rw [Bool.and_eq_true] at q; cases h; exact ⟨ds, .inl rfl, q.1, q.2, rfl⟩
  ·cases h
 | tup ds =>
  simp only at h
  split at h
  ·rename_i q; rw [Bool.and_eq_true] at q; cases h; exact ⟨ds, .inr rfl, q.1, q.2, rfl⟩
  ·cases h
 | _ => cases h
theorem a69 (f : Bool → Bool) : R2D K (a0E K f) (V5 f) := by
 intro g σ H fa O s x y d1 d2 d Q I r1 r2 e k
 obtain ⟨ds, hc, o1, o2, rfl⟩ := b1J e
 exact ⟨_, fa, d1, d2, ds, r1, r2, hc, o1, o2, k _ H StE.refl I (by simp only [Rep])⟩
theorem b2D : R2D K (a0E K id) pIn := a69 id
theorem a6s : R2D K (a0E K not) N7 := a69 not
end
section
variable {K : PySem.W.Frag}
end
end DL

namespace DL
open PySem PySem.Spec L2
noncomputable def a1j (i : Nat) (s : DS) : DS := match s.sl[i]? with
 | some (.own ds) => { s with sl := s.sl.set i (.val (.lst ds)) }
 | _ => s
noncomputable def a0G : List Nat → DS → DS
 | [], s => s
 | i :: r, s => a0G r (a1j i s)
section
variable {K : PySem.W.Frag} {g : Gh} {σ : L2.St} {H : Hp} {fa : Option Addr} {O : List Addr} {s : DS}
theorem b1U (i : Nat) (I : GI K g σ H fa O s) : ∃ P, StE fa O H fa P H ∧ GI K g σ H fa P (a1j i s) := by
 unfold a1j
 cases q : s.sl[i]? with
 | none => exact ⟨O, StE.refl, I⟩
 | some z =>
  cases z with
  | no => exact ⟨O, StE.refl, I⟩
  | val d' => exact ⟨O, StE.refl, I⟩
  | own ds =>
   simp only
   obtain ⟨a, xs, e1, m, e2, r⟩ := SlR.own I.sl q
   let N1 : Addr → Prop := fun b => NN g.F fa O b ∧ b ≠ a
   have c1 : Car K (NN g.F fa O) fa H N1 fa H := ⟨fun b ys n z => ⟨z, fun y => n y.1⟩, fun _ _ z => z, fun _ _ z => z, fun _ z => z⟩
   have S1 := SlR.go c1 (fun _ _ _ z => z) I.sl
   have R1 : Rep K N1 fa H (.lst ds) (.ref a) := by
    simp only [Rep]
    exact ⟨a, xs, rfl, fun z => z.2 rfl, e2, Reps.go c1 ds xs r⟩
   obtain ⟨P, hs, S2, hn⟩ := SlR.put i S1 R1
   have na : a ∉ P := hn I.nd a (by rw [q]; rfl) ⟨ds, q⟩ e1
   have eσ : σ.set i (some (V.ref a)) = σ := by
    apply List.ext_getElem?
    intro j
    by_cases hj : j = i
    ·subst hj
     rw [e1, List.getElem?_set_self (List.getElem?_eq_some_iff.mp e1).1]
    ·rw [List.getElem?_set_ne (Ne.symm hj)]
   rw [eσ] at S2
   have sub : ∀ b ∈ P, b ∈ O := fun b hb => hs.subset hb
   have a1 : StE fa O H fa P H := ⟨sub, .inl rfl, fun _ _ z _ => z, fun _ z => z⟩
   have c2 : Car K N1 fa H (NN g.F fa P) fa H := ⟨fun b ys n z => ⟨z, fun y => n ⟨by
     rcases y with y | y | y
     ·exact .inl y
     ·exact .inr (.inl (sub b y))
     ·exact .inr (.inr y), fun w => by
     subst w
     rcases y with y | y | y
     ·exact I.tr b y (I.fr b m)
     ·exact na y
     ·exact I.nf b y m⟩⟩, fun _ _ z => z, fun _ _ z => z, fun _ z => z⟩
   exact ⟨P, a1, hs.nodup I.nd, SlR.go c2 (fun _ _ _ z => z) S2, fun b hb => I.fr b (sub b hb), I.st, I.tr, I.ff, (I.fd.car c1 fun _ _ => rfl).car c2 fun _ _ => rfl, fun b z y => I.nf b z (sub b y)⟩
theorem a7g : ∀ (is : List Nat) {O : List Addr} {s : DS}, GI K g σ H fa O s → ∃ P, StE fa O H fa P H ∧ GI K g σ H fa P (a0G is s)
 | [], O, s, I => ⟨O, StE.refl, I⟩
 | i :: r, O, s, I => by
  obtain ⟨P, a, I1⟩ := b1U i I
  obtain ⟨P', a', I2⟩ := a7g r I1
  exact ⟨P', a.trans a', I2⟩
end
noncomputable def a1k (is : List Nat) (f : DA) : DA := fun s => f (a0G is s)
theorem b0i {X : Cx} {g : Gh} {e : Expr} {f : DA} (is : List Nat) (h : FO X g e f) : FO X g e (a1k is f) := FO.w h.pe fun σ H Q hQ__ => by
 obtain ⟨fa, O, s, d, s', I, q, k⟩ := hQ__
 obtain ⟨P, a, I1⟩ := a7g is I
 exact ⟨fa, P, a0G is s, d, s', I1, q, fun p xs H' f1 O1 a1 L e1 => k p xs H' f1 O1 (a.trans a1) L e1⟩
end DL

namespace DL
open PySem PySem.Spec L2
noncomputable def mk2 (idx : List Nat) (sl : List Sl) : D → Option (List Sl)
 | .tup [a, b] => some (.val a :: .val b :: C6 idx sl)
 | _ => none
theorem a9M {idx : List Nat} {sl : List Sl} {d : D} {r : List Sl} (h : mk2 idx sl d = some r) : ∃ a b, d = .tup [a, b] ∧ r = .val a :: .val b :: C6 idx sl := by
 cases d with
 | tup ds =>
  match ds, h with
  | [a, b], h => cases h; exact ⟨a, b, rfl, rfl⟩
 | _ => cases h
noncomputable def E1 (idx : List Nat) (fi : DA) (fc : DT) (fe : DE) : DA := fun s => (fi s).bind fun x => if x.1.length ≤ sizeLine then (A9 (mk2 idx x.2.sl) fc fe x.1 x.2.fs).map fun y => (y.1, { x.2 with fs := y.2 }) else none
section
variable {X : Cx} {g : Gh} {scope : Scope} {cl : List (Str × Addr)} {N' : List Str} {idx : List Nat} {iter elt tg : Expr} {ifs : List Expr} {pos : Pos} {fi : DA} {fc : DT} {fe : DE}
theorem a9N {G : TG} (k : CompOk X scope cl N' 2 idx)
  (hG : ∀ (a : Addr) (x y : V) (σ : L2.St) (H : Hp) (Q : L2.St → Hp → Prop), SqT X.K H a [x, y] → Q ((σ.set 0 (some x)).set 1 (some y)) H → G (.ref a) σ H Q) : ∀ σ H Q, a0e X.K g (E1 idx fi fc fe) σ H Q → a1z 2 idx (a0C X.K g fi) G (fun σ H Q => ∃ g', M9 X.K g' fc σ H Q) (fun σ H Q => ∃ g', L3 X.K g' fe σ H Q) σ H Q :=
 a6E (mk := mk2 idx) fun N fa sl d sl0 x σ H Q hm rx hc kk => by
  obtain ⟨da, db, rfl, rfl⟩ := a9M hm
  simp only [Rep, Reps] at rx
  obtain ⟨ad, xs0, rfl, hsq, u, ys0, rfl, ru, w, ys1, rfl, rw', rfl⟩ := rx
  refine hG ad u w _ _ _ hsq (kk _ ⟨by simp, fun j v hj => ?_⟩ ?_)
  ·cases j with
   | zero => simp [C0] at hj
   | succ j =>
    cases j with
    | zero => simp [C0] at hj
    | succ j => rw [List.getElem?_set_ne (by simp), List.getElem?_set_ne (by simp)]; exact hj
  ·have eb : ((C0 2 idx σ).set 0 (some u)).set 1 (some w) = some u :: some w :: idx.map fun i => (σ[i]?).join := by simp [C0]
   rw [eb]
   simp only [SlR]
   exact ⟨u, _, rfl, ru, w, _, rfl, rw', hc⟩
theorem a8r {G : TG} (hc : X.calm = true) (k : CompOk X scope cl N' 2 idx) (hi : IO X g tg iter fi) (hg : ∀ C s0 H0 ex, PG (blk X N' scope cl C s0 H0 ex) tg G)
  (hG : ∀ (a : Addr) (x y : V) (σ : L2.St) (H : Hp) (Q : L2.St → Hp → Prop), SqT X.K H a [x, y] → Q ((σ.set 0 (some x)).set 1 (some y)) H → G (.ref a) σ H Q)
  (ht : ∀ C s0 H0 ex g', a1i (blk X N' scope cl C s0 H0 ex) g' ifs fc) (he : ∀ C s0 H0 ex g', EO (blk X N' scope cl C s0 H0 ex) g' elt fe) (hs : ∀ x, foldedSetIterable iter X.env x = pure x := by intro _; rfl) :
  FO X g (.ListComp elt [⟨tg, iter, ifs, 0⟩] scope pos) (E1 idx fi fc fe) := by
 exact FO.w (a5D (tc := fun σ H Q => ∃ g', M9 X.K g' fc σ H Q) (te := fun σ H Q => ∃ g', L3 X.K g' fe σ H Q) hc k hi.pe hg (fun C s0 H0 ex pins s σ H Q I ⟨g', h⟩ => ht C s0 H0 ex g' pins s σ H Q I h) (fun C s0 H0 ex pins s σ H Q I ⟨g', h⟩ => (he C s0 H0 ex g').pe pins s σ H Q I h) hs) (a9N k hG)
theorem a3o {X : Cx} {scope : Scope} {cl : List (Str × Addr)} {x y : Str} {caps : List Str} {idx : List Nat} (clos : closureFor scope X.env = pure cl) (sub : SubL X.env.cells cl) (cell : ∀ y ∈ scope.names, y.2 ≠ .cell) (kind : scope.kind = .function)
  (names : ∀ y ∈ scope.names, y.2 = .local → scope.names.lookup y.1 = some .local) (has : hasAll (relabel scope X.env).names cl = true) (cap : CapL X scope idx caps) : CompOk X scope cl (x :: y :: caps) 2 idx :=
 ⟨clos, fun y c e => sub.mem y c (a2d e), cell, kind, names, a5K has, by rw [List.length_cons, List.length_cons, cap.len]; omega, fun j i y e1 e2 => cap.at j i y e1 (by
  rw [show 2 + j = j + 1 + 1 by omega] at e2; simpa using e2)⟩
end
end DL

namespace DL
open PySem PySem.Spec L2
noncomputable def RwIt (h : Heap) (i l : Addr) (xs : Array Value) (k : Nat) : Prop := (h.IsListIter i l k ∧ h.IsList l xs) ∨ (h.IsTupleIter i l k ∧ h.IsTuple l xs)
section
variable {h h' : Heap} {i l : Addr} {xs : Array Value} {k : Nat}
theorem RwIt.at (x : RwIt h i l xs k) (ei : ∀ o, h.get? i = some o → h'.get? i = some o) (el : ∀ o, h.get? l = some o → h'.get? l = some o) : RwIt h' i l xs k := by
 rcases x with ⟨⟨o, q, r⟩, ⟨p, u, v⟩⟩ | ⟨⟨o, q, r⟩, ⟨p, u, v⟩⟩
 ·exact .inl ⟨⟨o, ei o q, r⟩, ⟨p, el p u, v⟩⟩
 ·exact .inr ⟨⟨o, ei o q, r⟩, ⟨p, el p u, v⟩⟩
theorem RwIt.lt (x : RwIt h i l xs k) : i < h.objs.size := by
 rcases x with ⟨⟨o, q, r⟩, _⟩ | ⟨⟨o, q, r⟩, _⟩ <;> exact Heap.lt_size q
end
section
variable {prog : Program} {w : World} {A : Around} {E : Value → Shared → Prop} {s : Shared}
theorem a99 {it t : Addr} {i : Nat} {items : Array Value} {x : Value} {Q : Value → Shared → Prop} (hit : s.heap.IsTupleIter it t i) (ht : s.heap.IsTuple t items) (hx : items[i]? = some x)
  (hQ : ∀ h', h'.IsTupleIter it t (i + 1) → Heap.SameBut it s.heap h' → Q x { s with heap := h' }) : wpAny (model prog w) A (Builtin.SmallTypes.nextOf (.ref it)) Q E s := by
 obtain ⟨o, ho, hc, hd⟩ := id hit
 obtain ⟨ol, hol, _, nl, hdl⟩ := ht
 unfold Builtin.SmallTypes.nextOf
 refine wpAny_bind (wpAny_callSpecial?_slot (name := Str.ofString "__next__") hit.typeIs PySem.F.slot_tuple_iterator_next (wpAny_call_entry PySem.F.slot_tuple_iterator_next hit.typeIs PySem.F.entry_tuple_iterator_next ?_ (PySem.F.args_tuple_iterator_next_1 _)))
 show wpAny _ _ (field (.ref it) 0 >>= _) _ _ s
 refine wpAny_bind (wpAny_field ho hd (x := .ref t) rfl ?_)
 show wpAny _ _ (if (Value.ref t == Value.none) = true then _ else _) _ _ s
 rw [if_neg (show ¬ ((Value.ref t == Value.none) = true) from Bool.false_ne_true)]
 show wpAny _ _ (field (.ref it) 1 >>= _) _ _ s
 refine wpAny_bind (wpAny_field ho hd (x := .int i 0) rfl ?_)
 show wpAny _ _ (seqItems? (.ref t) >>= _) _ _ s
 refine wpAny_bind (wpAny_seqItems hol hdl ?_)
 simp only [Int.toNat_natCast, hx]
 refine wpAny_bind (wpAny_setField ho hd (by simp) (wpAny_pure ⟨x, rfl, wpAny_pure (hQ _ ?_ (Heap.SameBut.update ..))⟩))
 exact ⟨_, Heap.get?_update_self _ ho (Obj.isFreed_of_fields (Obj.data_mapFields hd _)), (Obj.cls_mapFields ..).trans hc, by rw [Obj.data_mapFields hd]; simp [rawInt]⟩
theorem b3V {it t : Addr} {i : Nat} {items : Array Value} {Q : Value → Shared → Prop} (hh : A.handled = none) (hit : s.heap.IsTupleIter it t i) (ht : s.heap.IsTuple t items) (hx : items[i]? = none)
  (hE : ∀ h' e, Heap.ExtBut it s.heap h' → (∃ o, h'.get? e = some o ∧ o.cls = .type "StopIteration") → E (.ref e) { s with heap := h' }) : wpAny (model prog w) A (Builtin.SmallTypes.nextOf (.ref it)) Q E s := by
 obtain ⟨o, ho, hc, hd⟩ := id hit
 obtain ⟨ol, hol, _, nl, hdl⟩ := ht
 unfold Builtin.SmallTypes.nextOf
 refine wpAny_bind (wpAny_callSpecial?_slot (name := Str.ofString "__next__") hit.typeIs PySem.F.slot_tuple_iterator_next (wpAny_call_entry PySem.F.slot_tuple_iterator_next hit.typeIs PySem.F.entry_tuple_iterator_next ?_ (PySem.F.args_tuple_iterator_next_1 _)))
 show wpAny _ _ (field (.ref it) 0 >>= _) _ _ s
 refine wpAny_bind (wpAny_field ho hd (x := .ref t) rfl ?_)
 show wpAny _ _ (if (Value.ref t == Value.none) = true then _ else _) _ _ s
 rw [if_neg (show ¬ ((Value.ref t == Value.none) = true) from Bool.false_ne_true)]
 show wpAny _ _ (field (.ref it) 1 >>= _) _ _ s
 refine wpAny_bind (wpAny_field ho hd (x := .int i 0) rfl ?_)
 show wpAny _ _ (seqItems? (.ref t) >>= _) _ _ s
 refine wpAny_bind (wpAny_seqItems hol hdl ?_)
 simp only [Int.toNat_natCast, hx]
 refine wpAny_bind (wpAny_rule (wpAny_bind (wpAny_setField ho hd (by simp) ?_)))
 show wpAny _ _ (newExc (.type "StopIteration") [] >>= _) _ _ _
 refine wpAny_bind ?_
 simp only [newExc, newTuple]
 refine wpAny_bind (wpAny_newObj_type ?_ (by size_fits))
 refine wpAny_bind (m := firstArgMember _ _) (wpAny_of_eq (a := Value.none) (by first | rfl | (simp only [firstArgMember]; rfl)) ?_)
 refine wpAny_newObj_type ?_ (by size_fits)
 simp only [raiseNew]
 refine wpAny_bind (wpAny_handled ?_)
 first | rw [show A.in1.handled = none from hh] | rw [hh]
 refine wpAny_bind (wpAny_pure (wpAny_throw ?_))
 exact hE _ _ (((Heap.SameBut.update ..).extBut.push _).push _) ⟨_, Heap.get?_push_size _ rfl, rfl⟩

theorem W7 {it l : Addr} {i : Nat} {xs : Array Value} {x : Value} {Q : Value → Shared → Prop} (r : RwIt s.heap it l xs i) (hl : l ≠ it) (hx : xs[i]? = some x)
  (hQ : ∀ h', RwIt h' it l xs (i + 1) → Heap.SameBut it s.heap h' → Q x { s with heap := h' }) : wpAny (model prog w) A (Builtin.SmallTypes.nextOf (.ref it)) Q E s := by
 rcases r with ⟨a, b⟩ | ⟨a, b⟩
 ·exact wpAny_nextOf_list_item a b hx fun h' a' hs => hQ h' (.inl ⟨a', b.extBut hs.extBut hl⟩) hs
 ·exact a99 a b hx fun h' a' hs => hQ h' (.inr ⟨a', b.extBut hs.extBut hl⟩) hs
theorem a1x {it l : Addr} {i : Nat} {xs : Array Value} {Q : Value → Shared → Prop} (hh : A.handled = none) (r : RwIt s.heap it l xs i) (hx : xs[i]? = none)
  (hE : ∀ h' e, Heap.ExtBut it s.heap h' → (∃ o, h'.get? e = some o ∧ o.cls = .type "StopIteration") → E (.ref e) { s with heap := h' }) : wpAny (model prog w) A (Builtin.SmallTypes.nextOf (.ref it)) Q E s := by
 rcases r with ⟨a, b⟩ | ⟨a, b⟩
 ·exact wpAny_nextOf_list_end hh a b hx hE
 ·exact b3V hh a b hx hE

noncomputable abbrev D5 (h : Heap) (z TI TO : Addr) (f0 f1 : Value) : Prop := h.get? z = some { cls := .type "zip", dict := none, data := .fields #[f0, f1, .bool false, .ref TI, .ref TO], slots := #[] }
variable {z TI TO i1 i2 l1 l2 : Addr} {xs ys : Array Value} {k : Nat}

theorem b2y {x y a b : Value} {Q : Value → Shared → Prop} (D : ZipApart z TI TO i1 i2 l1 l2)
  (hz : D5 s.heap z TI TO .none (.bool false)) (hTI : IsPair s.heap TI (.ref i1) (.ref i2)) (hTO : IsPair s.heap TO a b) (h1 : RwIt s.heap i1 l1 xs k) (h2 : RwIt s.heap i2 l2 ys k) (hx : xs[k]? = some x) (hy : ys[k]? = some y)
  (hQ : ∀ h', D5 h' z TI TO (rawInt s.heap.objs.size) (.bool false) → RwIt h' i1 l1 xs (k + 1) → RwIt h' i2 l2 ys (k + 1) → IsPair h' s.heap.objs.size x y →
   (∀ c o, c ≠ z → c ≠ TO → c ≠ i1 → c ≠ i2 → s.heap.get? c = some o → h'.get? c = some o) → Q (.ref s.heap.objs.size) { s with heap := h' }) :
  wpAny (model prog w) A (Builtin.«zip.__next__» ⟨[.ref z], []⟩) (fun fin s' => ∃ v, fin = .done (.ret v) ∧ Q v s') E s := by
 show wpAny _ _ (field (.ref z) 2 >>= _) _ _ _
 refine wpAny_bind (wpAny_field hz rfl (x := .bool false) rfl ?_)
 show wpAny _ _ (field (.ref z) 3 >>= _) _ _ _
 refine wpAny_bind (wpAny_field hz rfl (x := .ref TI) rfl ?_)
 refine wpAny_bind (wpAny_seqItems hTI rfl ?_)
 show wpAny _ _ (Builtin.SmallTypes.ownedTupleIsFree (.ref z) >>= _) _ _ _
 refine wpAny_bind ?_
 unfold Builtin.SmallTypes.ownedTupleIsFree
 refine wpAny_bind (wpAny_field hz rfl (x := .none) rfl (wpAny_pure ?_))
 simp only [if_true]
 refine wpAny_bind (wpAny_rule ?_)
 refine wpAny_bind (wpAny_field hz rfl (x := .ref TO) rfl ?_)
 refine wpAny_bind (wpAny_setField_rec hz (by simp) fun g1 z1 k1 => ?_)
 replace z1 : D5 g1 z TI TO .ellipsis (.bool false) := z1
 refine wpAny_bind ?_
 simp only [List.zipIdx_cons, List.zipIdx_nil, List.forIn_cons, List.forIn_nil]
 refine wpAny_bind (wpAny_bind (wpAny_onRaise ?_))
 show wpAny _ _ (Builtin.SmallTypes.nextOf (.ref i1) >>= _) _ _ _
 refine wpAny_bind (W7 (h1.at (fun o e => k1.extBut _ o D.i1z e) fun o e => k1.extBut _ o D.l1z e) D.l1i1 hx fun g2 r2 k2 => wpAny_pure ?_)
 have o2 : IsPair g2 TO a b := k2.extBut _ _ D.TOi1 (k1.extBut _ _ D.TOz hTO)
 refine wpAny_bind (wpAny_seqItems o2 rfl ?_)
 refine wpAny_bind (wpAny_updateSeq_pair o2 fun g3 o3 k3 => ?_)
 replace o3 : IsPair g3 TO x b := o3
 refine wpAny_bind (wpAny_letGo (wpAny_pure ?_))
 refine wpAny_bind (wpAny_bind (wpAny_onRaise ?_))
 show wpAny _ _ (Builtin.SmallTypes.nextOf (.ref i2) >>= _) _ _ _
 refine wpAny_bind (W7 (h2.at (fun o e => k3.extBut _ o D.TOi2.symm (k2.extBut _ o D.i12.symm (k1.extBut _ o D.i2z e))) fun o e => k3.extBut _ o D.l2TO (k2.extBut _ o D.l2i1 (k1.extBut _ o D.l2z e))) D.l2i2 hy fun g4 r4 k4 => wpAny_pure ?_)
 have o4 : IsPair g4 TO x b := k4.extBut _ _ D.TOi2 o3
 refine wpAny_bind (wpAny_seqItems o4 rfl ?_)
 refine wpAny_bind (wpAny_updateSeq_pair o4 fun g5 o5 k5 => ?_)
 replace o5 : IsPair g5 TO x y := o5
 refine wpAny_bind (wpAny_letGo (wpAny_pure (wpAny_pure ?_)))
 refine wpAny_bind (wpAny_seqItems o5 rfl ?_)
 refine wpAny_bind (wpAny_newTuple ?_)
 have sz : g5.objs.size = s.heap.objs.size := by rw [k5.1, k4.1, k3.1, k2.1, k1.1]
 have z5 : D5 g5 z TI TO .ellipsis (.bool false) := k5.extBut _ _ D.TOz.symm (k4.extBut _ _ D.i2z.symm (k3.extBut _ _ D.TOz.symm (k2.extBut _ _ D.i1z.symm z1)))
 have q5 : ∀ c o, c ≠ z → c ≠ TO → c ≠ i1 → c ≠ i2 → s.heap.get? c = some o → g5.get? c = some o := fun c o c1 c2 c3 c4 e =>
  k5.extBut _ _ c2 (k4.extBut _ _ c4 (k3.extBut _ _ c2 (k2.extBut _ _ c3 (k1.extBut _ _ c1 e))))
 have p1 : RwIt g5 i1 l1 xs (k + 1) := r2.at (fun o e => k5.extBut _ o D.TOi1.symm (k4.extBut _ o D.i12 (k3.extBut _ o D.TOi1.symm e))) fun o e => k5.extBut _ o D.l1TO (k4.extBut _ o D.l1i2 (k3.extBut _ o D.l1TO e))
 have p2 : RwIt g5 i2 l2 ys (k + 1) := r4.at (fun o e => k5.extBut _ o D.TOi2.symm e) fun o e => k5.extBut _ o D.l2TO e
 have zl : z < g5.objs.size := Heap.lt_size z5
 show wpAny _ _ (Builtin.SmallTypes.ownedTupleHandOut (.ref z) (.ref g5.objs.size) >>= _) _ _ _
 refine wpAny_bind ?_
 unfold Builtin.SmallTypes.ownedTupleHandOut
 have z6 : D5 (g5.push { cls := .type "tuple", data := .seq #[x, y] }) z TI TO .ellipsis (.bool false) := Heap.get?_push_of_some _ z5
 refine wpAny_bind (wpAny_setField_rec z6 (by simp) fun g7 z7 k7 => ?_)
 replace z7 : D5 g7 z TI TO (rawInt g5.objs.size) (.bool false) := z7
 refine wpAny_setField_rec z7 (by simp) fun g8 z8 k8 => ?_
 replace z8 : D5 g8 z TI TO (rawInt g5.objs.size) (.bool false) := z8
 have up : ∀ c o, c ≠ z → g5.get? c = some o → g8.get? c = some o := fun c o c1 e => k8.extBut _ _ c1 (k7.extBut _ _ c1 (Heap.get?_push_of_some _ e))
 have t8 : IsPair g8 g5.objs.size x y := k8.extBut _ _ (Nat.ne_of_gt zl) (k7.extBut _ _ (Nat.ne_of_gt zl) (Heap.get?_push_size _ rfl))
 rw [sz] at z8 t8
 refine wpAny_pure ⟨_, rfl, ?_⟩
 show Q (.ref g5.objs.size) _
 rw [sz]
 exact hQ g8 z8 (p1.at (fun o e => up _ o D.i1z e) fun o e => up _ o D.l1z e) (p2.at (fun o e => up _ o D.i2z e) fun o e => up _ o D.l2z e) t8 fun c o c1 c2 c3 c4 e => up c o c1 (q5 c o c1 c2 c3 c4 e)

theorem a9V {a b : Value} {Q : Fin → Shared → Prop} (hh : A.handled = none) (D : ZipApart z TI TO i1 i2 l1 l2)
  (hz : D5 s.heap z TI TO .none (.bool false)) (hTI : IsPair s.heap TI (.ref i1) (.ref i2)) (hTO : IsPair s.heap TO a b) (h1 : RwIt s.heap i1 l1 xs k) (h2 : RwIt s.heap i2 l2 ys k) (hend : xs[k]? = none ∨ ys[k]? = none)
  (hE : ∀ h' e, (∀ c o, c ≠ z → c ≠ TO → c ≠ i1 → c ≠ i2 → s.heap.get? c = some o → h'.get? c = some o) → (∃ o, h'.get? e = some o ∧ o.cls = .type "StopIteration") → E (.ref e) { s with heap := h' }) :
  wpAny (model prog w) A (Builtin.«zip.__next__» ⟨[.ref z], []⟩) Q E s := by
 show wpAny _ _ (field (.ref z) 2 >>= _) _ _ _
 refine wpAny_bind (wpAny_field hz rfl (x := .bool false) rfl ?_)
 show wpAny _ _ (field (.ref z) 3 >>= _) _ _ _
 refine wpAny_bind (wpAny_field hz rfl (x := .ref TI) rfl ?_)
 refine wpAny_bind (wpAny_seqItems hTI rfl ?_)
 show wpAny _ _ (Builtin.SmallTypes.ownedTupleIsFree (.ref z) >>= _) _ _ _
 refine wpAny_bind ?_
 unfold Builtin.SmallTypes.ownedTupleIsFree
 refine wpAny_bind (wpAny_field hz rfl (x := .none) rfl (wpAny_pure ?_))
 simp only [if_true]
 refine wpAny_bind (wpAny_rule ?_)
 refine wpAny_bind (wpAny_field hz rfl (x := .ref TO) rfl ?_)
 refine wpAny_bind (wpAny_setField_rec hz (by simp) fun g1 z1 k1 => ?_)
 replace z1 : D5 g1 z TI TO .ellipsis (.bool false) := z1
 refine wpAny_bind ?_
 simp only [List.zipIdx_cons, List.zipIdx_nil, List.forIn_cons, List.forIn_nil]
 refine wpAny_bind (wpAny_bind (wpAny_onRaise ?_))
 show wpAny _ _ (Builtin.SmallTypes.nextOf (.ref i1) >>= _) _ _ _
 cases hx : xs[k]? with
 | none =>
  refine wpAny_bind (a1x hh (h1.at (fun o e => k1.extBut _ o D.i1z e) fun o e => k1.extBut _ o D.l1z e) hx fun g2 e k2 he => ?_)
  obtain ⟨oe, hoe, hce⟩ := he
  have z2 : D5 g2 z TI TO .ellipsis (.bool false) := k2 _ _ D.i1z.symm z1
  have hez : e ≠ z := fun x => by subst x; rw [z2] at hoe; cases hoe; simp at hce
  exact wpAny_setField_rec z2 (by simp) fun g3 _ k3 => hE g3 e (fun c o c1 _ c3 _ x => k3.extBut _ _ c1 (k2 _ _ c3 (k1.extBut _ _ c1 x))) ⟨oe, k3.extBut _ _ hez hoe, hce⟩
 | some x =>
  have hy : ys[k]? = none := by
   rcases hend with h | h
   ·rw [hx] at h; cases h
   ·exact h
  refine wpAny_bind (W7 (h1.at (fun o e => k1.extBut _ o D.i1z e) fun o e => k1.extBut _ o D.l1z e) D.l1i1 hx fun g2 r2 k2 => wpAny_pure ?_)
  have o2 : IsPair g2 TO a b := k2.extBut _ _ D.TOi1 (k1.extBut _ _ D.TOz hTO)
  refine wpAny_bind (wpAny_seqItems o2 rfl ?_)
  refine wpAny_bind (wpAny_updateSeq_pair o2 fun g3 o3 k3 => ?_)
  refine wpAny_bind (wpAny_letGo (wpAny_pure ?_))
  refine wpAny_bind (wpAny_bind (wpAny_onRaise ?_))
  show wpAny _ _ (Builtin.SmallTypes.nextOf (.ref i2) >>= _) _ _ _
  refine wpAny_bind (a1x hh (h2.at (fun o e => k3.extBut _ o D.TOi2.symm (k2.extBut _ o D.i12.symm (k1.extBut _ o D.i2z e))) fun o e => k3.extBut _ o D.l2TO (k2.extBut _ o D.l2i1 (k1.extBut _ o D.l2z e))) hy fun g4 e k4 he => ?_)
  obtain ⟨oe, hoe, hce⟩ := he
  have z4 : D5 g4 z TI TO .ellipsis (.bool false) := k4 _ _ D.i2z.symm (k3.extBut _ _ D.TOz.symm (k2.extBut _ _ D.i1z.symm z1))
  have hez : e ≠ z := fun x => by subst x; rw [z4] at hoe; cases hoe; simp at hce
  exact wpAny_setField_rec z4 (by simp) fun g5 _ k5 => hE g5 e (fun c o c1 c2 c3 c4 x => k5.extBut _ _ c1 (k4 _ _ c4 (k3.extBut _ _ c2 (k2.extBut _ _ c3 (k1.extBut _ _ c1 x))))) ⟨oe, k5.extBut _ _ hez hoe, hce⟩
end
end DL

namespace DL
open PySem PySem.Spec L2
section
variable {prog : Program} {w : World} {A : Around} {E : Value → Shared → Prop} {s : Shared}
variable {z TI TO i1 i2 l1 l2 : Addr} {xs ys : Array Value} {k : Nat}
theorem a7E {a : Addr} {o : Obj} {Q : Option Obj → Shared → Prop} (ho : s.heap.get? a = some o) (h : Q (some o) s) : wpAny (model prog w) A (loadIfAlive a) Q E s := by
 have h' : Q (s.heap.get? a) s := by rw [ho]; exact h
 exact fun _ _ _ => h'
theorem a7h {T : Addr} {f : Bool} {oT : Obj} {Q : Bool → Shared → Prop} (hz : D5 s.heap z TI TO (rawInt T) (.bool f)) (hT : s.heap.get? T = some oT)
  (hQ : ∀ h', D5 h' z TI TO (rawInt T) (.bool true) → Heap.SameBut z s.heap h' → Q false { s with heap := h' }) : wpAny (model prog w) A (Builtin.SmallTypes.ownedTupleIsFree (.ref z)) Q E s := by
 unfold Builtin.SmallTypes.ownedTupleIsFree
 refine wpAny_bind (wpAny_field hz rfl (x := rawInt T) rfl ?_)
 show wpAny _ _ (loadIfAlive ((T : Int).toNat) >>= _) _ _ _
 rw [Int.toNat_natCast]
 refine wpAny_bind (a7E hT ?_)
 simp only [Option.isNone_some, Bool.false_eq_true, if_false]
 refine wpAny_bind (wpAny_field hz rfl (x := .bool f) rfl ?_)
 cases f with
 | true =>
  rw [if_neg (show ¬ ((Value.bool true != Value.bool true) = true) from Bool.false_ne_true)]
  exact wpAny_pure (hQ s.heap hz (Heap.SameBut.refl _ _))
 | false =>
  rw [if_pos (show (Value.bool false != Value.bool true) = true from rfl)]
  exact wpAny_bind (wpAny_setField_rec hz (by simp) fun g gz gk => wpAny_pure (hQ g gz gk))

theorem a75 {x y : Value} {T : Addr} {f : Bool} {oT : Obj} {Q : Value → Shared → Prop} (D : ZipApart z TI TO i1 i2 l1 l2)
  (hz : D5 s.heap z TI TO (rawInt T) (.bool f)) (hT : s.heap.get? T = some oT) (hTI : IsPair s.heap TI (.ref i1) (.ref i2)) (h1 : RwIt s.heap i1 l1 xs k) (h2 : RwIt s.heap i2 l2 ys k) (hx : xs[k]? = some x) (hy : ys[k]? = some y)
  (hQ : ∀ h', D5 h' z TI TO (rawInt T) (.bool true) → RwIt h' i1 l1 xs (k + 1) → RwIt h' i2 l2 ys (k + 1) → IsPair h' s.heap.objs.size x y →
   (∀ c o, c ≠ z → c ≠ TO → c ≠ i1 → c ≠ i2 → s.heap.get? c = some o → h'.get? c = some o) → Q (.ref s.heap.objs.size) { s with heap := h' }) :
  wpAny (model prog w) A (Builtin.«zip.__next__» ⟨[.ref z], []⟩) (fun fin s' => ∃ v, fin = .done (.ret v) ∧ Q v s') E s := by
 show wpAny _ _ (field (.ref z) 2 >>= _) _ _ _
 refine wpAny_bind (wpAny_field hz rfl (x := .bool false) rfl ?_)
 show wpAny _ _ (field (.ref z) 3 >>= _) _ _ _
 refine wpAny_bind (wpAny_field hz rfl (x := .ref TI) rfl ?_)
 refine wpAny_bind (wpAny_seqItems hTI rfl ?_)
 show wpAny _ _ (Builtin.SmallTypes.ownedTupleIsFree (.ref z) >>= _) _ _ _
 refine wpAny_bind (a7h hz hT fun g1 z1 k1 => ?_)
 simp only [Bool.false_eq_true, if_false]
 simp only [List.forIn_toArray, List.forIn_cons, List.forIn_nil]
 refine wpAny_bind (wpAny_bind (wpAny_bind (wpAny_holding ?_)))
 show wpAny _ _ (Builtin.SmallTypes.nextOf (.ref i1) >>= _) _ _ _
 refine wpAny_bind (W7 (h1.at (fun o e => k1.extBut _ o D.i1z e) fun o e => k1.extBut _ o D.l1z e) D.l1i1 hx fun g2 r2 k2 => wpAny_pure ?_)
 refine wpAny_pure ?_
 refine wpAny_bind (wpAny_bind (wpAny_holding ?_))
 show wpAny _ _ (Builtin.SmallTypes.nextOf (.ref i2) >>= _) _ _ _
 refine wpAny_bind (W7 (h2.at (fun o e => k2.extBut _ o D.i12.symm (k1.extBut _ o D.i2z e)) fun o e => k2.extBut _ o D.l2i1 (k1.extBut _ o D.l2z e)) D.l2i2 hy fun g4 r4 k4 => wpAny_pure ?_)
 refine wpAny_pure (wpAny_pure ?_)
 show wpAny _ _ (newTuple [x, y] >>= _) _ _ _
 refine wpAny_bind (wpAny_newTuple (items := [x, y]) ?_ (show 2 ≤ sizeLine by decide))
 have sz : g4.objs.size = s.heap.objs.size := by rw [k4.1, k2.1, k1.1]
 have q4 : ∀ c o, c ≠ z → c ≠ i1 → c ≠ i2 → s.heap.get? c = some o → g4.get? c = some o := fun c o c1 c3 c4 e => k4.extBut _ _ c4 (k2.extBut _ _ c3 (k1.extBut _ _ c1 e))
 refine wpAny_pure ⟨_, rfl, ?_⟩
 show Q (.ref g4.objs.size) _
 rw [sz]
 refine hQ _ (Heap.get?_push_of_some _ (k4.extBut _ _ D.i2z.symm (k2.extBut _ _ D.i1z.symm z1)))
  (r2.at (fun o e => Heap.get?_push_of_some _ (k4.extBut _ o D.i12 e)) fun o e => Heap.get?_push_of_some _ (k4.extBut _ o D.l1i2 e))
  (r4.at (fun o e => Heap.get?_push_of_some _ e) fun o e => Heap.get?_push_of_some _ e) ?_ fun c o c1 c2 c3 c4 e => Heap.get?_push_of_some _ (q4 c o c1 c3 c4 e)
 rw [← sz]
 exact Heap.get?_push_size _ rfl

theorem a9O {T : Addr} {f : Bool} {oT : Obj} {Q : Fin → Shared → Prop} (hh : A.handled = none) (D : ZipApart z TI TO i1 i2 l1 l2)
  (hz : D5 s.heap z TI TO (rawInt T) (.bool f)) (hT : s.heap.get? T = some oT) (hTI : IsPair s.heap TI (.ref i1) (.ref i2)) (h1 : RwIt s.heap i1 l1 xs k) (h2 : RwIt s.heap i2 l2 ys k) (hend : xs[k]? = none ∨ ys[k]? = none)
  (hE : ∀ h' e, (∀ c o, c ≠ z → c ≠ TO → c ≠ i1 → c ≠ i2 → s.heap.get? c = some o → h'.get? c = some o) → (∃ o, h'.get? e = some o ∧ o.cls = .type "StopIteration") → E (.ref e) { s with heap := h' }) :
  wpAny (model prog w) A (Builtin.«zip.__next__» ⟨[.ref z], []⟩) Q E s := by
 show wpAny _ _ (field (.ref z) 2 >>= _) _ _ _
 refine wpAny_bind (wpAny_field hz rfl (x := .bool false) rfl ?_)
 show wpAny _ _ (field (.ref z) 3 >>= _) _ _ _
 refine wpAny_bind (wpAny_field hz rfl (x := .ref TI) rfl ?_)
 refine wpAny_bind (wpAny_seqItems hTI rfl ?_)
 show wpAny _ _ (Builtin.SmallTypes.ownedTupleIsFree (.ref z) >>= _) _ _ _
 refine wpAny_bind (a7h hz hT fun g1 z1 k1 => ?_)
 simp only [Bool.false_eq_true, if_false]
 simp only [List.forIn_toArray, List.forIn_cons, List.forIn_nil]
 refine wpAny_bind (wpAny_bind (wpAny_bind (wpAny_holding ?_)))
 show wpAny _ _ (Builtin.SmallTypes.nextOf (.ref i1) >>= _) _ _ _
 cases hx : xs[k]? with
 | none =>
  refine wpAny_bind (a1x hh (h1.at (fun o e => k1.extBut _ o D.i1z e) fun o e => k1.extBut _ o D.l1z e) hx fun g2 e k2 he => ?_)
  exact hE g2 e (fun c o c1 _ c3 _ x => k2 _ _ c3 (k1.extBut _ _ c1 x)) he
 | some x =>
  have hy : ys[k]? = none := by
   rcases hend with h | h
   ·rw [hx] at h; cases h
   ·exact h
  refine wpAny_bind (W7 (h1.at (fun o e => k1.extBut _ o D.i1z e) fun o e => k1.extBut _ o D.l1z e) D.l1i1 hx fun g2 r2 k2 => wpAny_pure ?_)
  refine wpAny_pure ?_
  refine wpAny_bind (wpAny_bind (wpAny_holding ?_))
  show wpAny _ _ (Builtin.SmallTypes.nextOf (.ref i2) >>= _) _ _ _
  refine wpAny_bind (a1x hh (h2.at (fun o e => k2.extBut _ o D.i12.symm (k1.extBut _ o D.i2z e)) fun o e => k2.extBut _ o D.l2i1 (k1.extBut _ o D.l2z e)) hy fun g4 e k4 he => ?_)
  exact hE g4 e (fun c o c1 c2 c3 c4 x => k4 _ _ c4 (k2.extBut _ _ c3 (k1.extBut _ _ c1 x))) he

structure ZSt (h : Heap) (z TI TO i1 i2 l1 l2 S : Addr) (xs ys : Array Value) (k : Nat) : Prop where
 ti : IsPair h TI (.ref i1) (.ref i2)
 r1 : RwIt h i1 l1 xs k
 r2 : RwIt h i2 l2 ys k
 zz : (D5 h z TI TO .none (.bool false) ∧ ∃ a b, IsPair h TO a b) ∨ ∃ (T : Addr) (f : Bool) (oT : Obj), D5 h z TI TO (rawInt T) (.bool f) ∧ h.get? T = some oT ∧ T ≠ z ∧ T ≠ TO ∧ T ≠ i1 ∧ T ≠ i2 ∧ T ≠ S
theorem a9u {S : Addr} {x y : Value} {Q : Option Value → Shared → Prop} (D : ZipApart z TI TO i1 i2 l1 l2) (st : ZSt s.heap z TI TO i1 i2 l1 l2 S xs ys k) (hS : S < s.heap.objs.size) (hTO : TO < s.heap.objs.size) (hx : xs[k]? = some x) (hy : ys[k]? = some y)
  (hQ : ∀ h', ZSt h' z TI TO i1 i2 l1 l2 S xs ys (k + 1) → IsPair h' s.heap.objs.size x y → (∀ c o, c ∉ [z, TO, i1, i2] → s.heap.get? c = some o → h'.get? c = some o) → Q (some (.ref s.heap.objs.size)) { s with heap := h' }) :
  wpAny (model prog w) A (pyNext (.ref z)) Q E s := by
 obtain ⟨ti, r1, r2, zz⟩ := st
 have K : ∀ {h' : Heap}, (∀ c o, c ≠ z → c ≠ TO → c ≠ i1 → c ≠ i2 → s.heap.get? c = some o → h'.get? c = some o) → ∀ c o, c ∉ [z, TO, i1, i2] → s.heap.get? c = some o → h'.get? c = some o := fun k c o hc e => by
  simp only [List.mem_cons, List.not_mem_nil, or_false, not_or] at hc
  exact k c o hc.1 hc.2.1 hc.2.2.1 hc.2.2.2 e
 unfold pyNext
 rcases zz with ⟨hz, a, b, ho⟩ | ⟨T, f, oT, hz, hT, t1, t2, t3, t4, t5⟩
 ·have tz : s.TypeIs (.ref z) "zip" := ⟨_, hz, rfl⟩
  exact wpAny_bind (wpAny_attempt (wpAny_callSpecial?_slot (name := Str.ofString "__next__") tz PySem.F.slot_zip_next (wpAny_call_entry PySem.F.slot_zip_next tz PySem.F.entry_zip_next
   (b2y D hz ti ho r1 r2 hx hy fun h' a1 a2 a3 a4 a5 => wpAny_pure (hQ h' ⟨a5 _ _ D.TIz D.TITO D.TIi1 D.TIi2 ti, a2, a3, .inr ⟨_, _, _, a1, a4, Nat.ne_of_gt (Heap.lt_size hz), Nat.ne_of_gt hTO, Nat.ne_of_gt r1.lt, Nat.ne_of_gt r2.lt, Nat.ne_of_gt hS⟩⟩ a4 (K a5))) (PySem.F.args_zip_next_1 _))))
 ·have tz : s.TypeIs (.ref z) "zip" := ⟨_, hz, rfl⟩
  exact wpAny_bind (wpAny_attempt (wpAny_callSpecial?_slot (name := Str.ofString "__next__") tz PySem.F.slot_zip_next (wpAny_call_entry PySem.F.slot_zip_next tz PySem.F.entry_zip_next
   (a75 D hz hT ti r1 r2 hx hy fun h' a1 a2 a3 a4 a5 => wpAny_pure (hQ h' ⟨a5 _ _ D.TIz D.TITO D.TIi1 D.TIi2 ti, a2, a3, .inr ⟨T, true, oT, a1, a5 _ _ t1 t2 t3 t4 hT, t1, t2, t3, t4, t5⟩⟩ a4 (K a5))) (PySem.F.args_zip_next_1 _))))
theorem b2E {S : Addr} {Q : Option Value → Shared → Prop} (hh : A.handled = none) (D : ZipApart z TI TO i1 i2 l1 l2) (st : ZSt s.heap z TI TO i1 i2 l1 l2 S xs ys k) (hend : xs[k]? = none ∨ ys[k]? = none)
  (hQ : ∀ h', (∀ c o, c ∉ [z, TO, i1, i2] → s.heap.get? c = some o → h'.get? c = some o) → Q none { s with heap := h' }) : wpAny (model prog w) A (pyNext (.ref z)) Q E s := by
 obtain ⟨ti, r1, r2, zz⟩ := st
 have K : ∀ {h' : Heap}, (∀ c o, c ≠ z → c ≠ TO → c ≠ i1 → c ≠ i2 → s.heap.get? c = some o → h'.get? c = some o) → ∀ c o, c ∉ [z, TO, i1, i2] → s.heap.get? c = some o → h'.get? c = some o := fun k c o hc e => by
  simp only [List.mem_cons, List.not_mem_nil, or_false, not_or] at hc
  exact k c o hc.1 hc.2.1 hc.2.2.1 hc.2.2.2 e
 unfold pyNext
 rcases zz with ⟨hz, a, b, ho⟩ | ⟨T, f, oT, hz, hT, t1, t2, t3, t4, t5⟩
 ·have tz : s.TypeIs (.ref z) "zip" := ⟨_, hz, rfl⟩
  refine wpAny_bind (wpAny_attempt (wpAny_callSpecial?_slot (name := Str.ofString "__next__") tz PySem.F.slot_zip_next (wpAny_call_entry PySem.F.slot_zip_next tz PySem.F.entry_zip_next (a9V hh D hz ti ho r1 r2 hend fun h' e hk he => ?_) (PySem.F.args_zip_next_1 _))))
  obtain ⟨o, ho, hc⟩ := he
  refine wpAny_bind (wpAny_isInstance (T := "StopIteration") (b := true) ⟨o, ho, hc⟩ isSubtype_stop ?_)
  exact wpAny_pure (hQ _ (K hk))
 ·have tz : s.TypeIs (.ref z) "zip" := ⟨_, hz, rfl⟩
  refine wpAny_bind (wpAny_attempt (wpAny_callSpecial?_slot (name := Str.ofString "__next__") tz PySem.F.slot_zip_next (wpAny_call_entry PySem.F.slot_zip_next tz PySem.F.entry_zip_next (a9O hh D hz hT ti r1 r2 hend fun h' e hk he => ?_) (PySem.F.args_zip_next_1 _))))
  obtain ⟨o, ho, hc⟩ := he
  refine wpAny_bind (wpAny_isInstance (T := "StopIteration") (b := true) ⟨o, ho, hc⟩ isSubtype_stop ?_)
  exact wpAny_pure (hQ _ (K hk))
end
end DL

namespace DL
open PySem PySem.Spec L2
structure LW (prog : Program) (w : World) (A : Around) (I S : Addr) (wr : List Addr) (n : Nat) (P : Nat → Value → Heap → Prop) (St : Nat → Heap → Prop) : Prop where
 item : ∀ (i : Nat) (s : Shared) (Q : Option Value → Shared → Prop) (E : Value → Shared → Prop), i < n → St i s.heap → S < s.heap.objs.size →
  (∀ v h', P i v h' → St (i + 1) h' → (∀ j u, P j u s.heap → u ≠ v) → (∀ b o, b ∉ wr → s.heap.get? b = some o → h'.get? b = some o) → Q (some v) { s with heap := h' }) → wpAny (model prog w) A (pyNext (.ref I)) Q E s
 done : ∀ (s : Shared) (Q : Option Value → Shared → Prop) (E : Value → Shared → Prop), St n s.heap → (∀ h', (∀ b o, b ∉ wr → s.heap.get? b = some o → h'.get? b = some o) → Q none { s with heap := h' }) → wpAny (model prog w) A (pyNext (.ref I)) Q E s
 stay : ∀ i h h', St i h → (∀ b o, b ≠ S → h.get? b = some o → h'.get? b = some o) → St i h'
 pay : ∀ i v h h', P i v h → (∀ b o, b ≠ S → b ∉ wr → h.get? b = some o → h'.get? b = some o) → P i v h'
 self : ∀ (A : Around) (s : Shared) (Q : Value → Shared → Prop) (E : Value → Shared → Prop), St 0 s.heap → Q (.ref I) s → wpAny (model prog w) A (pyIter (.ref I)) Q E s
 out : S ∉ wr
section
variable {prog : Program} {w : World} {A : Around} {I S : Addr} {wr : List Addr} {n : Nat} {P : Nat → Value → Heap → Prop} {St : Nat → Heap → Prop} {s : Shared} {R : Result → Shared → Prop}
noncomputable def Got (P : Nat → Value → Heap → Prop) (h : Heap) (acc : Array Value) (i : Nat) : Prop := acc.size = i ∧ (∀ j v, acc[j]? = some v → P j v h) ∧ acc.toList.Nodup
noncomputable abbrev Q8 (h : Heap) (S : Addr) (acc : Array Value) (c : Nat) : Prop := h.get? S = some { cls := .type "list", dict := none, data := .seq acc c, slots := #[] }
theorem b3O (W : LW prog w A.in1 I S wr n P St) (hn : n ≤ sizeLine) (res : Value) {h₁ : Heap}
  (hR : ∀ h' acc c, (∀ b o, b ≠ S → b ∉ wr → h₁.get? b = some o → h'.get? b = some o) → Q8 h' S acc c → Got P h' acc n → R (.ok (.ret res)) { s with heap := h' }) :
  ∀ (k i : Nat) (h : Heap) (c : Nat) (acc : Array Value), n - i = k → i ≤ n → St i h → (∀ b o, b ≠ S → b ∉ wr → h₁.get? b = some o → h.get? b = some o) → Q8 h S acc c → Got P h acc i →
   codeAny (model prog w) A (.builtin "list.extend.loop" ⟨[.ref S, .ref I, res], []⟩) R { s with heap := h } := by
 intro k
 induction k with
 | zero =>
  intro i h c acc hk hi hst kp hS hG
  have e : i = n := by omega
  subst e
  refine codeAny_builtin PySem.F.entry_extend_loop ?_
  rw [Around.under_plainId PySem.F.plain_extend_loop _]
  show wpAny _ A.in1 (pyNext (.ref I) >>= _) _ _ _
  refine wpAny_bind (W.done { s with heap := h } _ _ hst fun h' he => ?_)
  exact wpAny_pure (hR h' acc c (fun b o h1 h2 e => he b o h2 (kp b o h1 h2 e)) (he S _ W.out hS) ⟨hG.1, fun j v e => W.pay j v h h' (hG.2.1 j v e) fun b o _ h2 e => he b o h2 e, hG.2.2⟩)
 | succ k ih =>
  intro i h c acc hk hi hst kp hS hG
  have hlt : i < n := by omega
  refine codeAny_builtin PySem.F.entry_extend_loop ?_
  rw [Around.under_plainId PySem.F.plain_extend_loop _]
  show wpAny _ A.in1 (pyNext (.ref I) >>= _) _ _ _
  refine wpAny_bind (W.item i { s with heap := h } _ _ hlt hst (Heap.lt_size hS) fun v h' hP hst' hne he => ?_)
  dsimp only at he hne ⊢
  have hS' : Q8 h' S acc c := he S _ W.out hS
  have up : ∀ b o, b ≠ S → h'.get? b = some o → (h'.update S (Obj.mapSeq (·.push v))).get? b = some o := fun b o hb e => (Heap.get?_update_other _ _ (Ne.symm hb)).trans e
  show wpAny _ A.in1 (updateSeq S (·.push v) >>= _) _ _ _
  refine wpAny_bind ?_
  have hsz := hG.1
  refine wpAny_updateSeq hS' rfl (wpAny_pure ⟨plainId_quiet PySem.F.plain_extend_loop _, ih (i + 1) _ _ (acc.push v) (by first | decide | omega) hlt (W.stay _ h' _ hst' up)
   (fun b o h1 h2 e => up b o h1 (he b o h2 (kp b o h1 h2 e))) (Heap.get?_update_self _ hS' rfl) ⟨by rw [Array.size_push, hsz], fun j x hj => ?_, ?_⟩⟩) (by rw [hsz]; omega) (by show (acc.push v).size ≤ sizeLine + 1; rw [Array.size_push, hsz]; omega)
  ·rw [Array.getElem?_push] at hj
   split at hj
   ·rename_i e
    cases hj
    rw [e, hsz]
    exact W.pay i v h' _ hP fun b o h1 _ e => up b o h1 e
   ·exact W.pay j x h _ (hG.2.1 j x hj) fun b o h1 h2 e => up b o h1 (he b o h2 e)
  ·rw [Array.toList_push]
   refine List.nodup_append.mpr ⟨hG.2.2, by simp, fun a ha b hb => ?_⟩
   have e : b = v := by simpa using hb
   subst e
   obtain ⟨j, hj⟩ := List.mem_iff_getElem?.mp ha
   exact hne j a (hG.2.1 j a (by simpa using hj))

theorem a9Y {T : String} (W : LW prog w A.in1 I S wr n P St) (hn : n ≤ sizeLine) (hT : s.TypeIs (.ref I) T) (hl : (Value.type T == Value.type "list") = false) (ht : (Value.type T == Value.type "tuple") = false)
  (nl : typeLookup (.type T) "__len__" = pure none) (nh : typeLookup (.type T) "__length_hint__" = pure none) (hst : St 0 s.heap) (hSI : S ≠ I) (res : Value) (c₀ : Nat) (hS : Q8 s.heap S #[] c₀)
  (hR : ∀ h' acc c, (∀ b o, b ≠ S → b ∉ wr → s.heap.get? b = some o → h'.get? b = some o) → Q8 h' S acc c → Got P h' acc n → R (.ok (.ret res)) { s with heap := h' }) :
  wpAny (model prog w) A.in1 (Builtin.List.listExtendWith (.ref S) (.ref I) res)
   (fun fin s' => match fin with | .done f => R (.ok f) s' | .again c' => c'.quiet = true ∧ codeAny (model prog w) A c' R s') (fun e s' => R (.error e) s') s := by
 have key : ∀ (h : Heap) (c₁ : Nat), (∀ b o, b ≠ S → s.heap.get? b = some o → h.get? b = some o) → Q8 h S #[] c₁ →
   codeAny (model prog w) A (.builtin "list.extend.loop" ⟨[.ref S, .ref I, res], []⟩) R { s with heap := h } := fun h c₁ hk hS₁ =>
  b3O (h₁ := s.heap) W hn res hR n 0 h c₁ #[] (Nat.sub_zero _) (Nat.zero_le _) (W.stay 0 _ h hst hk) (fun b o h1 _ e => hk b o h1 e) hS₁ ⟨rfl, fun j v e => by simp at e, by simp⟩
 unfold Builtin.List.listExtendWith
 refine wpAny_bind (wpAny_typeOf hT ?_)
 have h1 : Builtin.List.listSameRef (.ref S) (.ref I) = false := by simp [Builtin.List.listSameRef, hSI]
 simp only [h1, hl, ht, Bool.or_false, Bool.false_eq_true, if_false]
 refine wpAny_bind (W.self _ _ _ _ hst ?_)
 refine wpAny_bind (wpAny_holding ?_)
 unfold Builtin.List.listLengthHint
 refine wpAny_bind (wpAny_specialOf hT nl ?_)
 show wpAny _ A.in1 (specialOf (Value.ref I) (Str.ofString "__length_hint__") >>= _) _ _ _
 refine wpAny_bind (wpAny_specialOf hT nh ?_)
 refine wpAny_pure ?_
 show wpAny _ A.in1 (rule "list.extend.makes-room" >>= fun _ => Builtin.List.listTouch (.ref S) >>= fun _ =>
  again (.builtin "list.extend.loop" ⟨[.ref S, .ref I, res], []⟩)) _ _ _
 refine wpAny_bind (wpAny_rule ?_)
 refine wpAny_bind ?_
 show wpAny _ A.in1 (updateSeq S (·.push .none) >>= fun _ => updateSeq S (·.pop)) _ _ _
 refine wpAny_bind (wpAny_updateSeq hS rfl ?_)
 have hS₂ := Heap.get?_update_self (Obj.mapSeq (·.push Value.none)) hS rfl
 refine wpAny_updateSeq (hz := by seq_fits) hS₂ rfl ?_
 have hS₃ := Heap.get?_update_self (Obj.mapSeq (·.pop)) hS₂ rfl
 refine wpAny_pure ⟨plainId_quiet PySem.F.plain_extend_loop _, key _ _ (fun b o hb e => ?_) hS₃⟩
 exact (Heap.get?_update_other _ _ (Ne.symm hb)).trans ((Heap.get?_update_other _ _ (Ne.symm hb)).trans e)

theorem b2T {T : String} {E : Value → Shared → Prop} {Q : Value → Shared → Prop} (W : LW prog w A.in1.in1 I s.heap.objs.size wr n P St) (hn : n ≤ sizeLine) (hT : s.TypeIs (.ref I) T) (hl : (Value.type T == Value.type "list") = false) (ht : (Value.type T == Value.type "tuple") = false)
  (nl : typeLookup (.type T) "__len__" = pure none) (nh : typeLookup (.type T) "__length_hint__" = pure none) (hst : St 0 s.heap)
  (hQ : ∀ h' acc c, (∀ b o, b ∉ wr → s.heap.get? b = some o → h'.get? b = some o) → Q8 h' s.heap.objs.size acc c → Got P h' acc n → Q (.ref s.heap.objs.size) { s with heap := h' }) :
  wpAny (model prog w) A (call (.type "list") [.ref I]) Q E s := by
 refine callType_codes (Q₁ := fun obj s₁ => obj = .ref s.heap.objs.size ∧ s₁ = { s with heap := s.heap.push { cls := .type "list", data := .seq #[] } }) PySem.F.called_list (PySem.F.typeCall_list_1 _) PySem.F.entry_list_init
  (code_list_new _ ⟨rfl, rfl⟩) fun obj s₁ h₁ => ?_
 obtain ⟨rfl, rfl⟩ := h₁
 have hS : (s.heap.push { cls := .type "list", data := .seq #[] }).get? s.heap.objs.size = some { cls := .type "list", data := .seq #[] } := Heap.get?_push_size _ rfl
 obtain ⟨oI, hoI, hcI⟩ := id hT
 have hI : I < s.heap.objs.size := Heap.lt_size hoI
 refine ⟨⟨_, hS, rfl⟩, PySem.F.args_list_init_2 _ _, ?_⟩
 show wpAny _ _ (do let old ← Builtin.List.listItems (.ref s.heap.objs.size); Builtin.List.listUpdate (.ref s.heap.objs.size) (fun _ => #[]); letGo old.toList.reverse; Builtin.List.listExtendWith (.ref s.heap.objs.size) (.ref I) .none) _ _ _
 refine wpAny_bind ?_
 unfold Builtin.List.listItems
 refine wpAny_bind (wpAny_seqItems hS rfl (wpAny_pure ?_))
 show wpAny _ _ (updateSeq s.heap.objs.size (fun _ => #[]) >>= fun _ => letGo (#[] : Array Value).toList.reverse >>= fun _ => Builtin.List.listExtendWith (.ref s.heap.objs.size) (.ref I) .none) _ _ _
 refine wpAny_bind (wpAny_updateSeq hS rfl ?_)
 have hS₂ := Heap.get?_update_self (Obj.mapSeq (fun _ => (#[] : Array Value))) hS rfl
 have oth : ∀ b o, b ≠ s.heap.objs.size → s.heap.get? b = some o → ((s.heap.push { cls := .type "list", data := .seq #[] }).update s.heap.objs.size (Obj.mapSeq (fun _ => (#[] : Array Value)))).get? b = some o :=
  fun b o hb e => (Heap.get?_update_other _ _ (Ne.symm hb)).trans (Heap.get?_push_of_some _ e)
 refine wpAny_bind (wpAny_letGo ?_)
 refine a9Y (A := A.in1) W hn ⟨oI, oth I _ (Nat.ne_of_lt hI) hoI, hcI⟩ hl ht nl nh (W.stay 0 s.heap _ hst oth) (Nat.ne_of_gt hI) .none _ hS₂ fun h' acc c hk hS' hG => ?_
 exact ⟨rfl, hQ h' acc c (fun b o h2 e => hk b o (Nat.ne_of_lt (Heap.lt_size e)) h2 (oth b o (Nat.ne_of_lt (Heap.lt_size e)) e)) hS' hG⟩
end
theorem b4o : typeLookup (.type "zip") "__len__" = pure none := by rw [typeLookup_type, builtinLookup_eq_fast]; kernel_rfl
theorem a77 : typeLookup (.type "zip") "__length_hint__" = pure none := by rw [typeLookup_type, builtinLookup_eq_fast]; kernel_rfl

theorem a84 {prog : Program} {w : World} {A : Around} {z TI TO i1 i2 l1 l2 S : Addr} {xs ys : Array Value} (hh : A.handled = none) (D : ZipApart z TI TO i1 i2 l1 l2) (hTO : TO < S) (hS : S ∉ [z, TI, TO, i1, i2, l1, l2]) (top : ∀ b ∈ [z, TO, i1, i2], b < S) :
  LW prog w A z S [z, TO, i1, i2] (min xs.size ys.size) (fun j v h => ∃ a x y, v = .ref a ∧ S ≤ a ∧ a ≠ S ∧ xs[j]? = some x ∧ ys[j]? = some y ∧ IsPair h a x y) (fun k h => ZSt h z TI TO i1 i2 l1 l2 S xs ys k) where
 item := fun i s Q E hi st hs hQ => by
  have hix : i < xs.size := Nat.lt_of_lt_of_le hi (Nat.min_le_left ..)
  have hiy : i < ys.size := Nat.lt_of_lt_of_le hi (Nat.min_le_right ..)
  exact a9u D st hs (Nat.lt_trans hTO hs) (Array.getElem?_eq_getElem hix) (Array.getElem?_eq_getElem hiy) fun h' a1 a2 a3 => hQ _ h' ⟨_, _, _, rfl, Nat.le_of_lt hs, Nat.ne_of_gt hs, Array.getElem?_eq_getElem hix, Array.getElem?_eq_getElem hiy, a2⟩ a1 (fun j u ⟨a, x, y, e, _, _, _, _, q⟩ z => by
   rw [e] at z; cases z; exact absurd (Heap.lt_size q) (Nat.lt_irrefl _)) a3
 done := fun s Q E st hQ => by
  have hend : xs[min xs.size ys.size]? = none ∨ ys[min xs.size ys.size]? = none := by
   rcases Nat.le_total xs.size ys.size with h | h
   ·exact .inl (by rw [Nat.min_eq_left h]; exact Array.getElem?_eq_none (Nat.le_refl _))
   ·exact .inr (by rw [Nat.min_eq_right h]; exact Array.getElem?_eq_none (Nat.le_refl _))
  exact b2E hh D st hend hQ
 stay := fun i h h' st k => by
  simp only [List.mem_cons, List.not_mem_nil, or_false, not_or] at hS
  obtain ⟨n1, n2, n3, n4, n5, n6, n7⟩ := hS
  obtain ⟨ti, r1, r2, zz⟩ := st
  refine ⟨k _ _ (Ne.symm n2) ti, r1.at (fun o e => k _ o (Ne.symm n4) e) (fun o e => k _ o (Ne.symm n6) e), r2.at (fun o e => k _ o (Ne.symm n5) e) (fun o e => k _ o (Ne.symm n7) e), ?_⟩
  rcases zz with ⟨hz, a, b, ho⟩ | ⟨T, f, oT, hz, hT, t1, t2, t3, t4, t5⟩
  ·exact .inl ⟨k _ _ (Ne.symm n1) hz, a, b, k _ _ (Ne.symm n3) ho⟩
  ·exact .inr ⟨T, f, oT, k _ _ (Ne.symm n1) hz, k _ _ t5 hT, t1, t2, t3, t4, t5⟩
 pay := fun i v h h' p k => by
  obtain ⟨a, x, y, e, ha, na, hx, hy, q⟩ := p
  refine ⟨a, x, y, e, ha, na, hx, hy, k _ _ na (fun hb => ?_) q⟩
  exact absurd (Nat.lt_of_lt_of_le (top a hb) ha) (Nat.lt_irrefl _)
 self := fun A s Q E st hQ => by
  have tz : s.TypeIs (.ref z) "zip" := by
   rcases st.zz with ⟨hz, _⟩ | ⟨T, f, oT, hz, _⟩ <;> exact ⟨_, hz, rfl⟩
  refine wpAny_pyIter_slot tz PySem.F.slot_zip_iter (wpAny_call_entry PySem.F.slot_zip_iter tz PySem.F.entry_zip_iter ?_ (PySem.F.args_zip_iter_1 _))
  show wpAny _ _ (ret (.ref z)) _ _ s
  exact wpAny_pure ⟨_, rfl, "zip", _, tz, PySem.F.slot_zip_next.lookup, hQ⟩
 out := fun h => hS (by
  simp only [List.mem_cons, List.not_mem_nil, or_false] at h ⊢
  rcases h with h | h | h | h <;> simp [h])
end DL

namespace DL
open PySem PySem.Spec L2
noncomputable def T2 (t : Bool) (l : Addr) : Obj := { cls := .type (if t then "tuple_iterator" else "list_iterator"), data := .fields #[.ref l, .int 0 0] }
noncomputable def RwB (t : Bool) (h : Heap) (l : Addr) (xs : Array Value) : Prop := if t then h.IsTuple l xs else h.IsList l xs
section
variable {prog : Program} {w : World} {A : Around} {E : Value → Shared → Prop} {s : Shared}
theorem a6e {t : Bool} {l : Addr} {xs : Array Value} {Q : Value → Shared → Prop} (h : RwB t s.heap l xs) (hQ : Q (.ref s.heap.objs.size) { s with heap := s.heap.push (T2 t l) }) : wpAny (model prog w) A (pyIter (.ref l)) Q E s := by
 cases t with
 | true => exact wpAny_pyIter_tuple h hQ
 | false => exact wpAny_pyIter_list h hQ
end
noncomputable abbrev zq1 (h : Heap) (t1 : Bool) (l1 : Addr) : Heap := h.push (T2 t1 l1)
noncomputable abbrev zq2 (h : Heap) (t1 t2 : Bool) (l1 l2 : Addr) : Heap := (zq1 h t1 l1).push (T2 t2 l2)
noncomputable abbrev zq3 (h : Heap) (t1 t2 : Bool) (l1 l2 : Addr) : Heap := (zq2 h t1 t2 l1 l2).push { cls := .type "tuple", data := .seq #[.ref h.objs.size, .ref (zq1 h t1 l1).objs.size] }
noncomputable abbrev zq4 (h : Heap) (t1 t2 : Bool) (l1 l2 : Addr) : Heap := (zq3 h t1 t2 l1 l2).push { cls := .type "tuple", data := .seq #[.none, .none] }
noncomputable abbrev zq5 (h : Heap) (t1 t2 : Bool) (l1 l2 : Addr) : Heap := (zq4 h t1 t2 l1 l2).push { cls := .type "zip", data := .fields #[.none, .bool false, .bool false, .ref (zq2 h t1 t2 l1 l2).objs.size, .ref (zq3 h t1 t2 l1 l2).objs.size] }
theorem RwB.push {t : Bool} {h : Heap} {l : Addr} {xs : Array Value} (x : RwB t h l xs) (o : Obj) : RwB t (h.push o) l xs := by
 cases t with
 | true => exact Heap.IsTuple.push x o
 | false => exact Heap.IsList.push x o
theorem a7G (t1 t2 : Bool) (l1 l2 : Addr) (xs ys : Array Value) :
  Meets (Builtin.«zip.__new__» ⟨[.type "zip", .ref l1, .ref l2], []⟩) (fun _ R s => RwB t1 s.heap l1 xs ∧ RwB t2 s.heap l2 ys ∧
   R (.ok (.ret (.ref (zq4 s.heap t1 t2 l1 l2).objs.size))) { s with heap := zq5 s.heap t1 t2 l1 l2 }) :=
 .of_wp fun prog w A R s h => by
  obtain ⟨hp, g, d, tk, os⟩ := s; obtain ⟨hl1, hl2, h⟩ := h
  have hsub := sub_zip
  have hL1 : RwB t1 (Shared.heap ⟨hp, g, d, tk, os⟩) l1 xs := hl1
  have hL2 : RwB t2 (Shared.heap ⟨hp.push (T2 t1 l1), g, d, tk, os⟩) l2 ys := RwB.push hl2 _
  wp_walk using a6e hL1, a6e hL2
  exact ⟨_, rfl, h⟩
section
variable {prog : Program} {w : World} {A : Around} {E : Value → Shared → Prop} {s : Shared}
theorem RwB.it {t : Bool} {h : Heap} {i l : Addr} {xs : Array Value} (x : RwB t h l xs) (e : h.get? i = some (T2 t l)) : RwIt h i l xs 0 := by
 cases t with
 | true => exact .inr ⟨⟨_, e, rfl, rfl⟩, x⟩
 | false => exact .inl ⟨⟨_, e, rfl, rfl⟩, x⟩
theorem RwB.at {t : Bool} {h h' : Heap} {l : Addr} {xs : Array Value} (x : RwB t h l xs) (e : ∀ o, h.get? l = some o → h'.get? l = some o) : RwB t h' l xs := by
 cases t with
 | true => obtain ⟨o, q, r⟩ := x; exact ⟨o, e o q, r⟩
 | false => obtain ⟨o, q, r⟩ := x; exact ⟨o, e o q, r⟩
theorem RwB.lt {t : Bool} {h : Heap} {l : Addr} {xs : Array Value} (x : RwB t h l xs) : l < h.objs.size := by
 cases t with
 | true => obtain ⟨o, q, r⟩ := x; exact Heap.lt_size q
 | false => obtain ⟨o, q, r⟩ := x; exact Heap.lt_size q
noncomputable def a5G (h : Heap) (m : Nat) (xs ys : Array Value) : Prop := ∃ l1 l2, ZipApart (m + 4) (m + 2) (m + 3) m (m + 1) l1 l2 ∧ l1 < m ∧ l2 < m ∧ h.objs.size = m + 5 ∧ ∀ S, m + 5 ≤ S → ZSt h (m + 4) (m + 2) (m + 3) m (m + 1) l1 l2 S xs ys 0
theorem b2n {t1 t2 : Bool} {l1 l2 : Addr} {xs ys : Array Value} {Q : Value → Shared → Prop} (h1 : RwB t1 s.heap l1 xs) (h2 : RwB t2 s.heap l2 ys)
  (h : ∀ h', a5G h' s.heap.objs.size xs ys → (∀ c o, s.heap.get? c = some o → h'.get? c = some o) → Q (.ref (s.heap.objs.size + 4)) { s with heap := h' }) :
  wpAny (model prog w) A (call (.type "zip") [.ref l1, .ref l2]) Q E s := by
 refine callType_new PySem.F.called_zip (by decide) (PySem.F.typeCall_zip_2 _ _) (PySem.F.newCall_zip_2 _ _) (fun obj => PySem.F.args_object_init_3 obj _ _) PySem.F.entry_zip_new
  (a7G t1 t2 l1 l2 xs ys) ⟨h1, h2, ?_⟩
 have z1 : (zq1 s.heap t1 l1).objs.size = s.heap.objs.size + 1 := Heap.size_push ..
 have z2 : (zq2 s.heap t1 t2 l1 l2).objs.size = s.heap.objs.size + 2 := by rw [Heap.size_push, z1]
 have z3 : (zq3 s.heap t1 t2 l1 l2).objs.size = s.heap.objs.size + 3 := by rw [Heap.size_push, z2]
 have z4 : (zq4 s.heap t1 t2 l1 l2).objs.size = s.heap.objs.size + 4 := by rw [Heap.size_push, z3]
 have z5 : (zq5 s.heap t1 t2 l1 l2).objs.size = s.heap.objs.size + 5 := by rw [Heap.size_push, z4]
 have fr : ∀ t l, (T2 t l).isFreed = false := fun t l => rfl
 have g5 : (zq5 s.heap t1 t2 l1 l2).get? (zq4 s.heap t1 t2 l1 l2).objs.size = some _ := Heap.get?_push_size _ rfl
 have g4 : (zq5 s.heap t1 t2 l1 l2).get? (zq3 s.heap t1 t2 l1 l2).objs.size = some _ := Heap.get?_push_of_some _ (Heap.get?_push_size _ rfl)
 have g3 : (zq5 s.heap t1 t2 l1 l2).get? (zq2 s.heap t1 t2 l1 l2).objs.size = some _ := Heap.get?_push_of_some _ (Heap.get?_push_of_some _ (Heap.get?_push_size _ rfl))
 have g2 : (zq5 s.heap t1 t2 l1 l2).get? (zq1 s.heap t1 l1).objs.size = some (T2 t2 l2) := Heap.get?_push_of_some _ (Heap.get?_push_of_some _ (Heap.get?_push_of_some _ (Heap.get?_push_size _ (fr _ _))))
 have g1 : (zq5 s.heap t1 t2 l1 l2).get? s.heap.objs.size = some (T2 t1 l1) := Heap.get?_push_of_some _ (Heap.get?_push_of_some _ (Heap.get?_push_of_some _ (Heap.get?_push_of_some _ (Heap.get?_push_size _ (fr _ _)))))
 show _ ∧ _
 rw [z2, z3, z4] at g5
 rw [z1, z2] at g3
 rw [z3] at g4
 rw [z1] at g2
 rw [z4]
 have up : ∀ c o, s.heap.get? c = some o → (zq5 s.heap t1 t2 l1 l2).get? c = some o := fun c o x =>
  Heap.get?_push_of_some _ (Heap.get?_push_of_some _ (Heap.get?_push_of_some _ (Heap.get?_push_of_some _ (Heap.get?_push_of_some _ x))))
 refine ⟨⟨_, g5, rfl⟩, h _ ⟨l1, l2, PyProof.Rows.zipApart_new h1.lt h2.lt, h1.lt, h2.lt, z5, fun S hS => ⟨g3, (h1.at fun o e => up _ o e).it g1, (h2.at fun o e => up _ o e).it g2, .inl ⟨g5, _, _, g4⟩⟩⟩ up⟩

structure LZ (h h' : Heap) (S : Addr) (xs ys : Array Value) (as : List Addr) (c : Nat) : Prop where
 keep : ∀ b o, h.get? b = some o → h'.get? b = some o
 low : h.objs.size ≤ S
 lst : Q8 h' S (as.map Value.ref).toArray c
 len : as.length = min xs.size ys.size
 new : ∀ a ∈ as, h.objs.size ≤ a ∧ a ≠ S
 nd : as.Nodup
 at' : ∀ (j : Nat) a, as[j]? = some a → ∃ x y, xs[j]? = some x ∧ ys[j]? = some y ∧ IsPair h' a x y
theorem a7U {P : Nat → Value → Heap → Prop} {h : Heap} {acc : Array Value} {n : Nat} (g : Got P h acc n) (hp : ∀ j v, P j v h → ∃ a, v = .ref a) : ∃ as : List Addr, acc = (as.map Value.ref).toArray := by
 have : ∀ l : List Value, (∀ v ∈ l, ∃ a, v = Value.ref a) → ∃ as : List Addr, l = as.map Value.ref := by
  intro l
  induction l with
  | nil => exact fun _ => ⟨[], rfl⟩
  | cons v r ih =>
   intro hv
   obtain ⟨a, e⟩ := hv v (.head _)
   obtain ⟨as, e'⟩ := ih fun u hu => hv u (.tail _ hu)
   exact ⟨a :: as, by rw [e, e']; rfl⟩
 obtain ⟨as, e⟩ := this acc.toList fun v hv => by
  obtain ⟨j, hj⟩ := List.mem_iff_getElem?.mp hv
  exact hp j v (g.2.1 j v (by simpa using hj))
 exact ⟨as, by rw [← e, Array.toArray_toList]⟩
theorem a8f {m : Nat} {h₀ : Heap} {xs ys : Array Value} {Q : Value → Shared → Prop} (hh : A.handled = none) (Z : a5G s.heap m xs ys) (k₀ : ∀ c o, h₀.get? c = some o → s.heap.get? c = some o) (hm : h₀.objs.size = m) (hn : xs.size ≤ sizeLine)
  (hQ : ∀ S h' as c, LZ h₀ h' S xs ys as c → Q (.ref S) { s with heap := h' }) : wpAny (model prog w) A (call (.type "list") [.ref (m + 4)]) Q E s := by
 obtain ⟨l1, l2, D, b1, b2, sz, st⟩ := Z
 have st0 := st s.heap.objs.size (by first | decide | omega)
 have tz : s.TypeIs (.ref (m + 4)) "zip" := by
  rcases st0.zz with ⟨hz, _⟩ | ⟨T, f, oT, hz, _⟩ <;> exact ⟨_, hz, rfl⟩
 refine b2T (T := "zip") (a84 (A := A.in1.in1) hh D (show (m + 3 : Nat) < s.heap.objs.size by omega) (by
  simp only [List.mem_cons, List.not_mem_nil, or_false, not_or]
  have ms : m ≤ s.heap.objs.size := by omega
  exact ⟨show (s.heap.objs.size : Nat) ≠ m + 4 by omega, show (s.heap.objs.size : Nat) ≠ m + 2 by omega, show (s.heap.objs.size : Nat) ≠ m + 3 by omega, show (s.heap.objs.size : Nat) ≠ m by omega, show (s.heap.objs.size : Nat) ≠ m + 1 by omega,
   Nat.ne_of_gt (Nat.lt_of_lt_of_le b1 ms), Nat.ne_of_gt (Nat.lt_of_lt_of_le b2 ms)⟩) (by
  simp only [List.mem_cons, List.not_mem_nil, or_false]
  intro b hb
  have ml : ∀ j, j ≤ 4 → m + j < s.heap.objs.size := fun j _ => by omega
  rcases hb with e | e | e | e
  ·rw [e]; exact ml 4 (by first | decide | omega)
  ·rw [e]; exact ml 3 (by first | decide | omega)
  ·rw [e]; exact ml 0 (by first | decide | omega)
  ·rw [e]; exact ml 1 (by first | decide | omega))) (Nat.le_trans (Nat.min_le_left ..) hn) tz (by decide) (by decide) b4o a77 st0 fun h' acc c k l g => ?_
 obtain ⟨as, ea⟩ := a7U g fun j v ⟨a, _, _, e, _⟩ => ⟨a, e⟩
 subst ea
 refine hQ _ h' as c ⟨fun b o e => k b o (fun hb => ?_) (k₀ b o e), by omega, l, by simpa using g.1, fun a ha => ?_, ?_, fun j a e => ?_⟩
 ·have hl : b < m := hm ▸ Heap.lt_size e
  simp only [List.mem_cons, List.not_mem_nil, or_false] at hb
  have up : ∀ j : Nat, ¬ (m + j < m) := fun j => by omega
  rcases hb with e | e | e | e
  ·exact up 4 (e ▸ hl)
  ·exact up 3 (e ▸ hl)
  ·exact up 0 (e ▸ hl)
  ·exact up 1 (e ▸ hl)
 ·obtain ⟨j, hj⟩ := List.mem_iff_getElem?.mp ha
  obtain ⟨a', x, y, e, q1, q2, _⟩ := g.2.1 j (.ref a) (by simp [hj])
  cases e
  exact ⟨Nat.le_trans (show (h₀.objs.size : Nat) ≤ s.heap.objs.size by omega) q1, q2⟩
 ·have nd := g.2.2
  simp only [List.toList_toArray] at nd
  exact (List.pairwise_map.mp nd).imp fun h e => h (by rw [e])
 ·obtain ⟨a', x, y, e', q1, q2, q3, q4, q5⟩ := g.2.1 j (.ref a) (by simp [e])
  cases e'
  exact ⟨x, y, q3, q4, q5⟩
end
end DL

namespace DL
open PySem PySem.Spec L2
noncomputable def G5 (H : Hp) : List (Addr × List V) → Hp
 | [] => H
 | (a, p) :: r => upd (G5 H r) a (.tup p)
section
variable {H : Hp}
theorem a0Z : ∀ {ps : List (Addr × List V)} {b : Addr}, (∀ q ∈ ps, q.1 ≠ b) → G5 H ps b = H b
 | [], b, h => rfl
 | (a, p) :: r, b, h => by
  show upd (G5 H r) a (.tup p) b = H b
  rw [u5 (Ne.symm (h _ (.head _)))]
  exact a0Z fun q hq => h q (.tail _ hq)
theorem a5j : ∀ {ps : List (Addr × List V)} {b : Addr} {u : HO}, G5 H ps b = some u → (∃ p, (b, p) ∈ ps ∧ u = .tup p) ∨ H b = some u
 | [], b, u, h => .inr h
 | (a, p) :: r, b, u, h => by
  replace h : upd (G5 H r) a (.tup p) b = some u := h
  by_cases hb : b = a
  ·subst hb; rw [B8] at h; cases h; exact .inl ⟨p, .head _, rfl⟩
  ·rw [u5 hb] at h
   rcases a5j h with ⟨p', q, e⟩ | e
   ·exact .inl ⟨p', .tail _ q, e⟩
   ·exact .inr e
theorem a47 : ∀ {ps : List (Addr × List V)} {b : Addr} {p : List V}, (ps.map (·.1)).Nodup → (b, p) ∈ ps → G5 H ps b = some (.tup p)
 | (a, p') :: r, b, p, nd, h => by
  show upd (G5 H r) a (.tup p') b = _
  rcases List.mem_cons.mp h with e | h
  ·cases e; exact B8
  ·have nd' := List.nodup_cons.mp nd
   have hb : b ≠ a := fun e => nd'.1 (e ▸ List.mem_map.mpr ⟨(b, p), h, rfl⟩)
   rw [u5 hb]
   exact a47 nd'.2 h
end
theorem b1o {fs ex : List Addr} {H H' : Hp} {h h' : Heap} (k : ∀ b u, h.get? b = some u → h'.get? b = some u) (hn : ∀ b, b < h.objs.size → H' b = H b) (hs : ∀ b u, H b = some u → H' b = some u) : Un fs ex H H' h h' where
 keep := fun b u q _ _ _ => k b u q
 slot := fun b u q _ _ _ => ⟨u.slots, k b u q⟩
 free := fun b u q n _ => by rw [hn b (Heap.lt_size q)]; exact n
 there := fun b u q _ => ⟨u, k b u q⟩
 tups := fun b xs q => hs b _ q
 frzs := fun b u xs q => hs b _ q
 tbls := fun b ps q => ⟨#[], by rw [hs b _ q]; simp⟩
noncomputable def prs (xs ys : List V) : List (List V) := List.zipWith (fun x y => [x, y]) xs ys
theorem a85 {xs ys : List V} {j : Nat} {p : List V} (e : (prs xs ys)[j]? = some p) : ∃ x y, xs[j]? = some x ∧ ys[j]? = some y ∧ p = [x, y] := by
 unfold prs at e
 rw [List.getElem?_zipWith] at e
 cases hx : xs[j]? with
 | none => rw [hx] at e; simp at e
 | some x =>
  cases hy : ys[j]? with
  | none => rw [hx, hy] at e; simp at e
  | some y => rw [hx, hy] at e; simp at e; exact ⟨x, y, rfl, rfl, e.symm⟩
noncomputable def Sq (K : PySem.W.Frag) (H : Hp) (a : Addr) (xs : List V) : Prop := SqL K H a xs ∨ SqT K H a xs
noncomputable def rLZ (K : PySem.W.Frag) : List V → Hp → VK → Prop := fun vs H Q => ∃ p q xs ys, vs = [.ref p, .ref q] ∧ Sq K H p xs ∧ Sq K H q ys ∧
 ∀ S as, (S :: as).Nodup → (∀ a ∈ S :: as, H a = none) → as.length = (prs xs ys).length → Q (.ref S) (upd (G5 H (as.zip (prs xs ys))) S (.lst (as.map V.ref)))
section
variable {X : Cx} {pins : List (Addr × Obj)} {σ : St} {H : Hp} {s : Shared}
theorem a6D (I : Inv X pins σ H s) {p : Addr} {xs : List V} (h : Sq X.K H p xs) : ∃ (t : Bool) (its : List Value), Vals xs its ∧ RwB t s.heap p its.toArray ∧ xs.length ≤ sizeLine := by
 rcases h with h | h
 ·obtain ⟨its, r, ⟨o, n, e, c, _, d⟩, z⟩ := I.list h
  exact ⟨false, its, r, ⟨o, e, c, n, d⟩, z⟩
 ·obtain ⟨its, r, ⟨o, e, c, n, d⟩, z⟩ := I.tuple h
  exact ⟨true, its, r, ⟨o, e, c, n, d⟩, z⟩
theorem a4T {as : List Addr} {ps : List (List V)} (h : as.length = ps.length) : (as.zip ps).map (·.1) = as := by
 rw [List.map_fst_zip (by first | decide | omega)]
theorem Inv.lz {xs ys : List V} {it jt : List Value} {S : Addr} {h' : Heap} {as : List Addr} {c : Nat} (I : Inv X pins σ H s) (rx : Vals xs it) (ry : Vals ys jt) (zx : xs.length ≤ sizeLine) (Z : LZ s.heap h' S it.toArray jt.toArray as c) :
  (S :: as).Nodup ∧ (∀ a ∈ S :: as, H a = none) ∧ as.length = (prs xs ys).length ∧ Inv X pins σ (upd (G5 H (as.zip (prs xs ys))) S (.lst (as.map V.ref))) { s with heap := h' } := by
 have hl : as.length = (prs xs ys).length := by
  have e := Z.len
  simp only [List.size_toArray] at e
  rw [e, prs, List.length_zipWith, rx.length, ry.length]
 have fr : ∀ a ∈ S :: as, s.heap.objs.size ≤ a := fun a ha => by
  rcases List.mem_cons.mp ha with e | e
  ·rw [e]; exact Z.low
  ·exact (Z.new a e).1
 have nn : ∀ a ∈ S :: as, H a = none := fun a ha => I.hok.fresh (fr a ha)
 have nd : (S :: as).Nodup := List.nodup_cons.mpr ⟨fun h => (Z.new S h).2 rfl, Z.nd⟩
 have ky := a4T hl
 have ndz : ((as.zip (prs xs ys)).map (·.1)).Nodup := by rw [ky]; exact Z.nd
 have kin : ∀ q ∈ as.zip (prs xs ys), q.1 ∈ as := fun q hq => (List.of_mem_zip hq).1
 refine ⟨nd, nn, hl, ?_⟩
 have hs : ∀ b u, H b = some u → upd (G5 H (as.zip (prs xs ys))) S (.lst (as.map V.ref)) b = some u := fun b u e => by
  have n : ∀ a ∈ S :: as, a ≠ b := fun a ha z => by rw [z] at ha; rw [nn b ha] at e; cases e
  rw [u5 (Ne.symm (n S (.head _))), a0Z fun q hq => n _ (.tail _ (kin q hq))]
  exact e
 refine I.un (t' := s.toks) (b1o Z.keep (fun b hb => ?_) hs) fun b u e => ?_
 ·have n : ∀ a ∈ S :: as, a ≠ b := fun a ha z => absurd (Nat.lt_of_lt_of_le hb (z ▸ fr a ha)) (Nat.lt_irrefl _)
  rw [u5 (Ne.symm (n S (.head _))), a0Z fun q hq => n _ (.tail _ (kin q hq))]
 ·by_cases hb : b = S
  ·subst hb
   rw [B8] at e; cases e
   refine ⟨?_, as.map Value.ref, c, ?_, Z.lst⟩
   ·rw [List.length_map, hl, prs, List.length_zipWith]
    exact Nat.le_trans (Nat.min_le_left ..) zx
   ·have : ∀ l : List Addr, Vals (l.map V.ref) (l.map Value.ref) := fun l => by
     induction l with
     | nil => exact .nil
     | cons a r ih => exact .cons rfl ih
    exact this as
  ·rw [u5 hb] at e
   rcases a5j e with ⟨p, hp, rfl⟩ | e0
   ·obtain ⟨j, hj⟩ := List.mem_iff_getElem?.mp hp
    obtain ⟨ha, hpj⟩ := List.getElem?_zip_eq_some.mp hj
    obtain ⟨x, y, ex, ey, rfl⟩ := a85 hpj
    obtain ⟨x', y', ex', ey', q⟩ := Z.at' j b ha
    obtain ⟨u1, f1, g1⟩ := rx.get ex
    obtain ⟨u2, f2, g2⟩ := ry.get ey
    have e1 : u1 = x' := by simpa [f1] using ex'
    have e2 : u2 = y' := by simpa [f2] using ey'
    subst e1; subst e2
    exact ⟨show 2 ≤ sizeLine by decide, [u1, u2], .cons g1 (.cons g2 .nil), ⟨_, q, rfl, _, rfl⟩⟩
   ·exact (I.hok b u e0).stay (fun c v _ q => Z.keep c v q) (fun c q => hs c _ q) fun c xs q => hs c _ q
end
section
variable {X : Cx} {p p' pos pos' : Pos} {e : Expr} {es : List Expr} {t : TA}
theorem b2m (hc : X.calm = true) (hgl : Gl X "list") (hml : X.mg "list" = none) (hgz : Gl X "zip") (hmz : X.mg "zip" = none) (ha : PA X (e :: es) t)
  (he : starEach (e :: es) X.env = (false, eval e X.env) :: starEach es X.env := by rfl) (hpl : (backTo pos' (starEach es X.env)).any (·.1) = false := by rfl)
  (he2 : starEach [.Call (.Name "zip" p') (e :: es) [] pos'] X.env = [(false, eval (.Call (.Name "zip" p') (e :: es) [] pos') X.env)] := by rfl) :
  PE X (.Call (.Name "list" p) [.Call (.Name "zip" p') (e :: es) [] pos'] [] pos) (tCB (rLZ X.K) t) := by
 intro pins s σ H Q I h
 refine wpAny_Call_Name_kw (a0f I hgl hml (show bootBuiltins ("list" : Str) = some (.type "list") by decide +kernel) ?_ (by decide) (by decide))
 refine PyProof.Rows.callWith_type1 ?_ he2 rfl
 rw [he2]
 show wpAny _ _ (spliced [(false, eval (.Call (.Name "zip" p') (e :: es) [] pos') X.env)]) _ _ s
 refine Calls.spliced_cons ?_
 refine wpAny_Call_Name_kw (a0f I hgz hmz (show bootBuiltins ("zip" : Str) = some (.type "zip") by decide +kernel) ?_ (by decide) (by decide))
 refine PyProof.Rows.callWith_type1 (thn (ha pos' pins s σ H _ I h) fun us s1 ⟨vs, H1, I1, r1, q1⟩ => ?_) he hpl
 obtain ⟨a, b, xs, ys, rfl, qa, qb, k⟩ := q1
 obtain ⟨u1, u2, rfl, e1, e2⟩ : ∃ u1 u2, us = [u1, u2] ∧ u1 = Value.ref a ∧ u2 = Value.ref b := by
  cases r1 with
  | cons h1 r1 =>
   cases r1 with
   | cons h2 r1 => cases r1; exact ⟨_, _, rfl, h1, h2⟩
 subst e1; subst e2
 obtain ⟨ta, it, rx, wa, za⟩ := a6D I1 qa
 obtain ⟨tb, jt, ry, wb, zb⟩ := a6D I1 qb
 refine b2n wa wb fun h1 Z1 k1 => ?_
 refine Calls.spliced_nil ?_
 refine a8f (h₀ := s1.heap) (I.ok.hd hc) Z1 k1 rfl (by simpa [← rx.length] using za) fun S h2 as c Z => ?_
 obtain ⟨nd, nn, hl, I2⟩ := Inv.lz I1 rx ry za Z
 exact ⟨.ref S, _, I2, rfl, k S as nd nn hl⟩
end
end DL

namespace DL
open PySem PySem.Spec L2
noncomputable def U9 : D → Option (List D)
 | .tup ds => some ds
 | .lst ds => some ds
 | _ => none
noncomputable def a1c (x y : D) : D := .tup [x, y]
noncomputable def Y0 : List D → Option (List D)
 | [a, b] => (U9 a).bind fun xs => (U9 b).map fun ys => List.zipWith a1c xs ys
 | _ => none
theorem a5P {g : Gh} {K : PySem.W.Frag} {σ : L2.St} {H : Hp} {fa : Option Addr} {O : List Addr} {s : DS} (I : GI K g σ H fa O s) : ∀ (ps : List (Addr × List V)), (ps.map (·.1)).Nodup → (∀ q ∈ ps, H q.1 = none) → GI K g σ (G5 H ps) fa O s ∧ StE fa O H fa O (G5 H ps)
 | [], _, _ => ⟨I, StE.refl⟩
 | (a, p) :: r, nd, h => by
  have nd' := List.nodup_cons.mp nd
  obtain ⟨I1, s1⟩ := a5P I r nd'.2 fun q hq => h q (.tail _ hq)
  have hn : G5 H r a = none := by
   rw [a0Z fun q hq z => nd'.1 (List.mem_map.mpr ⟨q, hq, z⟩)]
   exact h _ (.head _)
  exact ⟨I1.new hn, s1.trans (E9 hn)⟩
theorem a7n {K : PySem.W.Frag} {N : Addr → Prop} {fa : Option Addr} {H : Hp} : ∀ {ds es : List D} {xs ys : List V} {as : List Addr}, Reps K N fa H ds xs → Reps K N fa H es ys → as.length = (prs xs ys).length → (∀ q ∈ as.zip (prs xs ys), H q.1 = some (.tup q.2)) →
  Reps K N fa H (List.zipWith a1c ds es) (as.map V.ref)
 | [], es, xs, ys, as, h, q, l, k => by
  simp only [Reps] at h; subst h
  simp only [prs, List.zipWith_nil_left, List.length_nil] at l
  rw [List.eq_nil_of_length_eq_zero l]
  simp only [List.zipWith_nil_left, List.map_nil, Reps]
 | d :: r, [], xs, ys, as, h, q, l, k => by
  simp only [Reps] at q; subst q
  simp only [prs, List.zipWith_nil_right, List.length_nil] at l
  rw [List.eq_nil_of_length_eq_zero l]
  simp only [List.zipWith_nil_right, List.map_nil, Reps]
 | d :: r, e :: f, xs, ys, as, h, q, l, k => by
  simp only [Reps] at h q
  obtain ⟨x, xs', rfl, h1, h2⟩ := h
  obtain ⟨y, ys', rfl, q1, q2⟩ := q
  cases as with
  | nil => simp [prs] at l
  | cons a as =>
   have hz : (a :: as).zip (prs (x :: xs') (y :: ys')) = (a, [x, y]) :: as.zip (prs xs' ys') := rfl
   rw [hz] at k
   simp only [List.zipWith_cons_cons, List.map_cons, Reps]
   refine ⟨_, _, rfl, ?_, a7n h2 q2 (by simpa [prs] using l) fun q hq => k q (.tail _ hq)⟩
   simp only [a1c, Rep, Reps]
   exact ⟨a, [x, y], rfl, SqT.of (k _ (.head _)), x, [y], rfl, h1, y, [], rfl, q1, rfl⟩
theorem a6w {K : PySem.W.Frag} {N : Addr → Prop} {fa : Option Addr} {H : Hp} {d : D} {v : V} {ds : List D} (r : RepB K N fa H d v) (e : U9 d = some ds) : ∃ a xs, v = .ref a ∧ Sq K H a xs ∧ Reps K N fa H ds xs := by
 cases d with
 | tup es =>
  cases e
  simp only [RepB, Rep] at r
  obtain ⟨a, ys, rfl, q, w⟩ := r
  exact ⟨a, ys, rfl, .inr q, w⟩
 | lst es =>
  cases e
  obtain ⟨a, ys, rfl, _, q, w⟩ := r
  exact ⟨a, ys, rfl, .inl (SqL.of q), w⟩
 | _ => cases e
theorem a8h {K : PySem.W.Frag} : RCF K (rLZ K) Y0 := by
 intro g σ H fa O s xs ds es Q I rs e k
 match ds, e with
 | [d1, d2], e =>
  obtain ⟨xs1, e1, e⟩ := Option.bind_eq_some_iff.mp (show (U9 d1).bind (fun xs => (U9 d2).map fun ys => List.zipWith a1c xs ys) = some es from e)
  obtain ⟨ys1, e2, e⟩ := Option.map_eq_some_iff.mp e
  subst e
  simp only [R5] at rs
  obtain ⟨x, zs, rfl, r1, y, zs', rfl, r2, rfl⟩ := rs
  obtain ⟨a, vs, rfl, q1, w1⟩ := a6w r1 e1
  obtain ⟨b, us, rfl, q2, w2⟩ := a6w r2 e2
  refine ⟨a, b, vs, us, rfl, q1, q2, fun S as nd nn hl => ?_⟩
  have nd' := List.nodup_cons.mp nd
  have ky := a4T hl
  have kin : ∀ q ∈ as.zip (prs vs us), q.1 ∈ as := fun q hq => (List.of_mem_zip hq).1
  have ndz : ((as.zip (prs vs us)).map (·.1)).Nodup := by rw [ky]; exact nd'.2
  obtain ⟨I1, s1⟩ := a5P I (as.zip (prs vs us)) ndz fun q hq => nn _ (.tail _ (kin q hq))
  have hS : G5 H (as.zip (prs vs us)) S = none := by
   rw [a0Z fun q hq (z : q.1 = S) => nd'.1 (by rw [← z]; exact kin q hq)]
   exact nn S (.head _)
  have rp := a7n (Reps.stp I s1.stp w1) (Reps.stp I s1.stp w2) hl fun q hq => a47 (b := q.1) (p := q.2) ndz hq
  exact k S (as.map V.ref) _ (s1.trans (E9 hS)) (a08 I1 hS rp) (nn S (.head _))
section
variable {X : Cx} {g : Gh} {p p' pos pos' : Pos} {e : Expr} {es : List Expr} {t : DA}
theorem a5o (hc : X.calm = true) (hgl : Gl X "list") (hml : X.mg "list" = none) (hgz : Gl X "zip") (hmz : X.mg "zip" = none) (ha : BAO X g (e :: es) t)
  (he : starEach (e :: es) X.env = (false, eval e X.env) :: starEach es X.env := by rfl) (hpl : (backTo pos' (starEach es X.env)).any (·.1) = false := by rfl)
  (he2 : starEach [.Call (.Name "zip" p') (e :: es) [] pos'] X.env = [(false, eval (.Call (.Name "zip" p') (e :: es) [] pos') X.env)] := by rfl) :
  FO X g (.Call (.Name "list" p) [.Call (.Name "zip" p') (e :: es) [] pos'] [] pos) (dCF Y0 t) :=
 FO.w (b2m hc hgl hml hgz hmz ha.pe he hpl he2) (a9e a8h)
end
end DL

namespace DL
open PySem PySem.Spec L2
section
variable {X : Cx} {g : Gh} {scope : Scope} {cl : List (Str × Addr)} {idx : List Nat} {iter elt : Expr} {ifs : List Expr} {pos : Pos} {fi : DA} {fc : DT} {fe : DE} {x y : Str} {px py pp : Pos} {kt : Nat} {caps : List Str}
theorem a3Y (hc : X.calm = true) (k : CompOk X scope cl (x :: y :: caps) 2 idx) (hi : IO X g (.Tuple [.Name x px, .Name y py] kt pp) iter fi) (nd : (x :: y :: caps).Nodup)
  (hx : ∀ C s0 H0 ex, (blk X (x :: y :: caps) scope cl C s0 H0 ex).env.scope.names.lookup x = some .local) (hy : ∀ C s0 H0 ex, (blk X (x :: y :: caps) scope cl C s0 H0 ex).env.scope.names.lookup y = some .local)
  (ht : ∀ C s0 H0 ex g', a1i (blk X (x :: y :: caps) scope cl C s0 H0 ex) g' ifs fc) (he : ∀ C s0 H0 ex g', EO (blk X (x :: y :: caps) scope cl C s0 H0 ex) g' elt fe) (hs : ∀ x, foldedSetIterable iter X.env x = pure x := by intro _; rfl) :
  FO X g (.ListComp elt [⟨.Tuple [.Name x px, .Name y py] kt pp, iter, ifs, 0⟩] scope pos) (E1 idx fi fc fe) :=
 a8r (G := a6R X.K 2 (a3F (V9 0) (a3F (V9 1) a5g))) hc k hi (fun C s0 H0 ex => a5d (X := blk X (x :: y :: caps) scope cl C s0 H0 ex) (n := 2) hc (a4J (X := blk X (x :: y :: caps) scope cl C s0 H0 ex) (C2 (X := blk X (x :: y :: caps) scope cl C s0 H0 ex) (i := 0) nd rfl (Or.inl (hx C s0 H0 ex)) (Or.inr (hx C s0 H0 ex))) (a4J (X := blk X (x :: y :: caps) scope cl C s0 H0 ex) (C2 (X := blk X (x :: y :: caps) scope cl C s0 H0 ex) (i := 1) nd rfl (Or.inl (hy C s0 H0 ex)) (Or.inr (hy C s0 H0 ex))) a5t)))
  (fun a x y σ H Q h q => ⟨a, [x, y], rfl, h, rfl, x, [y], rfl, y, [], rfl, rfl, q⟩) ht he hs
end
end DL

namespace DL
open PySem PySem.Spec L2
section
variable {X : Cx} {g : Gh} {scope : Scope} {cl : List (Str × Addr)} {N' : List Str} {idx : List Nat} {iter elt tg : Expr} {ifs : List Expr} {pos : Pos} {fi : DA} {fc : DT} {fe : DE}
end
section
variable {X : Cx} {g : Gh} {scope : Scope} {cl : List (Str × Addr)} {idx : List Nat} {iter elt : Expr} {ifs : List Expr} {pos : Pos} {fi : DA} {fc : DT} {fe : DE} {x y : Str} {px py pp : Pos} {kt : Nat} {caps : List Str}
end
end DL

namespace DL
open PySem PySem.Spec L2
section
variable {X : Cx} {g : Gh}
end
end DL

namespace DL
open PySem PySem.Spec L2 PyProof.Rows
section
variable {X : Cx} {g : Gh} {a st : Expr} {fa fs : DE} {pos p2 : Pos}
end
end DL

namespace DL
open PySem PySem.Spec L2 PyProof.Rows
section
variable {X : Cx} {K : PySem.W.Frag}
end
end DL

namespace DL
open PySem PySem.Spec L2 PyProof.Rows
section
variable {X : Cx} {g : Gh}
end
end DL

namespace L2
open PySem PySem.Spec PyProof.Rows
section
variable {X : Cx} {pins : List (Addr × Obj)} {σ : List (Option V)} {H : Hp} {s : Shared} {h' : Heap}
end
section
variable {X : Cx}
end
end L2
namespace L2
open PySem PySem.Spec PyProof.Rows
section
variable {X : Cx}
end
end L2
namespace DL
open PySem PySem.Spec L2 PyProof.Rows
section
variable {X : Cx} {g : Gh} {e : Expr} {body : List Stmt} {f : DA} {t : D → DS → Option DS} {b : DM} {pos p1 p2 pt : Pos} {elts : List Expr} {x1 : Nat}
end
end DL

namespace T
open PySem PySem.Spec L2 DL
noncomputable def a2F : DM := (i3 (dFN 0))
noncomputable def a0Q : DFn := mFn 1 (a2F)
noncomputable def V7 : DM := (d7 (g6 (dOp k0 (dFG 0 "turn") (dC (.int 1))) (d8 2)) (d7 (dFP 0 "turn" (dV 2)) (d7 (j6 (dB (dOp (j5 (fun i j => decide (j < i))) (dFG 0 "left") (dC (.int 0)))) (d7 (g6 (dOp A5 (dFG 0 "left") (dL 1)) (d8 3)) (d7 (dFP 0 "left" (dOp B1 (dFG 0 "left") (dL 1))) (i3 (dV 3)))) j9) (d7 (g6 (dFG 0 "cells") (d8 4)) (d7 (g6 (dIf (dB (dOp (j5 (fun i j => decide (j < i))) (dCB (one m7) (a0 (dL 4) b0)) (dC (.int 0)))) (dOp pIx (dL 4) (dOp A5 (dFG 0 "at") (dCB (one m7) (a0 (dL 4) b0)))) (dC (.int 0))) (d8 5)) (d7 (dFP 0 "at" (dOp k0 (dFG 0 "at") (dC (.int 1)))) (d7 (j6 (o7 (dB (dOp (j5 (fun i j => decide (j ≤ i))) (dL 5) (dOp a0k (dC (.int 10)) (dC (.int 18))))) (dB (dOp (j5 (fun i j => decide (i ≤ j))) (dFG 0 "at") (dCB (one m7) (a0 (dL 4) b0))))) (d7 (dFP 0 "left" (dOp B1 (dL 5) (dL 1))) (i3 (dOp A5 (dL 5) (dL 1)))) j9) (d7 (g6 (dOp A5 (dOp m5 (dOp k0 (dOp k0 (dOp k0 (dOp A5 (dL 5) (dC (.int 1000003))) (dOp m5 (dOp m5 (dC (.int 31)) (dL 2)) (dL 2))) (dOp m5 (dC (.int 7)) (dL 2))) (dC (.int 11))) (dC (.int 48271))) (dC (.int 2147483647))) (d8 6)) (d7 (g6 (dOp A5 (dOp k0 (dOp m5 (dOp B1 (dL 6) (dC (.int 64))) (dC (.int 69621))) (dOp m5 (dC (.int 7919)) (dL 2))) (dC (.int 2147483587))) (d8 6)) (i3 (dOp A5 (dOp B1 (dL 6) (dC (.int 64))) (dL 1))))))))))))
noncomputable def z9 : DFn := mFn 7 (V7)
noncomputable abbrev a8i : DM := (d7 (g6 (dOp A5 (dL 2) (dL 3)) (d8 4)) (d7 (g6 (dV 3) (d8 2)) (g6 (dV 4) (d8 3))))
noncomputable def a3i : DM := (d7 (g6 (dCB (one N4) (a0 (dL 0) b0)) (d8 2)) (d7 (g6 (dCB (one N4) (a0 (dL 1) b0)) (d8 3)) (d7 (C8 (dB (dOp pNe (dL 3) (dC (.int 0)))) (a8i)) (i3 (dV 2)))))
noncomputable def J2 : DFn := mFn 5 (a3i)
noncomputable abbrev a2y (m_divisor_of_two : DFn) : DM := (g6 (d5 m_divisor_of_two (a0 (dV 1) (a0 (dV 2) b0))) (d8 1))
noncomputable def a0H (m_divisor_of_two : DFn) : DM := (d7 (g6 (dC (.int 0)) (d8 1)) (d7 (T7 (dV 0) (d8 2) (a2y m_divisor_of_two)) (i3 (dV 1))))
noncomputable def N0 (m_divisor_of_two : DFn) : DFn := mFn 3 (a0H m_divisor_of_two)
noncomputable def a2M (m_divisor : DFn) : DM := (d7 (g6 (d5 m_divisor (a0 (dV 0) b0)) (d8 1)) (d7 (j6 (dB (dOp (j5 (fun i j => decide (i < j))) (dOp pIx (dL 0) (dUn o0 (dC (.int 1)))) (dC (.int 0)))) (g6 (dUn o0 (dL 1)) (d8 1)) j9) (i3 (dCB (one C7) (a0 (l0 (B5 [1] (C1 (dV 0)) w6 (dOp B1 (dL 0) (dL 1)))) b0)))))
noncomputable def a1J (m_divisor : DFn) : DFn := mFn 2 (a2M m_divisor)
noncomputable def a6B (m_lowest : DFn) : DM := (i3 (d5 m_lowest (a0 (i7 (a0 (dV 0) (a0 (dV 1) b0))) b0)))
noncomputable def a1M (m_lowest : DFn) : DFn := mFn 2 (a6B m_lowest)
noncomputable abbrev a7S : DM := (p9 2 3 (a0 (dV 3) (a0 (dOp A5 (dL 2) (dL 3)) b0)))
noncomputable def a3f : DM := (d7 (g6 (dCB (one N4) (a0 (dL 0) b0)) (d8 2)) (d7 (g6 (dCB (one N4) (a0 (dL 1) b0)) (d8 3)) (d7 (C8 (dB (dOp (j5 (fun i j => decide (j < i))) (dL 3) (dC (.int 0)))) (a7S)) (d7 (j6 (dB (dOp (j5 (fun i j => decide (i < j))) (dL 1) (dC (.int 0)))) (g6 (dOp n8 (dC (.int 0)) (dL 2)) (d8 2)) j9) (i3 (i7 (a0 (dOp B1 (dL 0) (dL 2)) (a0 (dOp B1 (dL 1) (dL 2)) b0))))))))
noncomputable def B6 : DFn := mFn 4 (a3f)
noncomputable def a4z (m_law_fraction : DFn) : DM := (d7 (g6 (dOp k0 (dOp m5 (dOp pIx (dL 0) (dC (.int 0))) (dOp pIx (dL 1) (dC (.int 1)))) (dOp m5 (dOp pIx (dL 1) (dC (.int 0))) (dOp pIx (dL 0) (dC (.int 1))))) (d8 2)) (i3 (d5 m_law_fraction (a0 (dV 2) (a0 (dOp m5 (dOp pIx (dL 0) (dC (.int 1))) (dOp pIx (dL 1) (dC (.int 1)))) b0)))))
noncomputable def a0d (m_law_fraction : DFn) : DFn := mFn 3 (a4z m_law_fraction)
noncomputable def a4D : DM := (i3 (i7 (a0 (dOp n8 (dC (.int 0)) (dOp pIx (dL 0) (dC (.int 0)))) (a0 (dOp pIx (dL 0) (dC (.int 1))) b0))))
noncomputable def L4 : DFn := mFn 1 (a4D)
noncomputable def a4K : DM := (i3 (t0 (dUn (M0 "int") (dL 0)) (t9 (dUn (M0 "bool") (dL 0)))))
noncomputable def U1 : DFn := mFn 1 (a4K)
noncomputable def a0F (m_divisor : DFn) (m_is_whole : DFn) : DM := (d7 (j6 (dOr (o9 (dTr (dUn (M0 "tuple") (dL 0)))) (dB (dOp pNe (dCB (one m7) (a0 (dL 0) b0)) (dL 1)))) (i3 (dC (.bl false))) j9) (d7 (j6 (o9 (dTr (dCB (one M4) (a0 (l0 (B5 [] (C1 (dV 0)) w6 (d5 m_is_whole (a0 (dV 0) b0)))) b0)))) (i3 (dC (.bl false))) j9) (i3 (t0 (dOp (j5 (fun i j => decide (j ≤ i))) (dOp pIx (dL 0) (dUn o0 (dC (.int 1)))) (dC (.int 1))) (dOp pEq (d5 m_divisor (a0 (dV 0) b0)) (dC (.int 1)))))))
noncomputable def a4o (m_divisor : DFn) (m_is_whole : DFn) : DFn := mFn 2 (a0F m_divisor m_is_whole)
noncomputable def a1b (m_law_fraction : DFn) : DM := (i3 (d5 m_law_fraction (a0 (dOp m5 (dOp pIx (dL 0) (dC (.int 0))) (dOp pIx (dL 1) (dC (.int 0)))) (a0 (dOp m5 (dOp pIx (dL 0) (dC (.int 1))) (dOp pIx (dL 1) (dC (.int 1)))) b0))))
noncomputable def U8 (m_law_fraction : DFn) : DFn := mFn 2 (a1b m_law_fraction)
noncomputable def a3A (m_law_fraction : DFn) (m_law_draw : DFn) : DM := (d7 (g6 (d5 m_law_draw (a0 (dV 0) (a0 (dOp pIx (l0 (m6 (a0 (dC (.int 7)) (a0 (dC (.int 13)) (a0 (dC (.int 30)) b0))))) (d5 m_law_draw (a0 (dV 0) (a0 (dC (.int 3)) b0)))) b0))) (d8 1)) (d7 (g6 (dOp pIx (l0 (m6 (a0 (dC (.int 1)) (a0 (dC (.int 1)) (a0 (dC (.int 1)) (a0 (dC (.int 2)) (a0 (dC (.int 3)) (a0 (dC (.int 4)) b0)))))))) (d5 m_law_draw (a0 (dV 0) (a0 (dC (.int 6)) b0)))) (d8 2)) (i3 (d5 m_law_fraction (a0 (dOp m5 (dL 1) (dOp n8 (dC (.int 1)) (dOp m5 (dC (.int 2)) (d5 m_law_draw (a0 (dV 0) (a0 (dC (.int 2)) b0)))))) (a0 (dV 2) b0))))))
noncomputable def a1f (m_law_fraction : DFn) (m_law_draw : DFn) : DFn := mFn 3 (a3A m_law_fraction m_law_draw)
noncomputable def a3t (m_is_lowest : DFn) : DM := (i3 (d5 m_is_lowest (a0 (dV 0) (a0 (dC (.int 3)) b0))))
noncomputable def a3X (m_is_lowest : DFn) : DFn := mFn 1 (a3t m_is_lowest)
noncomputable def a4e (m_law_fraction : DFn) : DM := (d7 (g6 (dOp m5 (dOp pIx (dL 0) (dC (.int 1))) (dOp pIx (dL 1) (dC (.int 1)))) (d8 2)) (d7 (g6 (d5 m_law_fraction (a0 (dOp m5 (dOp pIx (dL 0) (dC (.int 0))) (dOp pIx (dL 1) (dC (.int 1)))) (a0 (dV 2) b0))) (d8 3)) (d7 (g6 (d5 m_law_fraction (a0 (dOp m5 (dOp pIx (dL 1) (dC (.int 0))) (dOp pIx (dL 0) (dC (.int 1)))) (a0 (dV 2) b0))) (d8 4)) (d7 (g6 (d5 m_law_fraction (a0 (dOp pIx (dL 3) (dC (.int 1))) (a0 (dOp pIx (dL 4) (dC (.int 1))) b0))) (d8 5)) (d7 (g6 (dOp m5 (dOp pIx (dL 3) (dC (.int 1))) (dOp pIx (dL 5) (dC (.int 1)))) (d8 2)) (i3 (i7 (a0 (dOp m5 (dOp pIx (dL 3) (dC (.int 0))) (dOp B1 (dL 2) (dOp pIx (dL 3) (dC (.int 1))))) (a0 (dOp m5 (dOp pIx (dL 4) (dC (.int 0))) (dOp B1 (dL 2) (dOp pIx (dL 4) (dC (.int 1))))) (a0 (dV 2) b0))))))))))
noncomputable def T4 (m_law_fraction : DFn) : DFn := mFn 6 (a4e m_law_fraction)
noncomputable def a3Z (m_law_at : DFn) (m_law_number : DFn) : DM := (i3 (d5 m_law_at (a0 (d5 m_law_number (a0 (dV 0) b0)) (a0 (d5 m_law_number (a0 (dV 0) b0)) b0))))
noncomputable def a0O (m_law_at : DFn) (m_law_number : DFn) : DFn := mFn 1 (a3Z m_law_at m_law_number)
noncomputable def a1q : DM := (d7 (g6 (dOp m5 (dOp pIx (dL 0) (dC (.int 0))) (dOp pIx (dL 1) (dC (.int 2)))) (d8 2)) (d7 (g6 (dOp m5 (dOp pIx (dL 1) (dC (.int 0))) (dOp pIx (dL 0) (dC (.int 2)))) (d8 3)) (d7 (j6 (dB (dOp pNe (dL 2) (dL 3))) (i3 (dOp (j5 (fun i j => decide (i < j))) (dL 2) (dL 3))) j9) (i3 (dOp (j5 (fun i j => decide (i < j))) (dOp m5 (dOp pIx (dL 0) (dC (.int 1))) (dOp pIx (dL 1) (dC (.int 2)))) (dOp m5 (dOp pIx (dL 1) (dC (.int 1))) (dOp pIx (dL 0) (dC (.int 2)))))))))
noncomputable def a1d : DFn := mFn 4 (a1q)
noncomputable def a2Y (m_law_fraction : DFn) : DM := (i3 (i7 (a0 (d5 m_law_fraction (a0 (dOp pIx (dL 0) (dC (.int 0))) (a0 (dOp pIx (dL 0) (dC (.int 2))) b0))) (a0 (d5 m_law_fraction (a0 (dOp pIx (dL 0) (dC (.int 1))) (a0 (dOp pIx (dL 0) (dC (.int 2))) b0))) b0))))
noncomputable def a0V (m_law_fraction : DFn) : DFn := mFn 1 (a2Y m_law_fraction)
noncomputable def a4l (m_law_at : DFn) (m_law_sum : DFn) (m_law_xy : DFn) : DM := (d7 (g6 (d5 m_law_xy (a0 (dV 0) b0)) (o6 2 (m9 (d8 3) (m9 (d8 4) o8)))) (i3 (d5 m_law_at (a0 (d5 m_law_sum (a0 (dV 3) (a0 (dV 1) b0))) (a0 (d5 m_law_sum (a0 (dV 4) (a0 (dV 2) b0))) b0)))))
noncomputable def a1A (m_law_at : DFn) (m_law_sum : DFn) (m_law_xy : DFn) : DFn := mFn 5 (a4l m_law_at m_law_sum m_law_xy)
noncomputable def a0M : DM := (d7 (j6 (dB (dOp (j5 (fun i j => decide (j < i))) (dL 0) (dC (.int 0)))) (i3 (dC (.int 1))) j9) (d7 (j6 (dB (dOp (j5 (fun i j => decide (i < j))) (dL 0) (dC (.int 0)))) (i3 (dUn o0 (dC (.int 1)))) j9) (i3 (dC (.int 0)))))
noncomputable def a07 : DFn := mFn 1 (a0M)
noncomputable def a3I (m_sign : DFn) : DM := (d7 (g6 (dOp m5 (dOp pIx (dL 0) (dC (.int 0))) (dOp n8 (dOp m5 (dOp pIx (dL 1) (dC (.int 1))) (dOp pIx (dL 2) (dC (.int 2)))) (dOp m5 (dOp pIx (dL 2) (dC (.int 1))) (dOp pIx (dL 1) (dC (.int 2)))))) (d8 3)) (d7 (g6 (dOp n8 (dL 3) (dOp m5 (dOp pIx (dL 0) (dC (.int 1))) (dOp n8 (dOp m5 (dOp pIx (dL 1) (dC (.int 0))) (dOp pIx (dL 2) (dC (.int 2)))) (dOp m5 (dOp pIx (dL 2) (dC (.int 0))) (dOp pIx (dL 1) (dC (.int 2))))))) (d8 3)) (d7 (g6 (dOp k0 (dL 3) (dOp m5 (dOp pIx (dL 0) (dC (.int 2))) (dOp n8 (dOp m5 (dOp pIx (dL 1) (dC (.int 0))) (dOp pIx (dL 2) (dC (.int 1)))) (dOp m5 (dOp pIx (dL 2) (dC (.int 0))) (dOp pIx (dL 1) (dC (.int 1))))))) (d8 3)) (i3 (d5 m_sign (a0 (dV 3) b0))))))
noncomputable def a3N (m_sign : DFn) : DFn := mFn 4 (a3I m_sign)
noncomputable def a4d (m_fraction : DFn) : DM := (d7 (g6 (dOp n8 (dOp m5 (dOp pIx (dL 0) (dC (.int 0))) (dOp pIx (dL 1) (dC (.int 2)))) (dOp m5 (dOp pIx (dL 1) (dC (.int 0))) (dOp pIx (dL 0) (dC (.int 2))))) (d8 2)) (d7 (g6 (dOp n8 (dOp m5 (dOp pIx (dL 0) (dC (.int 1))) (dOp pIx (dL 1) (dC (.int 2)))) (dOp m5 (dOp pIx (dL 1) (dC (.int 1))) (dOp pIx (dL 0) (dC (.int 2))))) (d8 3)) (d7 (g6 (dOp m5 (dOp pIx (dL 0) (dC (.int 2))) (dOp pIx (dL 1) (dC (.int 2)))) (d8 4)) (i3 (d5 m_fraction (a0 (dOp k0 (dOp m5 (dL 2) (dL 2)) (dOp m5 (dL 3) (dL 3))) (a0 (dOp m5 (dL 4) (dL 4)) b0)))))))
noncomputable def V0 (m_fraction : DFn) : DFn := mFn 5 (a4d m_fraction)
end T

namespace T
open PySem PySem.Spec L2 DL
end T

namespace T
open PySem PySem.Spec L2 DL
noncomputable def a1u (m_is_place : DFn) : DM := (d7 (j6 (o9 (dTr (dUn (M0 "tuple") (dOp pIx (dL 0) (dC (.int 1)))))) (i3 (dC (.bl false))) j9) (d7 (g6 (dIf (dTr (dOp pIx (dL 0) (dC (.int 0)))) (dC (.int 3)) (dC (.int 2))) (d8 1)) (d7 (g6 (dIf (dTr (dOp pIx (dL 0) (dC (.int 0)))) (dC (.int 8)) (dC (.int 9))) (d8 2)) (d7 (j6 (dOr (dB (dOp (j5 (fun i j => decide (i < j))) (dCB (one m7) (a0 (dOp pIx (dL 0) (dC (.int 1))) b0)) (dL 1))) (dB (dOp (j5 (fun i j => decide (j < i))) (dCB (one m7) (a0 (dOp pIx (dL 0) (dC (.int 1))) b0)) (dL 2)))) (i3 (dC (.bl false))) j9) (i3 (dCB (one M4) (a0 (l0 (B5 [] (C1 (dOp pIx (dL 0) (dC (.int 1)))) w6 (d5 m_is_place (a0 (dV 0) b0)))) b0)))))))
noncomputable def a4q (m_is_place : DFn) : DFn := mFn 3 (a1u m_is_place)
noncomputable def a1s : DM := (d7 (j6 (dTr (dL 1)) (i3 (l0 (dCF Y0 (a0 (dL 0) (a0 (dOp k0 (dSl (dL 0) (dAt (dC (.int 1))) dNo) (dSl (dL 0) dNo (dAt (dC (.int 1))))) b0))))) j9) (i3 (l0 (dCF Y0 (a0 (dL 0) (a0 (dSl (dL 0) (dAt (dC (.int 1))) dNo) b0))))))
noncomputable def E7 : DFn := mFn 2 (a1s)
noncomputable def a4I (m_neighbours : DFn) : DM := (i3 (dCB (one C7) (a0 (d5 m_neighbours (a0 (dOp pIx (dL 0) (dC (.int 1))) (a0 (dOp pIx (dL 0) (dC (.int 0))) b0))) b0)))
noncomputable def V2 (m_neighbours : DFn) : DFn := mFn 1 (a4I m_neighbours)
noncomputable def a3E (m_pieces : DFn) : DM := (i3 (dCB (one M4) (a0 (l0 (E1 [] (C1 (d5 m_pieces (a0 (dV 0) b0))) w6 (dOp pNe (dL 0) (dL 1)))) b0)))
noncomputable def a4F (m_pieces : DFn) : DFn := mFn 1 (a3E m_pieces)
noncomputable def a1G (m_is_lesser : DFn) (m_turn : DFn) : DM := (i3 (t0 (dOp pEq (d5 m_turn (a0 (dV 0) (a0 (dV 1) (a0 (dV 2) b0)))) (dC (.int 0))) (dOp pEq (d5 m_is_lesser (a0 (dV 0) (a0 (dV 1) b0))) (d5 m_is_lesser (a0 (dV 1) (a0 (dV 2) b0))))))
noncomputable def a4m (m_is_lesser : DFn) (m_turn : DFn) : DFn := mFn 3 (a1G m_is_lesser m_turn)
noncomputable abbrev a1P (m_goes_on : DFn) (m_neighbours : DFn) (m_pieces : DFn) : DM := (j6 (dTr (d5 m_goes_on (a0 (dOp pIx (dL 1) (dC (.int 0))) (a0 (dOp pIx (dL 1) (dC (.int 1))) (a0 (dOp pIx (dL 2) (dC (.int 1))) b0))))) (i3 (dC (.bl false))) j9)
noncomputable def a2O (m_goes_on : DFn) (m_neighbours : DFn) (m_pieces : DFn) : DM := (d7 (T7 (d5 m_neighbours (a0 (d5 m_pieces (a0 (dV 0) b0)) (a0 (dOp pIx (dL 0) (dC (.int 0))) b0))) (o6 2 (m9 (d8 1) (m9 (d8 2) o8))) (a1P m_goes_on m_neighbours m_pieces)) (i3 (dC (.bl true))))
noncomputable def a4b (m_goes_on : DFn) (m_neighbours : DFn) (m_pieces : DFn) : DFn := mFn 3 (a2O m_goes_on m_neighbours m_pieces)
noncomputable def U6 (m_turns_everywhere : DFn) (m_goes_somewhere : DFn) (m_are_places : DFn) : DM := (d7 (j6 (dOr (o9 (dTr (dUn (M0 "tuple") (dL 0)))) (dOr (dB (dOp pNe (dCB (one m7) (a0 (dL 0) b0)) (dC (.int 2)))) (o9 (dTr (dUn (M0 "bool") (dOp pIx (dL 0) (dC (.int 0)))))))) (i3 (dC (.bl false))) j9) (i3 (t0 (d5 m_are_places (a0 (dV 0) b0)) (t0 (d5 m_goes_somewhere (a0 (dV 0) b0)) (d5 m_turns_everywhere (a0 (dV 0) b0))))))
noncomputable def a4g (m_turns_everywhere : DFn) (m_goes_somewhere : DFn) (m_are_places : DFn) : DFn := mFn 1 (U6 m_turns_everywhere m_goes_somewhere m_are_places)
noncomputable def a3O (m_law_product : DFn) (m_law_fraction : DFn) (m_law_draw : DFn) : DM := (d7 (g6 (dOp pIx (l0 (m6 (a0 (i7 (a0 (dC (.int 1)) (a0 (dC (.int 0)) (a0 (dC (.int 1)) b0)))) (a0 (i7 (a0 (dC (.int 1)) (a0 (dC (.int 0)) (a0 (dC (.int 1)) b0)))) (a0 (i7 (a0 (dC (.int 3)) (a0 (dC (.int 4)) (a0 (dC (.int 5)) b0)))) (a0 (i7 (a0 (dC (.int 4)) (a0 (dC (.int 3)) (a0 (dC (.int 5)) b0)))) (a0 (i7 (a0 (dC (.int 5)) (a0 (dC (.int 12)) (a0 (dC (.int 13)) b0)))) (a0 (i7 (a0 (dC (.int 8)) (a0 (dC (.int 15)) (a0 (dC (.int 17)) b0)))) b0)))))))) (d5 m_law_draw (a0 (dV 0) (a0 (dC (.int 6)) b0)))) (o6 3 (m9 (d8 1) (m9 (d8 2) (m9 (d8 3) o8))))) (d7 (j6 (dB (dOp pEq (d5 m_law_draw (a0 (dV 0) (a0 (dC (.int 2)) b0))) (dC (.int 0)))) (p9 1 2 (a0 (dV 2) (a0 (dV 1) b0))) j9) (d7 (g6 (dOp m5 (dL 1) (dOp n8 (dC (.int 1)) (dOp m5 (dC (.int 2)) (d5 m_law_draw (a0 (dV 0) (a0 (dC (.int 2)) b0)))))) (d8 1)) (d7 (g6 (dOp m5 (dL 2) (dOp n8 (dC (.int 1)) (dOp m5 (dC (.int 2)) (d5 m_law_draw (a0 (dV 0) (a0 (dC (.int 2)) b0)))))) (d8 2)) (d7 (g6 (dOp m5 (dOp pIx (l0 (m6 (a0 (dC (.int 1)) (a0 (dC (.int 2)) (a0 (dC (.int 3)) (a0 (dC (.int 4)) (a0 (dC (.int 6)) b0))))))) (d5 m_law_draw (a0 (dV 0) (a0 (dC (.int 5)) b0)))) (dOp pIx (l0 (m6 (a0 (dC (.int 1)) (a0 (dV 3) b0)))) (d5 m_law_draw (a0 (dV 0) (a0 (dC (.int 2)) b0))))) (d8 4)) (d7 (g6 (d5 m_law_fraction (a0 (dV 4) (a0 (dOp pIx (l0 (m6 (a0 (dC (.int 1)) (a0 (dV 3) (a0 (dOp m5 (dC (.int 2)) (dL 3)) b0))))) (d5 m_law_draw (a0 (dV 0) (a0 (dC (.int 3)) b0)))) b0))) (d8 4)) (i3 (l0 (B5 [4] (C1 (i7 (a0 (dV 1) (a0 (dV 2) (a0 (dV 3) b0))))) w6 (d5 m_law_product (a0 (i7 (a0 (dV 0) (a0 (dC (.int 1)) b0))) (a0 (dV 1) b0))))))))))))
noncomputable def a0J (m_law_product : DFn) (m_law_fraction : DFn) (m_law_draw : DFn) : DFn := mFn 5 (a3O m_law_product m_law_fraction m_law_draw)
noncomputable def a1e (m_law_draw : DFn) (m_law_gone : DFn) (m_law_product : DFn) (m_law_fraction : DFn) (m_law_way : DFn) (m_law_place : DFn) : DM := (d7 (g6 (d5 m_law_way (a0 (dV 0) b0)) (d8 1)) (d7 (g6 (d5 m_law_place (a0 (dV 0) b0)) (d8 2)) (d7 (j6 (dB (dOp pEq (d5 m_law_draw (a0 (dV 0) (a0 (dC (.int 2)) b0))) (dC (.int 0)))) (d7 (g6 (d5 m_law_way (a0 (dV 0) b0)) (d8 3)) (j6 (dB (dOp pNe (d5 m_law_product (a0 (dOp pIx (dL 1) (dC (.int 0))) (a0 (dOp pIx (dL 3) (dC (.int 1))) b0))) (d5 m_law_product (a0 (dOp pIx (dL 1) (dC (.int 1))) (a0 (dOp pIx (dL 3) (dC (.int 0))) b0))))) (d7 (g6 (d5 m_law_gone (a0 (dV 2) (a0 (dOp pIx (dL 1) (dC (.int 0))) (a0 (dOp pIx (dL 1) (dC (.int 1))) b0)))) (d8 4)) (d7 (g6 (d5 m_law_gone (a0 (dV 2) (a0 (dOp pIx (dL 3) (dC (.int 0))) (a0 (dOp pIx (dL 3) (dC (.int 1))) b0)))) (d8 5)) (i3 (i7 (a0 (dC (.bl true)) (a0 (i7 (a0 (dV 2) (a0 (dV 4) (a0 (d5 m_law_gone (a0 (dV 4) (a0 (dOp pIx (dL 3) (dC (.int 0))) (a0 (dOp pIx (dL 3) (dC (.int 1))) b0)))) (a0 (dV 5) b0))))) b0)))))) j9)) j9) (d7 (g6 (d5 m_law_fraction (a0 (dOp k0 (dC (.int 1)) (d5 m_law_draw (a0 (dV 0) (a0 (dC (.int 3)) b0)))) (a0 (dOp k0 (dC (.int 1)) (d5 m_law_draw (a0 (dV 0) (a0 (dC (.int 2)) b0)))) b0))) (d8 6)) (d7 (p9 7 8 (a0 (d5 m_law_product (a0 (dV 6) (a0 (i7 (a0 (dC (.int 3)) (a0 (dC (.int 1)) b0))) b0))) (a0 (d5 m_law_product (a0 (dV 6) (a0 (i7 (a0 (dC (.int 4)) (a0 (dC (.int 1)) b0))) b0))) b0))) (d7 (K1 9 (m6 (a0 (dV 2) (a0 (d5 m_law_gone (a0 (dV 2) (a0 (dV 7) (a0 (i7 (a0 (dC (.int 0)) (a0 (dC (.int 1)) b0))) b0)))) (a0 (d5 m_law_gone (a0 (dV 2) (a0 (dV 7) (a0 (dV 8) b0)))) (a0 (d5 m_law_gone (a0 (dV 2) (a0 (i7 (a0 (dC (.int 0)) (a0 (dC (.int 1)) b0))) (a0 (dV 8) b0)))) b0)))))) (d7 (g6 (dOp pIx (l0 (m6 (a0 (i7 (a0 (dC (.int 0)) (a0 (dC (.int 1)) (a0 (dC (.int 2)) b0)))) (a0 (i7 (a0 (dC (.int 0)) (a0 (dC (.int 2)) (a0 (dC (.int 1)) b0)))) (a0 (i7 (a0 (dC (.int 0)) (a0 (dC (.int 2)) (a0 (dC (.int 1)) (a0 (dC (.int 3)) b0))))) (a0 (i7 (a0 (dC (.int 0)) (a0 (dC (.int 1)) (a0 (dC (.int 3)) (a0 (dC (.int 2)) b0))))) (a0 (i7 (a0 (dC (.int 3)) (a0 (dC (.int 1)) (a0 (dC (.int 0)) b0)))) b0))))))) (d5 m_law_draw (a0 (dV 0) (a0 (dC (.int 5)) b0)))) (d8 10)) (i3 (i7 (a0 (dC (.bl true)) (a0 (dCB (one C7) (a0 (l0 (a1k [9] (B5 [9] (C1 (dV 10)) w6 (dOp pIx (dL 1) (dL 0))))) b0)) b0)))))))))))
noncomputable def a4n (m_law_draw : DFn) (m_law_gone : DFn) (m_law_product : DFn) (m_law_fraction : DFn) (m_law_way : DFn) (m_law_place : DFn) : DFn := mFn 11 (a1e m_law_draw m_law_gone m_law_product m_law_fraction m_law_way m_law_place)
noncomputable def a2X (m_law_sum : DFn) (m_law_product : DFn) : DM := (d7 (g6 (d5 m_law_product (a0 (dOp pIx (dL 0) (dC (.int 0))) (a0 (dOp pIx (dL 1) (dC (.int 1))) b0))) (d8 2)) (d7 (g6 (d5 m_law_product (a0 (dOp pIx (dL 0) (dC (.int 1))) (a0 (dOp pIx (dL 1) (dC (.int 0))) b0))) (d8 3)) (d7 (g6 (d5 m_law_sum (a0 (d5 m_law_product (a0 (dOp pIx (dL 0) (dC (.int 0))) (a0 (dOp pIx (dL 1) (dC (.int 0))) b0))) (a0 (d5 m_law_product (a0 (dOp pIx (dL 0) (dC (.int 1))) (a0 (dOp pIx (dL 1) (dC (.int 1))) b0))) b0))) (d8 4)) (i3 (t0 (dOp pEq (dL 2) (dL 3)) (dOp (j5 (fun i j => decide (j < i))) (dOp pIx (dL 4) (dC (.int 0))) (dC (.int 0))))))))
noncomputable def a2E (m_law_sum : DFn) (m_law_product : DFn) : DFn := mFn 5 (a2X m_law_sum m_law_product)
noncomputable abbrev a2H (m_law_goes_on : DFn) (m_law_gone : DFn) (m_law_draw : DFn) (m_law_minus : DFn) (m_law_way : DFn) (m_law_place : DFn) : DM := (d7 (g6 (d5 m_law_way (a0 (dV 0) b0)) (d8 5)) (d7 (j6 (o7 (dB (dOp pNe (dL 3) (l0 (m6 b0)))) (dB (dOp pEq (d5 m_law_draw (a0 (dV 0) (a0 (dC (.int 8)) b0))) (dC (.int 0))))) (K1 5 (m6 (a0 (d5 m_law_minus (a0 (dOp pIx (dOp pIx (dL 3) (dUn o0 (dC (.int 1)))) (dC (.int 0))) b0)) (a0 (d5 m_law_minus (a0 (dOp pIx (dOp pIx (dL 3) (dUn o0 (dC (.int 1)))) (dC (.int 1))) b0)) (a0 (dOp pIx (dOp pIx (dL 3) (dUn o0 (dC (.int 1)))) (dC (.int 2))) b0))))) j9) (j6 (dOr (dB (dOp pEq (dL 3) (l0 (m6 b0)))) (o9 (dTr (d5 m_law_goes_on (a0 (dOp pIx (dL 3) (dUn o0 (dC (.int 1)))) (a0 (dV 5) b0)))))) (d7 (J4 3 (dV 5)) (J4 2 (d5 m_law_gone (a0 (dOp pIx (dL 2) (dUn o0 (dC (.int 1)))) (a0 (dOp pIx (dL 5) (dC (.int 0))) (a0 (dOp pIx (dL 5) (dC (.int 1))) b0)))))) j9)))
noncomputable def a3w (m_law_goes_on : DFn) (m_law_gone : DFn) (m_law_draw : DFn) (m_law_minus : DFn) (m_law_way : DFn) (m_law_place : DFn) : DM := (d7 (K1 2 (m6 (a0 (d5 m_law_place (a0 (dV 0) b0)) b0))) (d7 (K1 3 (m6 b0)) (d7 (a09 (a0 (dOp k0 (dC (.int 1)) (d5 m_law_draw (a0 (dV 0) (a0 (dOp n8 (dL 1) (dC (.int 1))) b0)))) b0) (d8 4) (a2H m_law_goes_on m_law_gone m_law_draw m_law_minus m_law_way m_law_place)) (i3 (i7 (a0 (dC (.bl false)) (a0 (dCB (one C7) (a0 (dL 2) b0)) b0)))))))
noncomputable def a4r (m_law_goes_on : DFn) (m_law_gone : DFn) (m_law_draw : DFn) (m_law_minus : DFn) (m_law_way : DFn) (m_law_place : DFn) : DFn := mFn 6 (a3w m_law_goes_on m_law_gone m_law_draw m_law_minus m_law_way m_law_place)
noncomputable def a2w (m_law_draw : DFn) (m_law_closed_line : DFn) (m_law_open_line : DFn) : DM := (i3 (dIf (dB (dOp pEq (d5 m_law_draw (a0 (dV 0) (a0 (dC (.int 4)) b0))) (dC (.int 0)))) (d5 m_law_closed_line (a0 (dV 0) b0)) (d5 m_law_open_line (a0 (dV 0) (a0 (dV 1) b0)))))
noncomputable def a3m (m_law_draw : DFn) (m_law_closed_line : DFn) (m_law_open_line : DFn) : DFn := mFn 2 (a2w m_law_draw m_law_closed_line m_law_open_line)
end T

namespace T
open PySem PySem.Spec L2 DL
noncomputable def a3b : DM := (d7 (g6 (dOp k0 (dOp pIx (dL 0) (dC (.int 1))) (dSl (dOp pIx (dL 0) (dC (.int 1))) dNo (dAt (dCB (one a3s) (a0 (dOp pIx (dL 0) (dC (.int 0))) b0))))) (d8 1)) (i3 (dCB (one C7) (a0 (l0 (B5 [1] (M6 (a0 (dOp n8 (dCB (one m7) (a0 (dL 1) b0)) (dC (.int 1))) b0)) w6 (i7 (a0 (dOp pIx (dL 1) (dL 0)) (a0 (dOp pIx (dL 1) (dOp k0 (dL 0) (dC (.int 1)))) b0))))) b0))))
noncomputable def Q2 : DFn := mFn 2 (a3b)
noncomputable abbrev b3f : DM := (g6 (dOp m5 (dL 2) (dC (.int 2))) (d8 2))
noncomputable abbrev a7V : DM := (d7 (g6 (dOp B1 (dOp k0 (dL 1) (dL 2)) (dC (.int 2))) (d8 3)) (g6 (dIf (dB (dOp (j5 (fun i j => decide (i ≤ j))) (dOp m5 (dL 3) (dL 3)) (dL 0))) (i7 (a0 (dV 3) (a0 (dV 2) b0))) (i7 (a0 (dV 1) (a0 (dV 3) b0)))) (o6 2 (m9 (d8 1) (m9 (d8 2) o8)))))
noncomputable def a2K : DM := (d7 (g6 (i7 (a0 (dC (.int 0)) (a0 (dC (.int 1)) b0))) (o6 2 (m9 (d8 1) (m9 (d8 2) o8)))) (d7 (C8 (dB (dOp (j5 (fun i j => decide (i ≤ j))) (dOp m5 (dL 2) (dL 2)) (dL 0))) (b3f)) (d7 (C8 (dB (dOp (j5 (fun i j => decide (j < i))) (dOp n8 (dL 2) (dL 1)) (dC (.int 1)))) (a7V)) (i3 (dV 1)))))
noncomputable def W2 : DFn := mFn 4 (a2K)
noncomputable def a4P (m_law_product : DFn) (m_law_root : DFn) (m_law_sum : DFn) (m_law_minus : DFn) (m_law_xy : DFn) : DM := (d7 (g6 (d5 m_law_sum (a0 (dOp pIx (d5 m_law_xy (a0 (dV 1) b0)) (dC (.int 0))) (a0 (d5 m_law_minus (a0 (dOp pIx (d5 m_law_xy (a0 (dV 0) b0)) (dC (.int 0))) b0)) b0))) (d8 2)) (d7 (g6 (d5 m_law_sum (a0 (dOp pIx (d5 m_law_xy (a0 (dV 1) b0)) (dC (.int 1))) (a0 (d5 m_law_minus (a0 (dOp pIx (d5 m_law_xy (a0 (dV 0) b0)) (dC (.int 1))) b0)) b0))) (d8 3)) (d7 (g6 (d5 m_law_sum (a0 (d5 m_law_product (a0 (dV 2) (a0 (dV 2) b0))) (a0 (d5 m_law_product (a0 (dV 3) (a0 (dV 3) b0))) b0))) (d8 4)) (d7 (g6 (i7 (a0 (d5 m_law_root (a0 (dOp pIx (dL 4) (dC (.int 0))) b0)) (a0 (d5 m_law_root (a0 (dOp pIx (dL 4) (dC (.int 1))) b0)) b0))) (d8 5)) (i3 (dIf (dB (dOp pEq (d5 m_law_product (a0 (dV 5) (a0 (dV 5) b0))) (dL 4))) (dV 5) (dC .non)))))))
noncomputable def a2W (m_law_product : DFn) (m_law_root : DFn) (m_law_sum : DFn) (m_law_minus : DFn) (m_law_xy : DFn) : DFn := mFn 6 (a4P m_law_product m_law_root m_law_sum m_law_minus m_law_xy)
noncomputable abbrev a8X : DM := (d7 (g6 (dOp m5 (dL 1) (dC (.int 2))) (d8 1)) (g6 (dOp B1 (dL 2) (dC (.int 4))) (d8 2)))
noncomputable def a3g : DM := (d7 (g6 (dC (.int 1)) (d8 1)) (d7 (g6 (dV 0) (d8 2)) (d7 (C8 (dB (dOp (j5 (fun i j => decide (j < i))) (dL 2) (dC (.int 0)))) (a8X)) (i3 (dV 1)))))
noncomputable def M8 : DFn := mFn 3 (a3g)
noncomputable abbrev b3k (m_above_root : DFn) : DM := (d7 (g6 (dV 2) (d8 1)) (g6 (dOp B1 (dOp k0 (dL 1) (dOp B1 (dL 0) (dL 1))) (dC (.int 2))) (d8 2)))
noncomputable def a1a (m_above_root : DFn) : DM := (d7 (j6 (dB (dOp pEq (dL 0) (dC (.int 0)))) (i3 (dC (.int 0))) j9) (d7 (g6 (d5 m_above_root (a0 (dV 0) b0)) (d8 1)) (d7 (g6 (dOp B1 (dOp k0 (dL 1) (dOp B1 (dL 0) (dL 1))) (dC (.int 2))) (d8 2)) (d7 (C8 (dB (dOp (j5 (fun i j => decide (i < j))) (dL 2) (dL 1))) (b3k m_above_root)) (i3 (dV 1))))))
noncomputable def T9 (m_above_root : DFn) : DFn := mFn 3 (a1a m_above_root)
noncomputable def a3r (m_root_below : DFn) : DM := (d7 (j6 (dB (dOp (j5 (fun i j => decide (i < j))) (dOp pIx (dL 0) (dC (.int 0))) (dC (.int 0)))) (i3 (dC .non)) j9) (d7 (g6 (d5 m_root_below (a0 (dOp pIx (dL 0) (dC (.int 0))) b0)) (d8 1)) (d7 (g6 (d5 m_root_below (a0 (dOp pIx (dL 0) (dC (.int 1))) b0)) (d8 2)) (d7 (j6 (dOr (dB (dOp pNe (dOp m5 (dL 1) (dL 1)) (dOp pIx (dL 0) (dC (.int 0))))) (dB (dOp pNe (dOp m5 (dL 2) (dL 2)) (dOp pIx (dL 0) (dC (.int 1)))))) (i3 (dC .non)) j9) (i3 (i7 (a0 (dV 1) (a0 (dV 2) b0))))))))
noncomputable def a0R (m_root_below : DFn) : DFn := mFn 3 (a3r m_root_below)
noncomputable def a7r (m_pieces : DFn) (m_root : DFn) (m_squared : DFn) : DM := (i3 (dCB (one C7) (a0 (l0 (E1 [] (C1 (d5 m_pieces (a0 (dV 0) b0))) w6 (d5 m_root (a0 (d5 m_squared (a0 (dV 0) (a0 (dV 1) b0))) b0)))) b0)))
noncomputable def a1R (m_pieces : DFn) (m_root : DFn) (m_squared : DFn) : DFn := mFn 1 (a7r m_pieces m_root m_squared)
noncomputable def a7m (m_lengths : DFn) : DM := (i3 (dOp N7 (dC .non) (d5 m_lengths (a0 (dV 0) b0))))
noncomputable def a3e (m_lengths : DFn) : DFn := mFn 1 (a7m m_lengths)
noncomputable abbrev W3 (m_is_line : DFn) (m_is_exact : DFn) (m_lengths : DFn) (m_pieces : DFn) (m_law_length : DFn) (m_law_pieces : DFn) (m_law_draw : DFn) (m_law_place : DFn) (m_law_line : DFn) (m_law_feed : DFn) : DM := (d7 (g6 (d5 m_law_line (a0 (dV 1) (a0 (dC (.int 7)) b0))) (d8 3)) (d7 (j6 (dB (dOp pEq (dOp A5 (dL 2) (dC (.int 3))) (dC (.int 2)))) (g6 (i7 (a0 (dC (.bl false)) (a0 (dCB (one C7) (a0 (l0 (B5 [1] (M6 (a0 (dOp k0 (dC (.int 2)) (d5 m_law_draw (a0 (dV 1) (a0 (dC (.int 5)) b0)))) b0)) w6 (d5 m_law_place (a0 (dV 1) b0)))) b0)) b0))) (d8 3)) j9) (j6 (dTr (d5 m_is_line (a0 (dV 3) b0))) (d7 (g6 (dCB (one w9) (a0 (dL 3) b0)) (d8 4)) (d7 (g6 (d5 m_law_pieces (a0 (dV 3) b0)) (d8 5)) (d7 (g6 (dCB (one C7) (a0 (l0 (E1 [] (C1 (dV 5)) w6 (d5 m_law_length (a0 (dV 0) (a0 (dV 1) b0))))) b0)) (d8 6)) (d7 (j6 (dOr (dB (dOp pNe (dCB (one w9) (a0 (d5 m_pieces (a0 (dV 3) b0)) b0)) (dCB (one w9) (a0 (dL 5) b0)))) (dB (dOp pNe (dCB (one w9) (a0 (d5 m_lengths (a0 (dV 3) b0)) b0)) (dCB (one w9) (a0 (dL 6) b0))))) (i3 (dC (.bl false))) j9) (j6 (dOr (dB (dOp pNe (dCB (one w9) (a0 (d5 m_is_exact (a0 (dV 3) b0)) b0)) (dCB (one w9) (a0 (dOp N7 (dC .non) (dL 6)) b0)))) (dOr (o7 (dB (dOp (j5 (fun i j => decide (i < j))) (dOp A5 (dL 2) (dC (.int 3))) (dC (.int 2)))) (dB (dOp pIn (dC .non) (dL 6)))) (dB (dOp pNe (dCB (one w9) (a0 (dL 3) b0)) (dL 4))))) (i3 (dC (.bl false))) j9))))) j9)))
noncomputable def a4i (m_is_line : DFn) (m_is_exact : DFn) (m_lengths : DFn) (m_pieces : DFn) (m_law_length : DFn) (m_law_pieces : DFn) (m_law_draw : DFn) (m_law_place : DFn) (m_law_line : DFn) (m_law_feed : DFn) : DM := (d7 (g6 (d5 m_law_feed (a0 (dV 0) b0)) (d8 1)) (d7 (a09 (a0 (dC (.int 8)) b0) (d8 2) (W3 m_is_line m_is_exact m_lengths m_pieces m_law_length m_law_pieces m_law_draw m_law_place m_law_line m_law_feed)) (i3 (dC (.bl true)))))
noncomputable def a2Q (m_is_line : DFn) (m_is_exact : DFn) (m_lengths : DFn) (m_pieces : DFn) (m_law_length : DFn) (m_law_pieces : DFn) (m_law_draw : DFn) (m_law_place : DFn) (m_law_line : DFn) (m_law_feed : DFn) : DFn := mFn 7 (a4i m_is_line m_is_exact m_lengths m_pieces m_law_length m_law_pieces m_law_draw m_law_place m_law_line m_law_feed)
end T

namespace DL
open PySem L2
theorem a00 {n k : Nat} (hk : 0 < k) (h : n < 2 ^ k) : n.log2 < k := by
 by_cases h0 : n = 0
 ·subst h0; simpa using hk
 ·exact (Nat.log2_lt h0).mpr h
theorem a0L {i : Int} (h : i.natAbs < 2 ^ 200) : x8 i = true := by
 have := a00 (by decide) h
 exact decide_eq_true (by first | decide | omega)
theorem a9R {j : Int} (h0 : j ≠ 0) (h : j.natAbs < 2 ^ 200) : D2 j = true := by
 have := a00 (by decide) h
 unfold D2
 rw [decide_eq_true h0, Bool.true_and]
 exact decide_eq_true (by first | decide | omega)
theorem a7x (i : Int) : y7 (.int i) = true := by simp [y7, D.plain, D.py, SeqAt.shaped, PyData.canLay0, PyData.depth]
theorem J3 (i j : Int) : pNe (.int i) (.int j) = some (.bl (!decide (i = j))) := by
 simp only [pNe, a7x, Bool.and_self, if_true, D.py, PyData.eqv, Bool.beq_eq_decide_eq]
theorem E2 (i j : Int) : pEq (.int i) (.int j) = some (.bl (decide (i = j))) := by
 simp only [pEq, a7x, Bool.and_self, if_true, D.py, PyData.eqv, Bool.beq_eq_decide_eq]
theorem a8L (x y : Str) : pNe (.str x) (.str y) = some (.bl (!decide (x = y))) := rfl
theorem a9a (a b c d : Int) : pEq (.tup [.int a, .int b]) (.tup [.int c, .int d]) = some (.bl (decide (a = c) && decide (b = d))) := by
 have h : ∀ a b : Int, y7 (.tup [.int a, .int b]) = true := fun a b => by simp [y7, D.plain, D.plains, D.py, D.pys, SeqAt.shaped, PyData.canLay0, PyData.canLayAll0, PyData.depth, PyData.depthAll]
 simp only [pEq, h, Bool.and_self, if_true, D.py, D.pys, PyData.eqv, PyData.eqvAll, Bool.beq_eq_decide_eq, Bool.and_true]
theorem b1t {i : Int} (h : i.natAbs.log2 < 1920) : (PySem.Str.ofString (toString i)).length ≤ 1921 := PyProof.Rows.int_text_len_1921 h
theorem a90 (b : Bool) : M3 (.bl b) = true := by cases b <;> (simp only [M3, D.plain, D.py, PyData.showable, PyData.canLay0, PyData.depth, PyData.shown, Bool.and_true, Bool.true_and]; decide +kernel)
theorem a5C {d : D} (h : M3 d = true) : w9 d = some (.str d.py.shown) := by unfold w9; rw [if_pos h]
theorem a5S (f : FS) (h : f.kind = 0) : f.get "at" = some (.int f.pos) := by unfold FS.get; rw [if_pos h, if_neg (by decide +kernel), if_pos rfl]
theorem a3d {α : Type} {xs : List α} {i : Int} (h0 : 0 ≤ i) (h1 : i < xs.length) : atI xs i = xs[i.toNat]? := by
 unfold atI ixN
 rw [if_pos h0, if_pos h1]
 rfl
theorem P0 {a b : Int} (h : 0 < b) : 0 ≤ a.fmod b ∧ a.fmod b < b := by
 rw [Int.fmod_eq_emod_of_nonneg a (by first | decide | omega)]
 exact ⟨Int.emod_nonneg a (by first | decide | omega), Int.emod_lt_of_pos a h⟩
end DL

namespace DL
open PySem L2
theorem j7 {a b : DM} {s s1 : DS} (h : a s = some (.next, s1)) : d7 a b s = b s1 := by simp [d7, h, t6]
theorem K9 {a b : DM} {s s1 : DS} {d : D} (h : a s = some (.ret d, s1)) : d7 a b s = some (.ret d, s1) := by simp [d7, h, t6]
theorem b1Y {f : DE} {i : Nat} {s s1 : DS} {d : D} (h : f s = some (d, s1)) : g6 f (d8 i) s = some (.next, { s1 with sl := s1.sl.set i (.val d) }) := by simp [g6, h, d8]
theorem B0 {m : DFn} {a : DA} {s s1 : DS} {xs : List D} {d : D} {fs : Option FS} (ha : a s = some (xs, s1)) (hm : m xs s1.fs = some (d, fs)) : d5 m a s = some (d, { s1 with fs := fs }) := by
 unfold d5
 rw [ha, Option.bind_some, hm]
 rfl
theorem e8 {p : D → D → Option D} {a b : DE} {s s1 s2 : DS} {x y z : D} (h1 : a s = some (x, s1)) (h2 : b s1 = some (y, s2)) (h3 : p x y = some z) : dOp p a b s = some (z, s2) := by
 unfold dOp
 rw [h1, Option.bind_some, h2, Option.bind_some, h3]
 rfl
theorem n0 {a : DE} {b : DA} {s s1 s2 : DS} {x : D} {xs : List D} (h1 : a s = some (x, s1)) (h2 : b s1 = some (xs, s2)) : a0 a b s = some (x :: xs, s2) := by
 unfold a0
 rw [h1, Option.bind_some, h2]
 rfl
theorem u6 {f : DE} {t : D → DS → Option DS} {s s1 s2 : DS} {d : D} (h1 : f s = some (d, s1)) (h2 : t d s1 = some s2) : g6 f t s = some (.next, s2) := by
 unfold g6
 rw [h1, Option.bind_some, h2]
 rfl
theorem J7 {c : DT} {a b : DM} {s s1 : DS} (h : c s = some (true, s1)) : j6 c a b s = a s1 := by simp [j6, h]
theorem V1 {c : DT} {a b : DM} {s s1 : DS} (h : c s = some (false, s1)) : j6 c a b s = b s1 := by simp [j6, h]
theorem A8 {f : DE} {s s1 : DS} {d : D} (h : f s = some (d, s1)) : i3 f s = some (.ret d, s1) := by simp [i3, h]
theorem B4 {f : DE} {s s1 : DS} {b : Bool} (h : f s = some (.bl b, s1)) : dB f s = some (b, s1) := by simp [dB, h]
theorem v0 {n : Nat} {b : DM} {ds : List D} {fs : Option FS} {d : D} {s : DS} (h : b ⟨ds.map .val ++ List.replicate (n - ds.length) .no, fs⟩ = some (.ret d, s)) : mFn n b ds fs = some (d, s.fs) := by simp [mFn, h]
theorem w4 {m : DFn} {a : DA} {sl : List Sl} {fs : Option FS} {xs : List D} {d : D} (ha : a ⟨sl, fs⟩ = some (xs, ⟨sl, fs⟩)) (hm : m xs fs = some (d, fs)) : d5 m a ⟨sl, fs⟩ = some (d, ⟨sl, fs⟩) := B0 (s1 := ⟨sl, fs⟩) ha hm
theorem D7 {m : DFn} {a : DA} {sl : List Sl} {fs fs' : Option FS} {xs : List D} {d : D} (ha : a ⟨sl, fs⟩ = some (xs, ⟨sl, fs⟩)) (hm : m xs fs = some (d, fs')) : d5 m a ⟨sl, fs⟩ = some (d, ⟨sl, fs'⟩) := B0 (s1 := ⟨sl, fs⟩) ha hm
theorem a1F {m : DFn} {a : DA} {sl sl' : List Sl} {fs fs' fs2 : Option FS} {xs : List D} {d : D} (ha : a ⟨sl, fs⟩ = some (xs, ⟨sl', fs'⟩)) (hm : m xs fs' = some (d, fs2)) : d5 m a ⟨sl, fs⟩ = some (d, ⟨sl', fs2⟩) := B0 (s1 := ⟨sl', fs'⟩) ha hm
theorem a7K {a b c : DE} {s s1 s2 s3 : DS} {x y z : D} (h1 : a s = some (x, s1)) (h2 : b s1 = some (y, s2)) (h3 : c s2 = some (z, s3)) : i7 (a0 a (a0 b (a0 c b0))) s = some (.tup [x, y, z], s3) := by
 unfold i7
 rw [n0 h1 (n0 h2 (n0 h3 rfl)), Option.bind_some]
 exact if_pos (e := (none : Option (D × DS))) (show 3 ≤ sizeLine by decide)
theorem V4 {a b : DE} {s s1 s2 : DS} {x y : D} (h1 : a s = some (x, s1)) (h2 : b s1 = some (y, s2)) : i7 (a0 a (a0 b b0)) s = some (.tup [x, y], s2) := by
 unfold i7
 rw [n0 h1 (n0 h2 rfl), Option.bind_some]
 exact if_pos (e := (none : Option (D × DS))) (show 2 ≤ sizeLine by decide)
theorem a2c {f : DE} {s s1 : DS} {b : Bool} (h : f s = some (.bl b, s1)) : dTr f s = some (b, s1) := by
 unfold dTr
 rw [h]
 rfl
theorem a2J {a : DT} {s s1 : DS} {b : Bool} (h : a s = some (b, s1)) : o9 a s = some (!b, s1) := by
 unfold o9
 rw [h]
 rfl
theorem a5b {a b : DT} {s s1 : DS} {r : Option (Bool × DS)} (h1 : a s = some (true, s1)) (h2 : b s1 = r) : o7 a b s = r := by
 unfold o7
 rw [h1, Option.bind_some, if_pos rfl]
 exact h2
theorem a65 {a b : DT} {s s1 : DS} (h1 : a s = some (false, s1)) : o7 a b s = some (false, s1) := by
 unfold o7
 rw [h1, Option.bind_some, if_neg Bool.false_ne_true]
theorem a2I {a b : DT} {s s1 : DS} (h1 : a s = some (true, s1)) : dOr a b s = some (true, s1) := by
 unfold dOr
 rw [h1, Option.bind_some, if_pos rfl]
theorem N6 {a b : DT} {s s1 : DS} {r : Option (Bool × DS)} (h1 : a s = some (false, s1)) (h2 : b s1 = r) : dOr a b s = r := by
 unfold dOr
 rw [h1, Option.bind_some, if_neg Bool.false_ne_true]
 exact h2
theorem N8 {c : DT} {a : DM} {s s1 : DS} (h : c s = some (false, s1)) : j6 c a j9 s = some (.next, s1) := by
 rw [V1 h]
 rfl
theorem a4U {i : Nat} {f : DA} {s s1 : DS} {ds : List D} (h : f s = some (ds, s1)) (hi : i < s1.sl.length) : K1 i f s = some (.next, { s1 with sl := s1.sl.set i (.own ds) }) := by
 unfold K1
 rw [h, Option.bind_some, if_pos hi]
theorem b0T {idx : List Nat} {fi : DA} {fc : DT} {fe : DE} {s s1 : DS} {ds R : List D} {fs' : Option FS} (h : fi s = some (ds, s1)) (hz : ds.length ≤ sizeLine) (c : A9 (mk2 idx s1.sl) fc fe ds s1.fs = some (R, fs')) : E1 idx fi fc fe s = some (R, { s1 with fs := fs' }) := by
 unfold E1
 rw [h, Option.bind_some, if_pos hz, c]
 rfl
theorem P4 {f : DA} {s s1 : DS} {ds : List D} (h : f s = some (ds, s1)) : l0 f s = some (.lst ds, s1) := by
 unfold l0
 rw [h]
 rfl
theorem b3v {idx : List Nat} {fi : DA} {fc : DT} {fe : DE} {s s1 : DS} {ds R : List D} (h : fi s = some (ds, s1)) (hz : ds.length ≤ sizeLine) (c : A9 (fun d => some (.val d :: C6 idx s1.sl)) fc fe ds s1.fs = some (R, s1.fs)) : B5 idx fi fc fe s = some (R, s1) := by
 unfold B5
 rw [h, Option.bind_some, if_pos hz, c]
 rfl
theorem a5Q {i : Nat} {f : DE} {s s1 : DS} {ds ds0 : List D} {d : D} (h0 : s.sl[i]? = some (.own ds0)) (h : f s = some (d, s1)) (h1 : s1.sl[i]? = some (.own ds)) (hl : ds.length < sizeLine) : J4 i f s = some (.next, { s1 with sl := s1.sl.set i (.own (ds ++ [d])) }) := by
 unfold J4
 rw [h0]
 show (f s).bind _ = _
 rw [h, Option.bind_some]
 show (match s1.sl[i]? with | some (.own ds) => _ | _ => _) = _
 rw [h1]
 exact if_pos hl
theorem b1P {a : DE} {s s1 : DS} {x : D} (h : a s = some (x, s1)) : m6 (a0 a b0) s = some ([x], s1) := by
 unfold m6
 rw [n0 h rfl, Option.bind_some]
 exact if_pos (e := (none : Option (List D × DS))) (show 1 ≤ sizeLine by decide)
theorem D8 {p : D → Option D} {a : DE} {s s1 : DS} {x d : D} (h : a s = some (x, s1)) (hp : p x = some d) : dCB (one p) (a0 a b0) s = some (d, s1) := by
 unfold dCB
 rw [n0 h rfl, Option.bind_some]
 show (p x).map _ = _
 rw [hp]
 rfl
theorem a3y {c : DT} {a b : DE} {s s1 : DS} (h : c s = some (true, s1)) : dIf c a b s = a s1 := by
 unfold dIf
 rw [h]
 rfl
theorem a4A {c : DT} {a b : DE} {s s1 : DS} (h : c s = some (false, s1)) : dIf c a b s = b s1 := by
 unfold dIf
 rw [h]
 rfl
noncomputable def fr (p : Rat) : D := .tup [.int p.num, .int p.den]
noncomputable def Sz (k : Nat) (p : Rat) : Prop := p.num.natAbs < 2 ^ k ∧ p.den < 2 ^ k
theorem Sz.mono {k l : Nat} {p : Rat} (h : Sz k p) (hl : k ≤ l) : Sz l p :=
 ⟨Nat.lt_of_lt_of_le h.1 (Nat.pow_le_pow_right (by decide) hl), Nat.lt_of_lt_of_le h.2 (Nat.pow_le_pow_right (by decide) hl)⟩
theorem a3p {a b : Int} (hb : b ≠ 0) : (Rat.divInt a b).num.natAbs ≤ a.natAbs ∧ (Rat.divInt a b).den ≤ b.natAbs := by
 constructor
 ·rw [Rat.num_divInt, Int.natAbs_ediv_of_dvd (Int.dvd_mul_of_dvd_right (Int.gcd_dvd_right ..))]
  rw [Int.natAbs_mul, Int.natAbs_sign_of_ne_zero hb, Nat.one_mul]
  exact Nat.div_le_self _ _
 ·rw [Rat.den_divInt, if_neg hb]
  exact Nat.div_le_self _ _
theorem Sz.of_divInt {k : Nat} {a b : Int} (hb : b ≠ 0) (h1 : a.natAbs < 2 ^ k) (h2 : b.natAbs < 2 ^ k) : Sz k (Rat.divInt a b) :=
 ⟨Nat.lt_of_le_of_lt (a3p hb).1 h1, Nat.lt_of_le_of_lt (a3p hb).2 h2⟩
theorem a6N {a b k l : Nat} (h1 : a < 2 ^ k) (h2 : b < 2 ^ l) : a * b < 2 ^ (k + l) := by
 rw [Nat.pow_add]
 exact Nat.mul_lt_mul_of_lt_of_lt h1 h2
theorem b3u {a b k : Nat} (h1 : a < 2 ^ k) (h2 : b < 2 ^ k) : a + b < 2 ^ (k + 1) := by
 rw [Nat.pow_succ]; omega
noncomputable def Bd (k : Nat) (i : Int) : Prop := i.natAbs < 2 ^ k
theorem Bd.mono {k l : Nat} {i : Int} (h : Bd k i) (hl : k ≤ l) : Bd l i := Nat.lt_of_lt_of_le h (Nat.pow_le_pow_right (by decide) hl)
theorem Bd.mul {k l : Nat} {i j : Int} (h1 : Bd k i) (h2 : Bd l j) : Bd (k + l) (i * j) := by
 unfold Bd; rw [Int.natAbs_mul]; exact a6N h1 h2
theorem Bd.add {k l : Nat} {i j : Int} (h1 : Bd k i) (h2 : Bd l j) : Bd (max k l + 1) (i + j) :=
 Nat.lt_of_le_of_lt (Int.natAbs_add_le i j) (b3u (h1.mono (Nat.le_max_left ..)) (h2.mono (Nat.le_max_right ..)))
theorem Bd.neg {k : Nat} {i : Int} (h1 : Bd k i) : Bd k (-i) := by unfold Bd; rw [Int.natAbs_neg]; exact h1
theorem Bd.sub {k l : Nat} {i j : Int} (h1 : Bd k i) (h2 : Bd l j) : Bd (max k l + 1) (i - j) := by rw [Int.sub_eq_add_neg]; exact h1.add h2.neg
theorem Bd.gcd {k : Nat} {i : Int} {j : Int} (h : Bd k j) (hj : j ≠ 0) : Bd k (Int.gcd i j : Int) := by
 have : Int.gcd i j ≤ j.natAbs := Nat.le_of_dvd (by first | decide | omega) (Nat.gcd_dvd_right i.natAbs j.natAbs)
 exact Nat.lt_of_le_of_lt this h
theorem Bd.bits {k : Nat} {i : Int} (h : Bd k i) (hk : k ≤ 8000) : x8 i = true := by
 have := a00 (k := 8000) (by decide) (h.mono hk)
 exact decide_eq_true (by first | decide | omega)
theorem Bd.div {k : Nat} {i : Int} (h : Bd k i) (h0 : i ≠ 0) (hk : k ≤ 8000) : D2 i = true := by
 have := a00 (k := 8000) (by decide) (h.mono hk)
 unfold D2
 rw [decide_eq_true h0, Bool.true_and]
 exact decide_eq_true (by first | decide | omega)
theorem Sz.num {k : Nat} {p : Rat} (h : Sz k p) : Bd k p.num := h.1
theorem Sz.den {k : Nat} {p : Rat} (h : Sz k p) : Bd k (p.den : Int) := h.2
theorem F0 (p : Rat) : (p.den : Int) ≠ 0 := by have := p.den_nz; omega
theorem den_pos (p : Rat) : (0 : Int) < p.den := by have := p.den_nz; omega
theorem a06 (p : Rat) : p = Rat.divInt p.num p.den := (Rat.num_divInt_den p).symm
theorem Sz.mul {k l : Nat} {p q : Rat} (h1 : Sz k p) (h2 : Sz l q) : Sz (k + l) (p * q) := by
 rw [a06 p, a06 q, Rat.divInt_mul_divInt]
 exact Sz.of_divInt (Int.mul_ne_zero (F0 p) (F0 q)) (Bd.mul h1.num h2.num) (Bd.mul h1.den h2.den)
theorem Sz.add {k l : Nat} {p q : Rat} (h1 : Sz k p) (h2 : Sz l q) : Sz (k + l + 1) (p + q) := by
 rw [a06 p, a06 q, Rat.divInt_add_divInt _ _ (F0 p) (F0 q)]
 refine Sz.of_divInt (Int.mul_ne_zero (F0 p) (F0 q)) ?_ (Bd.mono (Bd.mul h1.den h2.den) (by first | decide | omega))
 have e1 := Bd.mul h1.num h2.den
 have e2 := Bd.mul h2.num h1.den
 exact Bd.mono (Bd.add e1 e2) (by first | decide | omega)
theorem Sz.neg {k : Nat} {p : Rat} (h : Sz k p) : Sz k (-p) := ⟨by rw [Rat.neg_num, Int.natAbs_neg]; exact h.1, h.2⟩
theorem Sz.sub {k l : Nat} {p q : Rat} (h1 : Sz k p) (h2 : Sz l q) : Sz (k + l + 1) (p - q) := by rw [Rat.sub_eq_add_neg]; exact h1.add h2.neg
theorem Sz.int {k : Nat} {i : Int} (h : Bd k i) (hk : 1 ≤ k) : Sz k (i : Rat) := ⟨h, Nat.lt_of_lt_of_le (by decide : 1 < 2 ^ 1) (Nat.pow_le_pow_right (by decide) hk)⟩
theorem Sz.lit {k : Nat} {p : Rat} (h : decide (p.num.natAbs < 2 ^ k ∧ p.den < 2 ^ k) = true) : Sz k p := by unfold Sz; exact of_decide_eq_true h
theorem a7e {a b : Int} (hb : 0 < b) : (Rat.divInt a b).num = a / (Int.gcd a b : Int) := by
 rw [Rat.num_divInt, Int.gcd_comm, Int.sign_eq_one_of_pos hb, Int.one_mul]
theorem a3h {a b : Int} (hb : 0 < b) : ((Rat.divInt a b).den : Int) = b / (Int.gcd a b : Int) := by
 rw [Rat.den_divInt, if_neg (by first | decide | omega), Int.gcd_comm]
 rw [Int.natCast_ediv, Int.natAbs_of_nonneg (by first | decide | omega)]
end DL

namespace T
open PySem L2 DL
noncomputable abbrev gT : DT := dB (dOp pNe (dL 3) (dC (.int 0)))
noncomputable abbrev gB : DM := d7 (g6 (dOp A5 (dL 2) (dL 3)) (d8 4)) (d7 (g6 (dV 3) (d8 2)) (g6 (dV 4) (d8 3)))
theorem a6d (a b : Sl) (g r : Int) (x : Sl) (fs : Option FS) : gT ⟨[a, b, .val (.int g), .val (.int r), x], fs⟩ = some (!decide (r = 0), ⟨[a, b, .val (.int g), .val (.int r), x], fs⟩) := by
 simp [dB, dOp, dL, dC, J3]
theorem b0P (a b : Sl) (g r : Int) (x : Sl) (fs : Option FS) (h : r ≠ 0) : gB ⟨[a, b, .val (.int g), .val (.int r), x], fs⟩ =
  some (.next, ⟨[a, b, .val (.int r), .val (.int (g.fmod r)), .val (.int (g.fmod r))], fs⟩) := by
 simp [d7, t6, g6, dOp, dL, dV, d8, A5, h]
theorem b0m (a b : Sl) (fs : Option FS) (r : Nat) : ∀ (g : Nat) (x : Sl), ∃ y, C8 gT gB ⟨[a, b, .val (.int g), .val (.int r), x], fs⟩ = some (.next, ⟨[a, b, .val (.int (Nat.gcd g r)), .val (.int 0), y], fs⟩) := by
 induction r using Nat.strongRecOn with
 | ind r ih =>
  intro g x
  by_cases h : r = 0
  ·subst h
   refine ⟨x, ?_⟩
   rw [Nat.gcd_zero_right]
   exact Z3 (by rw [a6d]; rfl)
  ·have e : ((g : Int).fmod (r : Int)) = ((g % r : Nat) : Int) := by rw [Int.fmod_eq_emod_of_nonneg _ (by first | decide | omega)]; rfl
   obtain ⟨y, hy⟩ := ih (g % r) (Nat.mod_lt _ (by first | decide | omega)) r (.val (.int ((g : Int).fmod (r : Int))))
   refine ⟨y, ?_⟩
   have hg : Nat.gcd g r = Nat.gcd r (g % r) := by rw [Nat.gcd_comm g r, Nat.gcd_rec, Nat.gcd_comm]
   rw [hg]
   refine U3 (s1 := ⟨[a, b, .val (.int g), .val (.int r), x], fs⟩) (by rw [a6d, decide_eq_false (by first | decide | omega)]; rfl) (b0P _ _ _ _ _ _ (by first | decide | omega)) ?_
   rw [e] at hy ⊢
   exact hy
theorem a1o (a : Int) : (if a < 0 then -a else a) = ((a.natAbs : Nat) : Int) := by split <;> omega
theorem a6G (a b : Int) (fs : Option FS) : J2 [.int a, .int b] fs = some (.int (Int.gcd a b), fs) := by
 obtain ⟨y, hy⟩ := b0m (.val (.int a)) (.val (.int b)) fs b.natAbs a.natAbs .no
 refine v0 (s := ⟨[.val (.int a), .val (.int b), .val (.int (Int.gcd a b)), .val (.int 0), y], fs⟩) ?_
 show a3i ⟨[.val (.int a), .val (.int b), .no, .no, .no], fs⟩ = _
 unfold a3i
 rw [j7 (s1 := ⟨[.val (.int a), .val (.int b), .val (.int a.natAbs), .no, .no], fs⟩) (by simp [g6, dCB, a0, b0, dL, one, N4, d8, a1o])]
 rw [j7 (s1 := ⟨[.val (.int a), .val (.int b), .val (.int a.natAbs), .val (.int b.natAbs), .no], fs⟩) (by simp [g6, dCB, a0, b0, dL, one, N4, d8, a1o])]
 rw [j7 hy]
 exact A8 (by simp [dV, Int.gcd])
theorem a7c (a : Int) : Int.gcd 0 a = a.natAbs := by simp [Int.gcd]
theorem a68 (a b : Int) : Int.gcd ((a.natAbs : Nat) : Int) b = Int.gcd a b := by simp [Int.gcd]
theorem a6L (a b : Int) (fs : Option FS) : N0 J2 [.tup [.int a, .int b]] fs = some (.int (Int.gcd a b), fs) := by
 refine v0 (s := ⟨[.val (.tup [.int a, .int b]), .val (.int (Int.gcd a b)), .val (.int b)], fs⟩) ?_
 show a0H J2 ⟨[.val (.tup [.int a, .int b]), .no, .no], fs⟩ = _
 simp [a0H, a2y, d7, t6, g6, dC, d8, T7, dV, D6, d5, a0, b0, a6G, a7c, a68, i3]
theorem b1p (a b c : Int) (fs : Option FS) : N0 J2 [.tup [.int a, .int b, .int c]] fs = some (.int (Int.gcd (Int.gcd a b : Int) c), fs) := by
 refine v0 (s := ⟨[.val (.tup [.int a, .int b, .int c]), .val (.int (Int.gcd (Int.gcd a b : Int) c)), .val (.int c)], fs⟩) ?_
 show a0H J2 ⟨[.val (.tup [.int a, .int b, .int c]), .no, .no], fs⟩ = _
 simp [a0H, a2y, d7, t6, g6, dC, d8, T7, dV, D6, d5, a0, b0, a6G, a7c, a68, i3]
theorem a1I {a g c : Int} (hg : g ≠ 0) (e : a = g * c) : a.fdiv g = c := by subst e; exact Int.mul_fdiv_cancel_left c hg
theorem a62 (a b : Int) (hb : b ≠ 0) : let g : Int := if b < 0 then -(Int.gcd a b : Int) else (Int.gcd a b : Int)
  g ≠ 0 ∧ a.fdiv g = (Rat.divInt a b).num ∧ b.fdiv g = ((Rat.divInt a b).den : Int) := by
 intro g
 have g0 : 0 < Int.gcd a b := Int.gcd_pos_of_ne_zero_right a hb
 obtain ⟨c, hc⟩ := Int.gcd_dvd_left a b
 obtain ⟨d, hd⟩ := Int.gcd_dvd_right a b
 have e1 : (Rat.divInt a b).num = if b < 0 then -c else c := by
  rw [Rat.num_divInt, Int.gcd_comm]
  split
  ·rename_i h
   rw [Int.sign_eq_neg_one_of_neg h]
   refine Int.ediv_eq_of_eq_mul_right (by first | decide | omega) ?_
   grind
  ·rename_i h
   rw [Int.sign_eq_one_of_pos (by first | decide | omega), Int.one_mul]
   exact Int.ediv_eq_of_eq_mul_right (by first | decide | omega) hc
 have e2 : ((Rat.divInt a b).den : Int) = if b < 0 then -d else d := by
  rw [Rat.den_divInt, if_neg hb, Int.gcd_comm, Int.natCast_ediv]
  split
  ·refine Int.ediv_eq_of_eq_mul_right (by first | decide | omega) ?_
   grind
  ·refine Int.ediv_eq_of_eq_mul_right (by first | decide | omega) ?_
   grind
 rw [e1, e2]
 by_cases h : b < 0
 ·have eg : g = -(Int.gcd a b : Int) := if_pos h
  rw [eg, if_pos h, if_pos h]
  exact ⟨by omega, a1I (by first | decide | omega) (by grind), a1I (by first | decide | omega) (by grind)⟩
 ·have eg : g = (Int.gcd a b : Int) := if_neg h
  rw [eg, if_neg h, if_neg h]
  exact ⟨by omega, a1I (by first | decide | omega) hc, a1I (by first | decide | omega) hd⟩
theorem a6o {k : Nat} {a b : Int} (hb : b ≠ 0) (h : Bd k b) (hk : k ≤ 8000) : D2 (if b < 0 then -(Int.gcd a b : Int) else (Int.gcd a b : Int)) = true := by
 have g0 : 0 < Int.gcd a b := Int.gcd_pos_of_ne_zero_right a hb
 split
 ·exact (Bd.gcd h hb).neg.div (by first | decide | omega) hk
 ·exact (Bd.gcd h hb).div (by first | decide | omega) hk
theorem sz2 : (2 : Nat) ≤ sizeLine := by decide
theorem a1H (a b : D) : atI [a, b] (-1) = some b := V6 [a] b
theorem a6g (a b c : D) : atI [a, b, c] (-1) = some c := V6 [a, b] c
theorem J9 (a b : D) : atI [a, b] 0 = some a := rfl
theorem S5 (a b : D) : atI [a, b] 1 = some b := rfl
theorem a3u (a b c : D) : atI [a, b, c] 0 = some a := rfl
theorem a2T (a b c : D) : atI [a, b, c] 1 = some b := rfl
theorem a4k (a b c : D) : atI [a, b, c] 2 = some c := rfl
noncomputable abbrev FL : DFn := a1J (N0 J2)
noncomputable abbrev FF : DFn := a1M FL
theorem b3A {k : Nat} (a b : Int) (fs : Option FS) (hb : b ≠ 0) (h : Bd k b) (hk : k ≤ 8000) : FL [.tup [.int a, .int b]] fs = some (fr (Rat.divInt a b), fs) := by
 obtain ⟨p0, p1, p2⟩ := a62 a b hb
 have dg := a6o (a := a) hb h hk
 refine v0 (s := ⟨[.val (.tup [.int a, .int b]), .val (.int (if b < 0 then -(Int.gcd a b : Int) else (Int.gcd a b : Int)))], fs⟩) ?_
 show a2M (N0 J2) ⟨[.val (.tup [.int a, .int b]), .no], fs⟩ = _
 unfold a2M
 rw [j7 (s1 := ⟨[.val (.tup [.int a, .int b]), .val (.int (Int.gcd a b))], fs⟩) (by simp [g6, d5, a0, b0, dV, a6L, d8])]
 rw [j7 (s1 := ⟨[.val (.tup [.int a, .int b]), .val (.int (if b < 0 then -(Int.gcd a b : Int) else (Int.gcd a b : Int)))], fs⟩) (by
  by_cases nb : b < 0
  ·simp [d7, t6, g6, dOp, dUn, dC, dL, dV, d8, j6, dB, i3, d5, a0, b0, i7, j9, dCB, one, l0, m6, dIf, o7, dOr, o9, t0, u4, t9, pIx, k0, n8, o0, j5, m7, o6, m9, o8, p9, dTr, u0, a1H, nb]
  ·simp [d7, t6, g6, dOp, dUn, dC, dL, dV, d8, j6, dB, i3, d5, a0, b0, i7, j9, dCB, one, l0, m6, dIf, o7, dOr, o9, t0, u4, t9, pIx, k0, n8, o0, j5, m7, o6, m9, o8, p9, dTr, u0, a1H, nb])]
 generalize hg : (if b < 0 then -(Int.gcd a b : Int) else (Int.gcd a b : Int)) = gg at *
 refine A8 ?_
 unfold fr
 rw [← p1, ← p2]
 simp [dCB, a0, b0, l0, B5, C1, dV, sz2, A9, C6, Q1, w6, dOp, dL, B1, dg, one, C7]
theorem b3e {k : Nat} (a b : Int) (fs : Option FS) (hb : b ≠ 0) (h : Bd k b) (hk : k ≤ 8000) : FF [.int a, .int b] fs = some (fr (Rat.divInt a b), fs) := by
 refine v0 (s := ⟨[.val (.int a), .val (.int b)], fs⟩) ?_
 show a6B FL ⟨[.val (.int a), .val (.int b)], fs⟩ = _
 exact A8 (by simp [d5, a0, b0, i7, dV, sz2, b3A a b _ hb h hk])
end T

namespace T
open PySem L2 DL
noncomputable abbrev lgT : DT := dB (dOp (j5 (fun i j => decide (j < i))) (dL 3) (dC (.int 0)))
noncomputable abbrev lgB : DM := p9 2 3 (a0 (dV 3) (a0 (dOp A5 (dL 2) (dL 3)) b0))
theorem b0r (a b : Sl) (fs : Option FS) (r : Nat) : ∀ (g : Nat), C8 lgT lgB ⟨[a, b, .val (.int g), .val (.int r)], fs⟩ = some (.next, ⟨[a, b, .val (.int (Nat.gcd g r)), .val (.int 0)], fs⟩) := by
 induction r using Nat.strongRecOn with
 | ind r ih =>
  intro g
  by_cases h : r = 0
  ·subst h
   rw [Nat.gcd_zero_right]
   exact Z3 (by simp [d7, t6, g6, dOp, dUn, dC, dL, dV, d8, j6, dB, i3, d5, a0, b0, i7, j9, dCB, one, l0, m6, dIf, o7, dOr, o9, t0, u4, t9, pIx, k0, n8, o0, j5, m7, o6, m9, o8, p9, dTr, u0])
  ·have e : ((g : Int).fmod (r : Int)) = ((g % r : Nat) : Int) := by rw [Int.fmod_eq_emod_of_nonneg _ (by first | decide | omega)]; rfl
   have hy := ih (g % r) (Nat.mod_lt _ (by first | decide | omega)) r
   have hg : Nat.gcd g r = Nat.gcd r (g % r) := by rw [Nat.gcd_comm g r, Nat.gcd_rec, Nat.gcd_comm]
   rw [hg]
   have hr : ¬ (r : Int) = 0 := by omega
   have hr2 : (0 : Int) < r := by omega
   refine U3 (s1 := ⟨[a, b, .val (.int g), .val (.int r)], fs⟩) (s2 := ⟨[a, b, .val (.int r), .val (.int ((g % r : Nat) : Int))], fs⟩) (by simp [d7, t6, g6, dOp, dUn, dC, dL, dV, d8, j6, dB, i3, d5, a0, b0, i7, j9, dCB, one, l0, m6, dIf, o7, dOr, o9, t0, u4, t9, pIx, k0, n8, o0, j5, m7, o6, m9, o8, p9, dTr, u0]; omega) ?_ hy
   rw [← e]
   simp [p9, a0, b0, dV, dOp, dL, A5, h]
noncomputable abbrev LF : DFn := B6
noncomputable abbrev LS : DFn := a0d LF
noncomputable abbrev LP : DFn := U8 LF
theorem L6 {k : Nat} (a b : Int) (fs : Option FS) (hb : b ≠ 0) (h : Bd k b) (hk : k ≤ 8000) : LF [.int a, .int b] fs = some (fr (Rat.divInt a b), fs) := by
 obtain ⟨p0, p1, p2⟩ := a62 a b hb
 have dg := a6o (a := a) hb h hk
 have hy := b0r (.val (.int a)) (.val (.int b)) fs b.natAbs a.natAbs
 refine v0 (s := ⟨[.val (.int a), .val (.int b), .val (.int (if b < 0 then -(Int.gcd a b : Int) else (Int.gcd a b : Int))), .val (.int 0)], fs⟩) ?_
 show a3f ⟨[.val (.int a), .val (.int b), .no, .no], fs⟩ = _
 unfold a3f
 rw [j7 (s1 := ⟨[.val (.int a), .val (.int b), .val (.int a.natAbs), .no], fs⟩) (by simp [d7, t6, g6, dOp, dUn, dC, dL, dV, d8, j6, dB, i3, d5, a0, b0, i7, j9, dCB, one, l0, m6, dIf, o7, dOr, o9, t0, u4, t9, pIx, k0, n8, o0, j5, m7, o6, m9, o8, p9, dTr, u0, N4, a1o])]
 rw [j7 (s1 := ⟨[.val (.int a), .val (.int b), .val (.int a.natAbs), .val (.int b.natAbs)], fs⟩) (by simp [d7, t6, g6, dOp, dUn, dC, dL, dV, d8, j6, dB, i3, d5, a0, b0, i7, j9, dCB, one, l0, m6, dIf, o7, dOr, o9, t0, u4, t9, pIx, k0, n8, o0, j5, m7, o6, m9, o8, p9, dTr, u0, N4, a1o])]
 rw [j7 hy]
 rw [j7 (s1 := ⟨[.val (.int a), .val (.int b), .val (.int (if b < 0 then -(Int.gcd a b : Int) else (Int.gcd a b : Int))), .val (.int 0)], fs⟩) (by
  by_cases nb : b < 0
  ·simp [d7, t6, g6, dOp, dUn, dC, dL, dV, d8, j6, dB, i3, d5, a0, b0, i7, j9, dCB, one, l0, m6, dIf, o7, dOr, o9, t0, u4, t9, pIx, k0, n8, o0, j5, m7, o6, m9, o8, p9, dTr, u0, nb, Int.gcd]
  ·simp [d7, t6, g6, dOp, dUn, dC, dL, dV, d8, j6, dB, i3, d5, a0, b0, i7, j9, dCB, one, l0, m6, dIf, o7, dOr, o9, t0, u4, t9, pIx, k0, n8, o0, j5, m7, o6, m9, o8, p9, dTr, u0, nb, Int.gcd])]
 generalize hg : (if b < 0 then -(Int.gcd a b : Int) else (Int.gcd a b : Int)) = gg at *
 refine A8 ?_
 unfold fr
 rw [← p1, ← p2]
 simp [d7, t6, g6, dOp, dUn, dC, dL, dV, d8, j6, dB, i3, d5, a0, b0, i7, j9, dCB, one, l0, m6, dIf, o7, dOr, o9, t0, u4, t9, pIx, k0, n8, o0, j5, m7, o6, m9, o8, p9, dTr, u0, B1, dg, sz2]
theorem a9y (p q : Rat) : p + q = Rat.divInt (p.num * q.den + q.num * p.den) (p.den * q.den) := by
 rw [Rat.add_def', ← Rat.divInt_ofNat]; rfl
theorem a46 (p q : Rat) : p * q = Rat.divInt (p.num * q.num) (p.den * q.den) := by
 rw [Rat.mul_def', ← Rat.divInt_ofNat]; rfl
theorem a1m (p q : Rat) : (p.den : Int) * q.den ≠ 0 := Int.mul_ne_zero (F0 p) (F0 q)
theorem a0c {k l : Nat} (p q : Rat) (fs : Option FS) (h1 : Sz k p) (h2 : Sz l q) (hk : k + l ≤ 8000) : LS [fr p, fr q] fs = some (fr (p + q), fs) := by
 have b1 := h1.num.bits (by first | decide | omega)
 have b2 := h1.den.bits (by first | decide | omega)
 have b3 := h2.num.bits (by first | decide | omega)
 have b4 := h2.den.bits (by first | decide | omega)
 have e := L6 (p.num * q.den + q.num * p.den) (p.den * q.den) fs (a1m p q) (Bd.mul h1.den h2.den) hk
 rw [← a9y] at e
 refine v0 (s := ⟨[.val (fr p), .val (fr q), .val (.int (p.num * q.den + q.num * p.den))], fs⟩) ?_
 show a4z LF ⟨[.val (fr p), .val (fr q), .no], fs⟩ = _
 simp [a4z, d7, t6, g6, dOp, dUn, dC, dL, dV, d8, j6, dB, i3, d5, a0, b0, i7, j9, dCB, one, l0, m6, dIf, o7, dOr, o9, t0, u4, t9, pIx, k0, n8, o0, j5, m7, o6, m9, o8, p9, dTr, u0, fr, J9, S5, m5, b1, b2, b3, b4, e]
theorem L0 {k l : Nat} (p q : Rat) (fs : Option FS) (h1 : Sz k p) (h2 : Sz l q) (hk : k + l ≤ 8000) : LP [fr p, fr q] fs = some (fr (p * q), fs) := by
 have b1 := h1.num.bits (by first | decide | omega)
 have b2 := h1.den.bits (by first | decide | omega)
 have b3 := h2.num.bits (by first | decide | omega)
 have b4 := h2.den.bits (by first | decide | omega)
 have e := L6 (p.num * q.num) (p.den * q.den) fs (a1m p q) (Bd.mul h1.den h2.den) hk
 rw [← a46] at e
 refine v0 (s := ⟨[.val (fr p), .val (fr q)], fs⟩) ?_
 show a1b LF ⟨[.val (fr p), .val (fr q)], fs⟩ = _
 simp [a1b, d7, t6, g6, dOp, dUn, dC, dL, dV, d8, j6, dB, i3, d5, a0, b0, i7, j9, dCB, one, l0, m6, dIf, o7, dOr, o9, t0, u4, t9, pIx, k0, n8, o0, j5, m7, o6, m9, o8, p9, dTr, u0, fr, J9, S5, m5, b1, b2, b3, b4, e]
theorem a1E (p : Rat) (fs : Option FS) : L4 [fr p] fs = some (fr (-p), fs) := by
 refine v0 (s := ⟨[.val (fr p)], fs⟩) ?_
 show a4D ⟨[.val (fr p)], fs⟩ = _
 simp [a4D, d7, t6, g6, dOp, dUn, dC, dL, dV, d8, j6, dB, i3, d5, a0, b0, i7, j9, dCB, one, l0, m6, dIf, o7, dOr, o9, t0, u4, t9, pIx, k0, n8, o0, j5, m7, o6, m9, o8, p9, dTr, u0, fr, J9, S5, sz2]
theorem a61 (a : Int) (n : Nat) : a.fdiv (n : Int) = a / (n : Int) := Int.fdiv_eq_ediv_of_nonneg a (by first | decide | omega)
end T

namespace T
open PySem L2 DL
theorem W4 (a : Int) {b : Int} (h : b ≠ 0) : A5 (.int a) (.int b) = some (.int (a.fmod b)) := by simp [A5, h]
theorem Q9 (a : Int) {b : Int} (h : D2 b = true) : B1 (.int a) (.int b) = some (.int (a.fdiv b)) := by simp [B1, h]
theorem y0 {a b : Int} (h1 : x8 a = true) (h2 : x8 b = true) : m5 (.int a) (.int b) = some (.int (a * b)) := by simp [m5, h1, h2]
theorem a2B {i : Nat} {key : Str} {fe : DE} {s s1 : DS} {d : D} {r : Option (Fl × DS)} (h : fe s = some (d, s1)) (e : dFP i key (fun _ => some (d, s1)) s = r) : dFP i key fe s = r := by
 rw [← e]
 unfold dFP
 rw [h]
set_option maxHeartbeats 4000000 in
theorem b1l (f : FS) (many : Int) (hm : 0 < many) (hm2 : many < 2 ^ 100) (ht : 0 ≤ f.turn) (ht2 : f.turn < 2 ^ 40) (hk : f.kind = 0) :
  ∃ r f', z9 [.feed, .int many] (some f) = some (.int r, some f') ∧ 0 ≤ r ∧ r < many ∧ f'.turn = f.turn + 1 ∧ f'.kind = 0 := by
 have dm : D2 many = true := a9R (by first | decide | omega) (by first | decide | omega)
 have hne : many ≠ 0 := by omega
 obtain ⟨cs, ps, lf, tn, kd⟩ := f
 simp only at ht ht2 hk ⊢
 subst hk
 by_cases hl : 0 < lf
 ·refine ⟨lf.fmod many, ⟨cs, ps, lf.fdiv many, tn + 1, 0⟩, ?_, (P0 hm).1, (P0 hm).2, rfl, rfl⟩
  refine v0 (s := ⟨[.val .feed, .val (.int many), .val (.int (tn + 1)), .val (.int (lf.fmod many)), .no, .no, .no], some ⟨cs, ps, lf.fdiv many, tn + 1, 0⟩⟩) ?_
  show V7 ⟨[.val .feed, .val (.int many), .no, .no, .no, .no, .no], some ⟨cs, ps, lf, tn, 0⟩⟩ = _
  unfold V7
  rw [j7 (s1 := ⟨[.val .feed, .val (.int many), .val (.int (tn + 1)), .no, .no, .no, .no], some ⟨cs, ps, lf, tn, 0⟩⟩) (u6 (e8 rfl rfl rfl) rfl), j7 (s1 := ⟨[.val .feed, .val (.int many), .val (.int (tn + 1)), .no, .no, .no, .no], some ⟨cs, ps, lf, tn + 1, 0⟩⟩) rfl]
  have c0 : dB (dOp (j5 (fun i j => decide (j < i))) (dFG 0 "left") (dC (.int 0))) ⟨[.val .feed, .val (.int many), .val (.int (tn + 1)), .no, .no, .no, .no], some ⟨cs, ps, lf, tn + 1, 0⟩⟩ = some (true, ⟨[.val .feed, .val (.int many), .val (.int (tn + 1)), .no, .no, .no, .no], some ⟨cs, ps, lf, tn + 1, 0⟩⟩) := by
   rw [← decide_eq_true hl]; rfl
  refine K9 ?_
  rw [J7 c0, j7 (s1 := ⟨[.val .feed, .val (.int many), .val (.int (tn + 1)), .val (.int (lf.fmod many)), .no, .no, .no], some ⟨cs, ps, lf, tn + 1, 0⟩⟩) (u6 (e8 rfl rfl (W4 lf hne)) rfl),
   j7 (s1 := ⟨[.val .feed, .val (.int many), .val (.int (tn + 1)), .val (.int (lf.fmod many)), .no, .no, .no], some ⟨cs, ps, lf.fdiv many, tn + 1, 0⟩⟩) (a2B (e8 rfl rfl (Q9 lf dm)) rfl)]
  rfl
 ·-- the cell
  have cell : ∃ c : Int, ∀ a b e x y z : Sl, dIf (dB (dOp (j5 (fun i j => decide (j < i))) (dCB (one m7) (a0 (dL 4) b0)) (dC (.int 0)))) (dOp pIx (dL 4) (dOp A5 (dFG 0 "at") (dCB (one m7) (a0 (dL 4) b0)))) (dC (.int 0)) ⟨[.val .feed, a, b, e, .val (.lst (cs.map .int)), x, y], some ⟨cs, ps, lf, tn + 1, 0⟩⟩ =
    some (.int c, ⟨[.val .feed, a, b, e, .val (.lst (cs.map .int)), x, y], some ⟨cs, ps, lf, tn + 1, 0⟩⟩) := by
   by_cases hc : 0 < cs.length
   ·have hi := P0 (a := ps) (b := (cs.length : Int)) (by first | decide | omega)
    obtain ⟨c, hg⟩ : ∃ c : Int, atI (cs.map D.int) (ps.fmod (cs.length : Int)) = some (.int c) := by
     have : (ps.fmod (cs.length : Int)).toNat < cs.length := by omega
     refine ⟨cs[(ps.fmod (cs.length : Int)).toNat], ?_⟩
     rw [a3d hi.1 (by rw [List.length_map]; exact hi.2), List.getElem?_map, List.getElem?_eq_getElem this]
     rfl
    refine ⟨c, fun a b e x y z => ?_⟩
    have hn : cs ≠ [] := by intro z; rw [z] at hc; simp at hc
    simp [dIf, dB, dOp, dCB, one, m7, a0, b0, dL, dC, j5, dFG, a5S, A5, pIx, hn, hc, hg]
   ·refine ⟨0, fun a b e x y z => ?_⟩
    have hz : cs = [] := List.eq_nil_of_length_eq_zero (by first | decide | omega)
    subst hz
    simp [dIf, dB, dOp, dCB, one, m7, a0, b0, dL, dC, j5]
  obtain ⟨c, hcell⟩ := cell
  have hc1 := P0 (a := c) (b := 1000003) (by decide)
  have pre : ∀ rest : DM, d7 (g6 (dOp k0 (dFG 0 "turn") (dC (.int 1))) (d8 2)) (d7 (dFP 0 "turn" (dV 2)) (d7 (j6 (dB (dOp (j5 (fun i j => decide (j < i))) (dFG 0 "left") (dC (.int 0)))) (d7 (g6 (dOp A5 (dFG 0 "left") (dL 1)) (d8 3)) (d7 (dFP 0 "left" (dOp B1 (dFG 0 "left") (dL 1))) (i3 (dV 3)))) j9)
    (d7 (g6 (dFG 0 "cells") (d8 4)) (d7 (g6 (dIf (dB (dOp (j5 (fun i j => decide (j < i))) (dCB (one m7) (a0 (dL 4) b0)) (dC (.int 0)))) (dOp pIx (dL 4) (dOp A5 (dFG 0 "at") (dCB (one m7) (a0 (dL 4) b0)))) (dC (.int 0))) (d8 5)) (d7 (dFP 0 "at" (dOp k0 (dFG 0 "at") (dC (.int 1)))) rest)))))
    ⟨[.val .feed, .val (.int many), .no, .no, .no, .no, .no], some ⟨cs, ps, lf, tn, 0⟩⟩ = rest ⟨[.val .feed, .val (.int many), .val (.int (tn + 1)), .no, .val (.lst (cs.map .int)), .val (.int c), .no], some ⟨cs, ps + 1, lf, tn + 1, 0⟩⟩ := fun rest => by
   rw [j7 (s1 := ⟨[.val .feed, .val (.int many), .val (.int (tn + 1)), .no, .no, .no, .no], some ⟨cs, ps, lf, tn, 0⟩⟩) (u6 (e8 rfl rfl rfl) rfl)]
   rw [j7 (s1 := ⟨[.val .feed, .val (.int many), .val (.int (tn + 1)), .no, .no, .no, .no], some ⟨cs, ps, lf, tn + 1, 0⟩⟩) rfl]
   rw [j7 (s1 := ⟨[.val .feed, .val (.int many), .val (.int (tn + 1)), .no, .no, .no, .no], some ⟨cs, ps, lf, tn + 1, 0⟩⟩) (by
    have c0 : dB (dOp (j5 (fun i j => decide (j < i))) (dFG 0 "left") (dC (.int 0))) ⟨[.val .feed, .val (.int many), .val (.int (tn + 1)), .no, .no, .no, .no], some ⟨cs, ps, lf, tn + 1, 0⟩⟩ = some (false, ⟨[.val .feed, .val (.int many), .val (.int (tn + 1)), .no, .no, .no, .no], some ⟨cs, ps, lf, tn + 1, 0⟩⟩) := by
     rw [← decide_eq_false hl]; rfl
    rw [V1 c0]; rfl)]
   rw [j7 (s1 := ⟨[.val .feed, .val (.int many), .val (.int (tn + 1)), .no, .val (.lst (cs.map .int)), .no, .no], some ⟨cs, ps, lf, tn + 1, 0⟩⟩) rfl]
   rw [j7 (b1Y (hcell _ _ _ _ _ .no))]
   rw [j7 (s1 := ⟨[.val .feed, .val (.int many), .val (.int (tn + 1)), .no, .val (.lst (cs.map .int)), .val (.int c), .no], some ⟨cs, ps + 1, lf, tn + 1, 0⟩⟩) (a2B (e8 rfl rfl rfl) rfl)]
  have test : o7 (dB (dOp (j5 (fun i j => decide (j ≤ i))) (dL 5) (dOp a0k (dC (.int 10)) (dC (.int 18))))) (dB (dOp (j5 (fun i j => decide (i ≤ j))) (dFG 0 "at") (dCB (one m7) (a0 (dL 4) b0)))) ⟨[.val .feed, .val (.int many), .val (.int (tn + 1)), .no, .val (.lst (cs.map .int)), .val (.int c), .no], some ⟨cs, ps + 1, lf, tn + 1, 0⟩⟩ =
    some (decide (1000000000000000000 ≤ c) && decide (ps + 1 ≤ (cs.length : Int)), ⟨[.val .feed, .val (.int many), .val (.int (tn + 1)), .no, .val (.lst (cs.map .int)), .val (.int c), .no], some ⟨cs, ps + 1, lf, tn + 1, 0⟩⟩) := by
   by_cases h1 : 1000000000000000000 ≤ c
   ·simp [o7, dB, dOp, dL, dC, a0k, j5, dFG, a5S, dCB, one, m7, a0, b0, h1]
   ·simp [o7, dB, dOp, dL, dC, a0k, j5, h1]
  by_cases hb : (decide (1000000000000000000 ≤ c) && decide (ps + 1 ≤ (cs.length : Int))) = true
  ·refine ⟨c.fmod many, ⟨cs, ps + 1, c.fdiv many, tn + 1, 0⟩, v0 (s := ⟨[.val .feed, .val (.int many), .val (.int (tn + 1)), .no, .val (.lst (cs.map .int)), .val (.int c), .no], some ⟨cs, ps + 1, c.fdiv many, tn + 1, 0⟩⟩) ?_, (P0 hm).1, (P0 hm).2, rfl, rfl⟩
   show V7 ⟨[.val .feed, .val (.int many), .no, .no, .no, .no, .no], some ⟨cs, ps, lf, tn, 0⟩⟩ = _
   unfold V7
   rw [pre]
   rw [hb] at test
   refine K9 ?_
   rw [J7 test]
   rw [j7 (s1 := ⟨[.val .feed, .val (.int many), .val (.int (tn + 1)), .no, .val (.lst (cs.map .int)), .val (.int c), .no], some ⟨cs, ps + 1, c.fdiv many, tn + 1, 0⟩⟩) (a2B (e8 rfl rfl (Q9 c dm)) rfl)]
   exact A8 (e8 rfl rfl (W4 c hne))
  ·have q : ∃ M : Int, g6 (dOp A5 (dOp m5 (dOp k0 (dOp k0 (dOp k0 (dOp A5 (dL 5) (dC (.int 1000003))) (dOp m5 (dOp m5 (dC (.int 31)) (dL 2)) (dL 2))) (dOp m5 (dC (.int 7)) (dL 2))) (dC (.int 11))) (dC (.int 48271))) (dC (.int 2147483647))) (d8 6)
     ⟨[.val .feed, .val (.int many), .val (.int (tn + 1)), .no, .val (.lst (cs.map .int)), .val (.int c), .no], some ⟨cs, ps + 1, lf, tn + 1, 0⟩⟩ = some (.next, ⟨[.val .feed, .val (.int many), .val (.int (tn + 1)), .no, .val (.lst (cs.map .int)), .val (.int c), .val (.int M)], some ⟨cs, ps + 1, lf, tn + 1, 0⟩⟩) ∧ 0 ≤ M ∧ M < 2147483647 := by
    have b1 : x8 31 = true := by decide
    have b2 : x8 (tn + 1) = true := a0L (by first | decide | omega)
    have p1 : (tn + 1) * 31 ≤ 2 ^ 40 * 31 := Int.mul_le_mul_of_nonneg_right (by first | decide | omega) (by decide)
    have b3 : x8 (31 * (tn + 1)) = true := a0L (by first | decide | omega)
    have p2 : 0 ≤ 31 * (tn + 1) * (tn + 1) := Int.mul_nonneg (by first | decide | omega) (by first | decide | omega)
    have p3 : 31 * (tn + 1) * (tn + 1) ≤ 31 * 2 ^ 40 * 2 ^ 40 := Int.mul_le_mul (by first | decide | omega) (by first | decide | omega) (by first | decide | omega) (by decide)
    have b4 : x8 (c.fmod 1000003 + 31 * (tn + 1) * (tn + 1) + 7 * (tn + 1) + 11) = true := a0L (by first | decide | omega)
    have b5 : x8 48271 = true := by decide
    have b6 : x8 7 = true := by decide
    refine ⟨((c.fmod 1000003 + 31 * (tn + 1) * (tn + 1) + 7 * (tn + 1) + 11) * 48271).fmod 2147483647, ?_, P0 (by decide)⟩
    exact u6 (e8 (e8 (e8 (e8 (e8 (e8 rfl rfl (W4 c (by decide))) (e8 (e8 rfl rfl (y0 b1 b2)) rfl (y0 b3 b2)) rfl) (e8 rfl rfl (y0 b6 b2)) rfl) rfl rfl) rfl (y0 b4 b5)) rfl (W4 _ (by decide))) rfl
   obtain ⟨M, e1, m1, m2⟩ := q
   have hM := Int.fdiv_eq_ediv_of_nonneg M (show (0 : Int) ≤ 64 by decide)
   have b7 : x8 (M.fdiv 64) = true := a0L (by rw [hM]; omega)
   have b8 : x8 69621 = true := by decide
   have b9 : x8 7919 = true := by decide
   have b10 : x8 (tn + 1) = true := a0L (by first | decide | omega)
   have d64 : D2 64 = true := by decide
   refine ⟨(((M.fdiv 64 * 69621 + 7919 * (tn + 1)).fmod 2147483587).fdiv 64).fmod many, ⟨cs, ps + 1, lf, tn + 1, 0⟩, v0 (s := ⟨[.val .feed, .val (.int many), .val (.int (tn + 1)), .no, .val (.lst (cs.map .int)), .val (.int c), .val (.int ((M.fdiv 64 * 69621 + 7919 * (tn + 1)).fmod 2147483587))], some ⟨cs, ps + 1, lf, tn + 1, 0⟩⟩) ?_, (P0 hm).1, (P0 hm).2, rfl, rfl⟩
   show V7 ⟨[.val .feed, .val (.int many), .no, .no, .no, .no, .no], some ⟨cs, ps, lf, tn, 0⟩⟩ = _
   unfold V7
   rw [pre]
   have hb' : (decide (1000000000000000000 ≤ c) && decide (ps + 1 ≤ (cs.length : Int))) = false := by simpa using hb
   rw [hb'] at test
   rw [j7 (by rw [V1 test]; rfl)]
   rw [j7 e1]
   rw [j7 (s1 := ⟨[.val .feed, .val (.int many), .val (.int (tn + 1)), .no, .val (.lst (cs.map .int)), .val (.int c), .val (.int ((M.fdiv 64 * 69621 + 7919 * (tn + 1)).fmod 2147483587))], some ⟨cs, ps + 1, lf, tn + 1, 0⟩⟩) (u6 (e8 (e8 (e8 (e8 rfl rfl (Q9 M d64)) rfl (y0 b7 b8)) (e8 rfl rfl (y0 b9 b10)) rfl) rfl (W4 _ (by decide))) rfl)]
   exact A8 (e8 (e8 rfl rfl (Q9 _ d64)) rfl (W4 _ hne))
noncomputable def Fd (n : Nat) (f : FS) : Prop := 0 ≤ f.turn ∧ f.turn ≤ n ∧ f.kind = 0
theorem Fd.mono {n m : Nat} {f : FS} (h : Fd n f) (hm : n ≤ m) : Fd m f := ⟨h.1, by have := h.2.1; omega, h.2.2⟩
theorem D0 {n : Nat} {f : FS} (many : Int) (h : Fd n f) (hm : 0 < many := by first | decide | omega) (hn : n < 2 ^ 30 := by omega) (hm2 : many < 2 ^ 100 := by first | decide | omega) :
  ∃ r f', z9 [.feed, .int many] (some f) = some (.int r, some f') ∧ 0 ≤ r ∧ r < many ∧ Fd (n + 1) f' := by
 obtain ⟨r, f', e, h0, h1, h2, h3⟩ := b1l f many hm hm2 h.1 (by have := h.2.1; omega) h.2.2
 exact ⟨r, f', e, h0, h1, by have := h.1; omega, by have := h.2.1; omega, h3⟩
theorem a9p (ns : List Int) (h : ns.length ≤ 63) : a0Q [.scr ns] none = some (.feed, some ⟨ns, 0, 0, 0, 0⟩) := by
 refine v0 (s := ⟨[.val (.scr ns)], some ⟨ns, 0, 0, 0, 0⟩⟩) ?_
 show a2F ⟨[.val (.scr ns)], none⟩ = _
 simp [a2F, i3, dFN]
theorem Fd.zero (ns : List Int) : Fd 0 ⟨ns, 0, 0, 0, 0⟩ := ⟨by simp, by simp, rfl⟩
end T

namespace DL
open PySem L2
noncomputable abbrev Pt := Rat × Rat
noncomputable def pL (a : Pt) : Int := ((Nat.lcm a.1.den a.2.den : Nat) : Int)
noncomputable def pX (a : Pt) : Int := a.1.num * ((Nat.lcm a.1.den a.2.den / a.1.den : Nat) : Int)
noncomputable def pY (a : Pt) : Int := a.2.num * ((Nat.lcm a.1.den a.2.den / a.2.den : Nat) : Int)
noncomputable def pt (a : Pt) : D := .tup [.int (pX a), .int (pY a), .int (pL a)]
theorem lcm_pos (p q : Rat) : 0 < Nat.lcm p.den q.den := Nat.lcm_pos (by have := p.den_nz; omega) (by have := q.den_nz; omega)
theorem a2p (a : Pt) : 0 < pL a := by have := lcm_pos a.1 a.2; unfold pL; omega
theorem R8 (a : Pt) : pL a ≠ 0 := by have := a2p a; omega
theorem G2 (a : Pt) : (0 : Rat) < (pL a : Rat) := Rat.intCast_pos.mpr (a2p a)
theorem a0K (a : Pt) : (pL a : Rat) ≠ 0 := fun h => R8 a (Rat.intCast_eq_zero_iff.mp h)
theorem a1n (p : Rat) : (p.num : Rat) = p * ((p.den : Int) : Rat) := by
 have e := Rat.num_divInt_den p
 rw [Rat.divInt_eq_div] at e
 have hd : ((p.den : Int) : Rat) ≠ 0 := fun h => F0 p (Rat.intCast_eq_zero_iff.mp h)
 have : (p.num : Rat) / ((p.den : Int) : Rat) * ((p.den : Int) : Rat) = (p.num : Rat) := Rat.div_mul_cancel hd
 rw [e] at this
 exact this.symm
theorem L9 (a : Pt) : (pX a : Rat) = a.1 * (pL a : Rat) := by
 unfold pX pL
 obtain ⟨c, hc⟩ := Nat.dvd_lcm_left a.1.den a.2.den
 have hd := a.1.den_nz
 have e : Nat.lcm a.1.den a.2.den / a.1.den = c := Nat.div_eq_of_eq_mul_right (by first | decide | omega) hc
 rw [e, hc, Int.natCast_mul, Rat.intCast_mul, Rat.intCast_mul, a1n]
 grind
theorem M1 (a : Pt) : (pY a : Rat) = a.2 * (pL a : Rat) := by
 unfold pY pL
 obtain ⟨c, hc⟩ := Nat.dvd_lcm_right a.1.den a.2.den
 have hd := a.2.den_nz
 have e : Nat.lcm a.1.den a.2.den / a.2.den = c := Nat.div_eq_of_eq_mul_right (by first | decide | omega) hc
 rw [e, hc, Int.natCast_mul, Rat.intCast_mul, Rat.intCast_mul, a1n]
 grind
theorem a2l {x d : Int} {p : Rat} (hd : 0 < d) (h : (x : Rat) = p * (d : Rat)) : ∃ c : Int, d = p.den * c ∧ x = p.num * c := by
 have h1 : x * p.den = p.num * d := by
  have e := a1n p
  have : ((x * p.den : Int) : Rat) = ((p.num * d : Int) : Rat) := by
   rw [Rat.intCast_mul, Rat.intCast_mul, h, e]; grind
  exact Rat.intCast_inj.mp this
 have dv : (p.den : Int) ∣ p.num * d := ⟨x, by rw [← h1, Int.mul_comm]⟩
 have dv2 : p.den ∣ p.num.natAbs * d.natAbs := by
  have := Int.natAbs_dvd_natAbs.mpr dv
  rwa [Int.natAbs_mul, Int.natAbs_natCast] at this
 have dv3 : p.den ∣ d.natAbs := Nat.Coprime.dvd_of_dvd_mul_left (Nat.Coprime.symm p.reduced) dv2
 obtain ⟨c, hc⟩ : (p.den : Int) ∣ d := Int.dvd_natAbs.mp (Int.ofNat_dvd.mpr dv3)
 refine ⟨c, hc, ?_⟩
 have hp := den_pos p
 have : (p.den : Int) * x = p.den * (p.num * c) := by rw [Int.mul_comm, h1, hc]; grind
 exact Int.eq_of_mul_eq_mul_left (by first | decide | omega) this
theorem b2f {x y d : Int} {a : Pt} (hd : 0 < d) (hg : Int.gcd (Int.gcd x y : Int) d = 1) (hx : (x : Rat) = a.1 * (d : Rat)) (hy : (y : Rat) = a.2 * (d : Rat)) : x = pX a ∧ y = pY a ∧ d = pL a := by
 obtain ⟨c1, e1, f1⟩ := a2l hd hx
 obtain ⟨c2, e2, f2⟩ := a2l hd hy
 obtain ⟨D, rfl⟩ := Int.eq_ofNat_of_zero_le (show 0 ≤ d by omega)
 have dl : Nat.lcm a.1.den a.2.den ∣ D := Nat.lcm_dvd (Int.ofNat_dvd.mp ⟨c1, e1⟩) (Int.ofNat_dvd.mp ⟨c2, e2⟩)
 obtain ⟨m, hm⟩ := dl
 have key : ∀ z : Int, ∀ r : Rat, (z : Rat) = r * ((D : Int) : Rat) → ∀ w : Int, (w : Rat) = r * (pL a : Rat) → z = w * m := by
  intro z r h1 w h2
  have : (z : Rat) = ((w * m : Int) : Rat) := by
   rw [h1, Rat.intCast_mul, h2, hm]
   have : (((Nat.lcm a.1.den a.2.den * m : Nat) : Int) : Rat) = (pL a : Rat) * ((m : Int) : Rat) := by
    rw [Int.natCast_mul, Rat.intCast_mul]; rfl
   rw [this]; grind
  exact Rat.intCast_inj.mp this
 have kx := key x a.1 hx (pX a) (L9 a)
 have ky := key y a.2 hy (pY a) (M1 a)
 have kd : (D : Int) = pL a * m := by rw [hm, Int.natCast_mul]; rfl
 have m1 : (m : Int) ∣ 1 := by
  have h : (m : Int) ∣ (Int.gcd (Int.gcd x y : Int) (D : Int) : Int) := by
   refine Int.dvd_coe_gcd (Int.dvd_coe_gcd ?_ ?_) ?_
   ·exact ⟨pX a, by rw [kx, Int.mul_comm]⟩
   ·exact ⟨pY a, by rw [ky, Int.mul_comm]⟩
   ·exact ⟨pL a, by rw [kd, Int.mul_comm]⟩
  rwa [hg] at h
 have m2 : m = 1 := Nat.eq_one_of_dvd_one (Int.ofNat_dvd.mp m1)
 subst m2
 exact ⟨by rw [kx]; simp, by rw [ky]; simp, by rw [kd]; simp⟩
theorem a8w (a : Pt) : Int.gcd (Int.gcd (pX a) (pY a) : Int) (pL a) = 1 := by
 have g0 : 0 < Int.gcd (Int.gcd (pX a) (pY a) : Int) (pL a) := Int.gcd_pos_of_ne_zero_right _ (R8 a)
 obtain ⟨d, hd⟩ := Int.gcd_dvd_right (Int.gcd (pX a) (pY a) : Int) (pL a)
 have h1 := Int.gcd_dvd_left (Int.gcd (pX a) (pY a) : Int) (pL a)
 obtain ⟨x, hx⟩ := Int.dvd_trans h1 (Int.gcd_dvd_left ..)
 obtain ⟨y, hy⟩ := Int.dvd_trans h1 (Int.gcd_dvd_right ..)
 generalize hgg : Int.gcd (Int.gcd (pX a) (pY a) : Int) (pL a) = G at *
 have hL := a2p a
 have dpos : 0 < d := by
  rcases Int.lt_or_le 0 d with z | z
  ·exact z
  ·have : (G : Int) * d ≤ G * 0 := Int.mul_le_mul_of_nonneg_left z (by first | decide | omega)
   omega
 have hGr : ((G : Int) : Rat) ≠ 0 := fun h => by have := Rat.intCast_eq_zero_iff.mp h; omega
 have q1 : (x : Rat) = a.1 * (d : Rat) := by
  have e := L9 a
  rw [hx, hd, Rat.intCast_mul, Rat.intCast_mul] at e
  grind
 have q2 : (y : Rat) = a.2 * (d : Rat) := by
  have e := M1 a
  rw [hy, hd, Rat.intCast_mul, Rat.intCast_mul] at e
  grind
 obtain ⟨c1, e1, f1⟩ := a2l dpos q1
 obtain ⟨c2, e2, f2⟩ := a2l dpos q2
 obtain ⟨D, rfl⟩ := Int.eq_ofNat_of_zero_le (show 0 ≤ d by omega)
 obtain ⟨m, hm⟩ : Nat.lcm a.1.den a.2.den ∣ D := Nat.lcm_dvd (Int.ofNat_dvd.mp ⟨c1, e1⟩) (Int.ofNat_dvd.mp ⟨c2, e2⟩)
 have hl : (pL a : Int) = ((Nat.lcm a.1.den a.2.den : Nat) : Int) := rfl
 rw [hl, hm] at hd
 have hd' : Nat.lcm a.1.den a.2.den = G * (Nat.lcm a.1.den a.2.den * m) := by exact_mod_cast hd
 have hlp := lcm_pos a.1 a.2
 have : Nat.lcm a.1.den a.2.den * (G * m) = Nat.lcm a.1.den a.2.den * 1 := by
  rw [Nat.mul_one]
  have e3 : G * (Nat.lcm a.1.den a.2.den * m) = Nat.lcm a.1.den a.2.den * (G * m) := by grind
  rw [← e3]; exact hd'.symm
 have := Nat.eq_of_mul_eq_mul_left hlp this
 exact Nat.eq_one_of_mul_eq_one_right this
structure Ps (k : Nat) (a : Pt) : Prop where
 x : Bd k (pX a)
 y : Bd k (pY a)
 l : Bd k (pL a)
theorem Ps.of {k l : Nat} {a : Pt} (h1 : Sz k a.1) (h2 : Sz l a.2) : Ps (k + l) a := by
 have hl : Nat.lcm a.1.den a.2.den ≤ a.1.den * a.2.den := Nat.le_of_dvd (Nat.mul_pos (by have := a.1.den_nz; omega) (by have := a.2.den_nz; omega)) (Nat.lcm_dvd_mul ..)
 have b := a6N h1.2 h2.2
 have dl : Nat.lcm a.1.den a.2.den / a.1.den ≤ a.2.den := by
  rw [Nat.div_le_iff_le_mul_add_pred (by have := a.1.den_nz; omega)]; omega
 have dr : Nat.lcm a.1.den a.2.den / a.2.den ≤ a.1.den := by
  rw [Nat.div_le_iff_le_mul_add_pred (by have := a.2.den_nz; omega), Nat.mul_comm a.2.den]; omega
 refine ⟨?_, ?_, ?_⟩
 ·exact Bd.mul h1.num (show Bd l ((_ : Nat) : Int) from Nat.lt_of_le_of_lt dl h2.2)
 ·have := Bd.mul h2.num (show Bd k ((_ : Nat) : Int) from Nat.lt_of_le_of_lt dr h1.2)
  rw [Nat.add_comm]; exact this
 ·exact Nat.lt_of_le_of_lt hl b
noncomputable def v4 (a b c : Pt) : Rat := (b.1 - a.1) * (c.2 - a.2) - (b.2 - a.2) * (c.1 - a.1)
noncomputable def sgn (r : Rat) : Int := if 0 < r then 1 else if r < 0 then -1 else 0
noncomputable def a04 (n : Int) : Int := if 0 < n then 1 else if n < 0 then -1 else 0
theorem a8p {n : Int} {c r : Rat} (hc : 0 < c) (h : (n : Rat) = c * r) : a04 n = sgn r := by
 unfold a04 sgn
 have h1 : 0 < n ↔ 0 < r := by
  rw [← Rat.intCast_pos, h]; exact Rat.mul_pos_iff_of_pos_left hc
 have h2 : n < 0 ↔ r < 0 := by
  rw [← Rat.intCast_neg_iff, h]; exact Rat.mul_neg_iff_of_pos_left hc
 simp only [h1, h2]
noncomputable def lsB (a b : Pt) : Bool := decide (a.1 < b.1) || (decide (a.1 = b.1) && decide (a.2 < b.2))
end DL

namespace T
open PySem L2 DL
theorem a8K (p q : Rat) : Rat.divInt (p.num * q.den) (p.den * q.den) = p := by
 rw [Rat.divInt_mul_right (F0 q), Rat.num_divInt_den]
theorem a9f (p q : Rat) : Rat.divInt (q.num * p.den) (p.den * q.den) = q := by
 rw [Int.mul_comm (p.den : Int), Rat.divInt_mul_right (F0 p), Rat.num_divInt_den]
noncomputable abbrev LA : DFn := T4 LF
theorem a1N (p : Rat) : pIx (fr p) (.int 0) = some (.int p.num) := rfl
theorem M7 (p : Rat) : pIx (fr p) (.int 1) = some (.int p.den) := rfl
theorem lat {k l : Nat} (p q : Rat) (fs : Option FS) (h1 : Sz k p) (h2 : Sz l q) (hk : k + l ≤ 8000) : LA [fr p, fr q] fs = some (pt (p, q), fs) := by
 have b1 := h1.num.bits (by first | decide | omega)
 have b2 := h1.den.bits (by first | decide | omega)
 have b3 := h2.num.bits (by first | decide | omega)
 have b4 := h2.den.bits (by first | decide | omega)
 have e1 := L6 (p.num * q.den) (p.den * q.den) fs (a1m p q) (Bd.mul h1.den h2.den) hk
 have e2 := L6 (q.num * p.den) (p.den * q.den) fs (a1m p q) (Bd.mul h1.den h2.den) hk
 have e3 := L6 (p.den : Int) (q.den : Int) fs (F0 q) h2.den (by first | decide | omega)
 rw [a8K] at e1
 rw [a9f] at e2
 have hq := q.den_nz
 have hp := p.den_nz
 have dq : ((Rat.divInt (p.den : Int) (q.den : Int)).den : Int) = (q.den / Nat.gcd p.den q.den : Nat) := by
  rw [a3h (den_pos q), Int.natCast_ediv]; rfl
 have el : (p.den : Int) * (q.den / Nat.gcd p.den q.den : Nat) = pL (p, q) := by
  show _ = ((Nat.lcm p.den q.den : Nat) : Int)
  rw [← Int.natCast_mul, Nat.lcm, Nat.mul_div_assoc _ (Nat.gcd_dvd_right ..)]
 have d1 := h1.den.div (F0 p) (by first | decide | omega)
 have d2 := h2.den.div (F0 q) (by first | decide | omega)
 have P := Ps.of (a := (p, q)) h1 h2
 have s1 : (pL (p, q)).fdiv (p.den : Int) = ((Nat.lcm p.den q.den / p.den : Nat) : Int) := by rw [a61, Int.natCast_ediv]; rfl
 have s2 : (pL (p, q)).fdiv (q.den : Int) = ((Nat.lcm p.den q.den / q.den : Nat) : Int) := by rw [a61, Int.natCast_ediv]; rfl
 have lle : Nat.lcm p.den q.den < 2 ^ (k + l) := P.l
 have c0 : x8 ((Rat.divInt (p.den : Int) (q.den : Int)).den : Int) = true := by
  have := (a3p (a := (p.den : Int)) (F0 q)).2
  exact (show Bd l _ from Nat.lt_of_le_of_lt this h2.2).bits (by first | decide | omega)
 have c1 : x8 ((Nat.lcm p.den q.den / p.den : Nat) : Int) = true := (show Bd (k + l) ((_ : Nat) : Int) from Nat.lt_of_le_of_lt (Nat.div_le_self ..) lle).bits (by first | decide | omega)
 have c2 : x8 ((Nat.lcm p.den q.den / q.den : Nat) : Int) = true := (show Bd (k + l) ((_ : Nat) : Int) from Nat.lt_of_le_of_lt (Nat.div_le_self ..) lle).bits (by first | decide | omega)
 generalize Rat.divInt (p.den : Int) (q.den : Int) = w at *
 refine v0 (s := ⟨[.val (fr p), .val (fr q), .val (.int (pL (p, q))), .val (fr p), .val (fr q), .val (fr w)], fs⟩) ?_
 show a4e LF ⟨[.val (fr p), .val (fr q), .no, .no, .no, .no], fs⟩ = _
 unfold a4e
 rw [dq] at c0
 rw [← s1] at c1
 rw [← s2] at c2
 rw [j7 (s1 := ⟨[.val (fr p), .val (fr q), .val (.int (p.den * q.den)), .no, .no, .no], fs⟩) (u6 (e8 (e8 rfl rfl (M7 p)) (e8 rfl rfl (M7 q)) (y0 b2 b4)) rfl),
  j7 (s1 := ⟨[.val (fr p), .val (fr q), .val (.int (p.den * q.den)), .val (fr p), .no, .no], fs⟩) (u6 (w4 (n0 (e8 (e8 rfl rfl (a1N p)) (e8 rfl rfl (M7 q)) (y0 b1 b4)) (n0 rfl rfl)) e1) rfl),
  j7 (s1 := ⟨[.val (fr p), .val (fr q), .val (.int (p.den * q.den)), .val (fr p), .val (fr q), .no], fs⟩) (u6 (w4 (n0 (e8 (e8 rfl rfl (a1N q)) (e8 rfl rfl (M7 p)) (y0 b3 b2)) (n0 rfl rfl)) e2) rfl),
  j7 (s1 := ⟨[.val (fr p), .val (fr q), .val (.int (p.den * q.den)), .val (fr p), .val (fr q), .val (fr w)], fs⟩) (u6 (w4 (n0 (e8 rfl rfl (M7 p)) (n0 (e8 rfl rfl (M7 q)) rfl)) e3) rfl),
  j7 (s1 := ⟨[.val (fr p), .val (fr q), .val (.int (pL (p, q))), .val (fr p), .val (fr q), .val (fr w)], fs⟩) (u6 (e8 (e8 rfl rfl (M7 p)) (e8 rfl rfl ((M7 w).trans (congrArg (fun z => some (D.int z)) dq))) ((y0 b2 c0).trans (congrArg (fun z => some (D.int z)) el))) rfl)]
 refine A8 ?_
 unfold pt pX pY
 rw [← s1, ← s2]
 exact a7K (e8 (e8 rfl rfl (a1N p)) (e8 rfl (e8 rfl rfl (M7 p)) (Q9 _ d1)) (y0 b1 c1)) (e8 (e8 rfl rfl (a1N q)) (e8 rfl (e8 rfl rfl (M7 q)) (Q9 _ d2)) (y0 b3 c2)) rfl
theorem b3s (a : Pt) : Rat.divInt (pX a) (pL a) = a.1 := by
 rw [Rat.divInt_eq_div, L9, Rat.mul_div_cancel (a0K a)]
theorem b4i (a : Pt) : Rat.divInt (pY a) (pL a) = a.2 := by
 rw [Rat.divInt_eq_div, M1, Rat.mul_div_cancel (a0K a)]
noncomputable abbrev LX : DFn := a0V LF
theorem lxy {k : Nat} (a : Pt) (fs : Option FS) (h : Ps k a) (hk : k ≤ 8000) : LX [pt a] fs = some (.tup [fr a.1, fr a.2], fs) := by
 have e := L6 (pX a) (pL a) fs (R8 a) h.l hk
 have e' := L6 (pY a) (pL a) fs (R8 a) h.l hk
 rw [b3s] at e
 rw [b4i] at e'
 refine v0 (s := ⟨[.val (pt a)], fs⟩) ?_
 show a2Y LF ⟨[.val (pt a)], fs⟩ = _
 simp [a2Y, d7, t6, g6, dOp, dUn, dC, dL, dV, d8, j6, dB, i3, d5, a0, b0, i7, j9, dCB, one, l0, m6, dIf, o7, dOr, o9, t0, u4, t9, pIx, k0, n8, o0, j5, m7, o6, m9, o8, p9, dTr, u0, pt, a3u, a2T, a4k, e, e', sz2]
noncomputable abbrev LG : DFn := a1A LA LS LX
theorem U5 {k l m n : Nat} (a : Pt) (x y : Rat) (fs : Option FS) (h1 : Sz k a.1) (h2 : Sz l a.2) (hx : Sz m x) (hy : Sz n y) (hk : k + l + m + n + 2 ≤ 8000) : LG [pt a, fr x, fr y] fs = some (pt (a.1 + x, a.2 + y), fs) := by
 refine v0 (s := ⟨[.val (pt a), .val (fr x), .val (fr y), .val (fr a.1), .val (fr a.2)], fs⟩) ?_
 show a4l LA LS LX ⟨[.val (pt a), .val (fr x), .val (fr y), .no, .no], fs⟩ = _
 simp [a4l, d7, t6, g6, dOp, dUn, dC, dL, dV, d8, j6, dB, i3, d5, a0, b0, i7, j9, dCB, one, l0, m6, dIf, o7, dOr, o9, t0, u4, t9, pIx, k0, n8, o0, j5, m7, o6, m9, o8, p9, dTr, u0, lxy a fs (Ps.of h1 h2) (by first | decide | omega), a0c a.1 x _ h1 hx (by first | decide | omega), a0c a.2 y _ h2 hy (by first | decide | omega), lat (a.1 + x) (a.2 + y) _ (h1.add hx) (h2.add hy) (by first | decide | omega)]
end T

namespace DL
noncomputable def D4 (x y : Rat) : Prop := 0 < x ∨ (x = 0 ∧ 0 < y)
theorem a5l (a b : Pt) : lsB a b = true ↔ D4 (b.1 - a.1) (b.2 - a.2) := by
 unfold lsB D4
 rw [Bool.or_eq_true, Bool.and_eq_true, decide_eq_true_iff, decide_eq_true_iff, decide_eq_true_iff]
 constructor
 ·rintro (h | ⟨h1, h2⟩)
  ·left; grind
  ·right; constructor <;> grind
 ·rintro (h | ⟨h1, h2⟩)
  ·left; grind
  ·right; constructor <;> grind
theorem a74 (x y : Rat) (h : ¬ (x = 0 ∧ y = 0)) : D4 x y ∨ D4 (-x) (-y) := by
 unfold D4
 grind
theorem b4d (x y : Rat) (h : D4 x y) : ¬ D4 (-x) (-y) := by
 unfold D4 at *
 grind
theorem a7u {x y s : Rat} (hs : 0 < s) : D4 (s * x) (s * y) ↔ D4 x y := by
 unfold D4
 have h1 : 0 < s * x ↔ 0 < x := Rat.mul_pos_iff_of_pos_left hs
 have h2 : 0 < s * y ↔ 0 < y := Rat.mul_pos_iff_of_pos_left hs
 have h3 : s * x = 0 ↔ x = 0 := by
  rw [Rat.mul_eq_zero]
  constructor
  ·rintro (h | h)
   ·rw [h] at hs; exact absurd hs Rat.lt_irrefl
   ·exact h
  ·exact fun h => .inr h
 rw [h1, h2, h3]
theorem a4X : ¬ D4 0 0 := by unfold D4; grind
theorem a5M {x y : Rat} (h : D4 x y) (s : Rat) : D4 (s * x) (s * y) ↔ 0 < s := by
 constructor
 ·intro q
  rcases Rat.le_total (a := s) (b := 0) with z | z
  ·rcases (Rat.le_iff_lt_or_eq).mp z with z | z
   ·have : D4 (-s * x) (-s * y) := (a7u (by grind)).mpr h
    rw [Rat.neg_mul, Rat.neg_mul] at this
    exact absurd this (b4d _ _ q)
   ·rw [z, Rat.zero_mul, Rat.zero_mul] at q; exact absurd q a4X
  ·rcases (Rat.le_iff_lt_or_eq).mp z with z | z
   ·exact z
   ·rw [← z, Rat.zero_mul, Rat.zero_mul] at q; exact absurd q a4X
 ·intro hs; exact (a7u hs).mpr h
noncomputable def P8 (a b : Pt) (s : Rat) : Pt := (a.1 + s * (b.1 - a.1), a.2 + s * (b.2 - a.2))
theorem b2O {a b c : Pt} (hab : a ≠ b) (h : v4 a b c = 0) : ∃ s, c = P8 a b s := by
 unfold v4 at h
 by_cases h1 : b.1 - a.1 = 0
 ·have h2 : b.2 - a.2 ≠ 0 := fun z => hab (Prod.ext (by grind) (by grind))
  refine ⟨(c.2 - a.2) / (b.2 - a.2), ?_⟩
  unfold P8
  refine Prod.ext ?_ ?_
  ·show c.1 = _
   have : (b.2 - a.2) * (c.1 - a.1) = 0 := by grind
   rcases Rat.mul_eq_zero.mp this with z | z
   ·exact absurd z h2
   ·grind
  ·show c.2 = _
   grind
 ·refine ⟨(c.1 - a.1) / (b.1 - a.1), ?_⟩
  unfold P8
  refine Prod.ext ?_ ?_
  ·show c.1 = _
   grind
  ·show c.2 = _
   have e : (b.1 - a.1) * (c.2 - a.2) = (b.2 - a.2) * (c.1 - a.1) := by grind
   have : c.2 - a.2 = (c.1 - a.1) / (b.1 - a.1) * (b.2 - a.2) := by grind
   grind
noncomputable def dsq (a b : Pt) : Rat := (a.1 - b.1) * (a.1 - b.1) + (a.2 - b.2) * (a.2 - b.2)
theorem a0T (x : Rat) : 0 ≤ x * x := by
 rcases Rat.le_total (a := 0) (b := x) with h | h
 ·exact Rat.mul_nonneg h h
 ·have := Rat.mul_nonneg (a := -x) (b := -x) (by grind) (by grind)
  grind
theorem a5A {x : Rat} (h : x ≠ 0) : 0 < x * x := Rat.lt_of_le_of_ne (a0T x) (fun z => h (by
 rcases Rat.mul_eq_zero.mp z.symm with q | q <;> exact q))
theorem a7D {a b : Pt} (hab : a ≠ b) : 0 < dsq a b := by
 unfold dsq
 by_cases h1 : a.1 - b.1 = 0
 ·have h2 : a.2 - b.2 ≠ 0 := fun z => hab (Prod.ext (by grind) (by grind))
  have := a5A h2
  have := a0T (a.1 - b.1)
  grind
 ·have := a5A h1
  have := a0T (a.2 - b.2)
  grind
end DL

namespace T
open PySem L2 DL
theorem b4x (n : Int) (fs : Option FS) : a07 [.int n] fs = some (.int (a04 n), fs) := by
 refine v0 (s := ⟨[.val (.int n)], fs⟩) ?_
 show a0M ⟨[.val (.int n)], fs⟩ = _
 unfold a04
 by_cases h1 : 0 < n
 ·simp [a0M, d7, t6, g6, dOp, dUn, dC, dL, dV, d8, j6, dB, i3, d5, a0, b0, i7, j9, dCB, one, l0, m6, dIf, o7, dOr, o9, t0, u4, t9, pIx, k0, n8, o0, j5, m7, o6, m9, o8, p9, dTr, u0, h1]
 ·by_cases h2 : n < 0
  ·simp [a0M, d7, t6, g6, dOp, dUn, dC, dL, dV, d8, j6, dB, i3, d5, a0, b0, i7, j9, dCB, one, l0, m6, dIf, o7, dOr, o9, t0, u4, t9, pIx, k0, n8, o0, j5, m7, o6, m9, o8, p9, dTr, u0, h1, h2]
  ·simp [a0M, d7, t6, g6, dOp, dUn, dC, dL, dV, d8, j6, dB, i3, d5, a0, b0, i7, j9, dCB, one, l0, m6, dIf, o7, dOr, o9, t0, u4, t9, pIx, k0, n8, o0, j5, m7, o6, m9, o8, p9, dTr, u0, h1, h2]
noncomputable abbrev FTn : DFn := a3N a07
theorem b0z {a b c : Rat} (ha : 0 < a) (hb : 0 < b) (hc : 0 < c) : 0 < a * b * c := Rat.mul_pos (Rat.mul_pos ha hb) hc
theorem b3c (a b c : Pt) : a04 (pX a * (pY b * pL c - pY c * pL b) - pY a * (pX b * pL c - pX c * pL b) + pL a * (pX b * pY c - pX c * pY b)) = sgn (v4 a b c) := by
 refine a8p (b0z (G2 a) (G2 b) (G2 c)) ?_
 simp only [Rat.intCast_add, Rat.intCast_sub, Rat.intCast_mul, L9, M1, v4]
 grind
theorem a7R {k : Nat} (a b c : Pt) (fs : Option FS) (ha : Ps k a) (hb : Ps k b) (hc : Ps k c) (hk : k ≤ 2000) : FTn [pt a, pt b, pt c] fs = some (.int (sgn (v4 a b c)), fs) := by
 have a1 := ha.x.bits (by first | decide | omega)
 have a2 := ha.y.bits (by first | decide | omega)
 have a3 := ha.l.bits (by first | decide | omega)
 have b1 := hb.x.bits (by first | decide | omega)
 have b2 := hb.y.bits (by first | decide | omega)
 have b3 := hb.l.bits (by first | decide | omega)
 have c1 := hc.x.bits (by first | decide | omega)
 have c2 := hc.y.bits (by first | decide | omega)
 have c3 := hc.l.bits (by first | decide | omega)
 have d1 := ((hb.y.mul hc.l).sub (hc.y.mul hb.l)).bits (by first | decide | omega)
 have d2 := ((hb.x.mul hc.l).sub (hc.x.mul hb.l)).bits (by first | decide | omega)
 have d3 := ((hb.x.mul hc.y).sub (hc.x.mul hb.y)).bits (by first | decide | omega)
 rw [← b3c]
 refine v0 (s := ⟨[.val (pt a), .val (pt b), .val (pt c), .val (.int (pX a * (pY b * pL c - pY c * pL b) - pY a * (pX b * pL c - pX c * pL b) + pL a * (pX b * pY c - pX c * pY b)))], fs⟩) ?_
 show a3I a07 ⟨[.val (pt a), .val (pt b), .val (pt c), .no], fs⟩ = _
 unfold a3I
 have x : ∀ p : Pt, pIx (pt p) (.int 0) = some (.int (pX p)) := fun _ => rfl
 have y : ∀ p : Pt, pIx (pt p) (.int 1) = some (.int (pY p)) := fun _ => rfl
 have l : ∀ p : Pt, pIx (pt p) (.int 2) = some (.int (pL p)) := fun _ => rfl
 rw [j7 (s1 := ⟨[.val (pt a), .val (pt b), .val (pt c), .val (.int (pX a * (pY b * pL c - pY c * pL b)))], fs⟩) (u6 (e8 (e8 rfl rfl (x a)) (e8 (e8 (e8 rfl rfl (y b)) (e8 rfl rfl (l c)) (y0 b2 c3)) (e8 (e8 rfl rfl (y c)) (e8 rfl rfl (l b)) (y0 c2 b3)) rfl) (y0 a1 d1)) rfl),
  j7 (s1 := ⟨[.val (pt a), .val (pt b), .val (pt c), .val (.int (pX a * (pY b * pL c - pY c * pL b) - pY a * (pX b * pL c - pX c * pL b)))], fs⟩) (u6 (e8 rfl (e8 (e8 rfl rfl (y a)) (e8 (e8 (e8 rfl rfl (x b)) (e8 rfl rfl (l c)) (y0 b1 c3)) (e8 (e8 rfl rfl (x c)) (e8 rfl rfl (l b)) (y0 c1 b3)) rfl) (y0 a2 d2)) rfl) rfl),
  j7 (s1 := ⟨[.val (pt a), .val (pt b), .val (pt c), .val (.int (pX a * (pY b * pL c - pY c * pL b) - pY a * (pX b * pL c - pX c * pL b) + pL a * (pX b * pY c - pX c * pY b)))], fs⟩) (u6 (e8 rfl (e8 (e8 rfl rfl (l a)) (e8 (e8 (e8 rfl rfl (x b)) (e8 rfl rfl (y c)) (y0 b1 c2)) (e8 (e8 rfl rfl (x c)) (e8 rfl rfl (y b)) (y0 c1 b2)) rfl) (y0 a3 d3)) rfl) rfl)]
 exact A8 (w4 (n0 rfl rfl) (b4x _ fs))
theorem a7y {x y : Int} {p q c : Rat} (hc : 0 < c) (hx : (x : Rat) = c * p) (hy : (y : Rat) = c * q) : (x < y ↔ p < q) ∧ (x = y ↔ p = q) := by
 constructor
 ·rw [← Rat.intCast_lt_intCast, hx, hy]; exact Rat.mul_lt_mul_left hc
 ·rw [← Rat.intCast_inj, hx, hy]
  constructor
  ·intro h; have : c ≠ 0 := fun z => by rw [z] at hc; exact absurd hc Rat.lt_irrefl
   grind
  ·intro h; rw [h]
theorem a9J (a b : Pt) : (pX a * pL b < pX b * pL a ↔ a.1 < b.1) ∧ (pX a * pL b = pX b * pL a ↔ a.1 = b.1) :=
 a7y (Rat.mul_pos (G2 a) (G2 b)) (by rw [Rat.intCast_mul, L9]; grind) (by rw [Rat.intCast_mul, L9]; grind)
theorem a8b (a b : Pt) : (pY a * pL b < pY b * pL a ↔ a.2 < b.2) ∧ (pY a * pL b = pY b * pL a ↔ a.2 = b.2) :=
 a7y (Rat.mul_pos (G2 a) (G2 b)) (by rw [Rat.intCast_mul, M1]; grind) (by rw [Rat.intCast_mul, M1]; grind)
theorem a58 {k : Nat} (a b : Pt) (fs : Option FS) (ha : Ps k a) (hb : Ps k b) (hk : k ≤ 2000) : a1d [pt a, pt b] fs = some (.bl (lsB a b), fs) := by
 have a1 := ha.x.bits (by first | decide | omega)
 have a2 := ha.y.bits (by first | decide | omega)
 have a3 := ha.l.bits (by first | decide | omega)
 have b1 := hb.x.bits (by first | decide | omega)
 have b2 := hb.y.bits (by first | decide | omega)
 have b3 := hb.l.bits (by first | decide | omega)
 obtain ⟨x1, x2⟩ := a9J a b
 obtain ⟨y1, y2⟩ := a8b a b
 refine v0 (s := ⟨[.val (pt a), .val (pt b), .val (.int (pX a * pL b)), .val (.int (pX b * pL a))], fs⟩) ?_
 show a1q ⟨[.val (pt a), .val (pt b), .no, .no], fs⟩ = _
 by_cases h : a.1 = b.1
 ·have h' := x2.mpr h
  have n1 : ¬ a.1 < b.1 := by rw [h]; exact Rat.lt_irrefl
  simp [a1q, d7, t6, g6, dOp, dUn, dC, dL, dV, d8, j6, dB, i3, d5, a0, b0, i7, j9, dCB, one, l0, m6, dIf, o7, dOr, o9, t0, u4, t9, pIx, k0, n8, o0, j5, m7, o6, m9, o8, p9, dTr, u0, pt, a3u, a2T, a4k, m5, a1, a2, a3, b1, b2, b3, J3, h', lsB, n1, h, y1]
 ·have h' : ¬ pX a * pL b = pX b * pL a := fun z => h (x2.mp z)
  simp [a1q, d7, t6, g6, dOp, dUn, dC, dL, dV, d8, j6, dB, i3, d5, a0, b0, i7, j9, dCB, one, l0, m6, dIf, o7, dOr, o9, t0, u4, t9, pIx, k0, n8, o0, j5, m7, o6, m9, o8, p9, dTr, u0, pt, a3u, a2T, a4k, m5, a1, a2, a3, b1, b2, b3, J3, h', lsB, h, x1]
theorem b2B {k : Nat} (a b : Pt) (fs : Option FS) (ha : Ps k a) (hb : Ps k b) (hk : k ≤ 1500) : V0 FF [pt a, pt b] fs = some (fr (dsq a b), fs) := by
 have a1 := ha.x.bits (by first | decide | omega)
 have a2 := ha.y.bits (by first | decide | omega)
 have a3 := ha.l.bits (by first | decide | omega)
 have b1 := hb.x.bits (by first | decide | omega)
 have b2 := hb.y.bits (by first | decide | omega)
 have b3 := hb.l.bits (by first | decide | omega)
 have w1 := ((ha.x.mul hb.l).sub (hb.x.mul ha.l)).bits (by first | decide | omega)
 have w2 := ((ha.y.mul hb.l).sub (hb.y.mul ha.l)).bits (by first | decide | omega)
 have w3 := (ha.l.mul hb.l).bits (by first | decide | omega)
 have ne : pL a * pL b * (pL a * pL b) ≠ 0 := Int.mul_ne_zero (Int.mul_ne_zero (R8 a) (R8 b)) (Int.mul_ne_zero (R8 a) (R8 b))
 have e := b3e ((pX a * pL b - pX b * pL a) * (pX a * pL b - pX b * pL a) + (pY a * pL b - pY b * pL a) * (pY a * pL b - pY b * pL a)) (pL a * pL b * (pL a * pL b)) fs ne ((ha.l.mul hb.l).mul (ha.l.mul hb.l)) (by first | decide | omega)
 have v : Rat.divInt ((pX a * pL b - pX b * pL a) * (pX a * pL b - pX b * pL a) + (pY a * pL b - pY b * pL a) * (pY a * pL b - pY b * pL a)) (pL a * pL b * (pL a * pL b)) = dsq a b := by
  rw [Rat.divInt_eq_div]
  simp only [Rat.intCast_add, Rat.intCast_sub, Rat.intCast_mul, L9, M1, dsq]
  have := a0K a
  have := a0K b
  grind
 rw [v] at e
 refine v0 (s := ⟨[.val (pt a), .val (pt b), .val (.int (pX a * pL b - pX b * pL a)), .val (.int (pY a * pL b - pY b * pL a)), .val (.int (pL a * pL b))], fs⟩) ?_
 show a4d FF ⟨[.val (pt a), .val (pt b), .no, .no, .no], fs⟩ = _
 unfold a4d
 have x : ∀ p : Pt, pIx (pt p) (.int 0) = some (.int (pX p)) := fun _ => rfl
 have y : ∀ p : Pt, pIx (pt p) (.int 1) = some (.int (pY p)) := fun _ => rfl
 have l : ∀ p : Pt, pIx (pt p) (.int 2) = some (.int (pL p)) := fun _ => rfl
 rw [j7 (s1 := ⟨[.val (pt a), .val (pt b), .val (.int (pX a * pL b - pX b * pL a)), .no, .no], fs⟩) (u6 (e8 (e8 (e8 rfl rfl (x a)) (e8 rfl rfl (l b)) (y0 a1 b3)) (e8 (e8 rfl rfl (x b)) (e8 rfl rfl (l a)) (y0 b1 a3)) rfl) rfl),
  j7 (s1 := ⟨[.val (pt a), .val (pt b), .val (.int (pX a * pL b - pX b * pL a)), .val (.int (pY a * pL b - pY b * pL a)), .no], fs⟩) (u6 (e8 (e8 (e8 rfl rfl (y a)) (e8 rfl rfl (l b)) (y0 a2 b3)) (e8 (e8 rfl rfl (y b)) (e8 rfl rfl (l a)) (y0 b2 a3)) rfl) rfl),
  j7 (s1 := ⟨[.val (pt a), .val (pt b), .val (.int (pX a * pL b - pX b * pL a)), .val (.int (pY a * pL b - pY b * pL a)), .val (.int (pL a * pL b))], fs⟩) (u6 (e8 (e8 rfl rfl (l a)) (e8 rfl rfl (l b)) (y0 a3 b3)) rfl)]
 exact A8 (w4 (n0 (e8 (e8 rfl rfl (y0 w1 w1)) (e8 rfl rfl (y0 w2 w2)) rfl) (n0 (e8 rfl rfl (y0 w3 w3)) rfl)) e)
end T

namespace DL
open PySem L2
theorem a3l {t : D → DS → Option DS} {b : DM} (P : Nat → DS → Prop) : ∀ (ds : List D) (n : Nat) (s : DS), P n s → (∀ i d s, ds[i]? = some d → P (n + i) s → ∃ s1 s2, t d s = some s1 ∧ (b s1 = some (.next, s2) ∨ b s1 = some (.cont, s2)) ∧ P (n + i + 1) s2) →
  ∃ s', D6 t b ds s = some (.next, s') ∧ P (n + ds.length) s'
 | [], n, s, h, _ => ⟨s, rfl, h⟩
 | d :: r, n, s, h, k => by
  obtain ⟨s1, s2, e1, e2, h2⟩ := k 0 d s rfl h
  obtain ⟨s', e3, h3⟩ := a3l P r (n + 1) s2 h2 (fun i d' s hd hp => by
   have := k (i + 1) d' s (by simpa using hd) (by rwa [show n + 1 + i = n + (i + 1) by omega] at hp)
   rwa [show n + (i + 1) + 1 = n + 1 + i + 1 by omega] at this)
  refine ⟨s', ?_, by rw [List.length_cons, show n + (r.length + 1) = n + 1 + r.length by omega]; exact h3⟩
  rw [D6, e1]
  rcases e2 with e2 | e2 <;> simp [e2, e3]
theorem a64 {f : DA} {t : D → DS → Option DS} {b : DM} {s s1 : DS} {xs ds : List D} (h1 : f s = some (xs, s1)) (h2 : J0 xs = some ds) : a09 f t b s = D6 t b ds s1 := by
 simp only [a09, h1, Option.bind_some, h2]
theorem a5O {f : DE} {t : D → DS → Option DS} {b : DM} {s s1 : DS} {ds : List D} (h1 : f s = some (.lst ds, s1)) : T7 f t b s = D6 t b ds s1 := by
 simp only [T7, h1, Option.bind_some]
theorem a3C {lo : Int} {n i : Nat} {d : D} (h : (ups lo n)[i]? = some d) : d = .int (lo + i) ∧ i < n := by
 have hi : i < n := by have := (List.getElem?_eq_some_iff.mp h).1; rwa [a02] at this
 rw [a3v hi] at h
 cases h
 exact ⟨rfl, hi⟩
theorem a1r {n : Nat} (h : n < 2 ^ 30) : J0 [.int (n : Int)] = some (ups 0 n) := by
 have : -(2 ^ 62) ≤ (n : Int) ∧ (n : Int) < 2 ^ 62 := by omega
 simp only [J0, if_pos this, Int.toNat_natCast]
end DL
namespace T
open PySem L2 DL
noncomputable abbrev LN : DFn := a1f LF z9
theorem Y7 {k : Nat} {i : Int} (h : i.natAbs < 2 ^ k) : Bd k i := h
theorem b1x {r : Int} (h0 : 0 ≤ r) (h1 : r < 3) : ∃ m : Int, atI [D.int 7, D.int 13, D.int 30] r = some (.int m) ∧ 0 < m ∧ m ≤ 30 := by
 have : r = 0 ∨ r = 1 ∨ r = 2 := by omega
 rcases this with rfl | rfl | rfl
 ·exact ⟨7, rfl, by decide, by decide⟩
 ·exact ⟨13, rfl, by decide, by decide⟩
 ·exact ⟨30, rfl, by decide, by decide⟩
theorem b1u {r : Int} (h0 : 0 ≤ r) (h1 : r < 6) : ∃ d : Int, atI [D.int 1, D.int 1, D.int 1, D.int 2, D.int 3, D.int 4] r = some (.int d) ∧ 0 < d ∧ d ≤ 4 := by
 have : r = 0 ∨ r = 1 ∨ r = 2 ∨ r = 3 ∨ r = 4 ∨ r = 5 := by omega
 rcases this with rfl | rfl | rfl | rfl | rfl | rfl
 ·exact ⟨1, rfl, by decide, by decide⟩
 ·exact ⟨1, rfl, by decide, by decide⟩
 ·exact ⟨1, rfl, by decide, by decide⟩
 ·exact ⟨2, rfl, by decide, by decide⟩
 ·exact ⟨3, rfl, by decide, by decide⟩
 ·exact ⟨4, rfl, by decide, by decide⟩
theorem b2X {r m q : Int} (h0 : 0 ≤ r) (h1 : r < m) (hm : m ≤ 30) (q0 : 0 ≤ q) (q1 : q < 2) : Bd 5 (r * (1 - 2 * q)) ∧ Bd 5 r ∧ Bd 5 q ∧ Bd 5 (1 - 2 * q) := by
 unfold Bd
 have : q = 0 ∨ q = 1 := by omega
 rcases this with rfl | rfl <;> omega
theorem b3C {d : Int} (h0 : 0 < d) (h1 : d ≤ 4) : Bd 5 d ∧ d ≠ 0 := ⟨show d.natAbs < 2 ^ 5 by omega, by omega⟩
theorem b2x {m : Int} (h : m ≤ 30) : m < 2 ^ 100 := by omega
theorem a2b {n i : Nat} (h : n < 2 ^ 29) (hi : i ≤ 100 := by decide) : n + i < 2 ^ 30 := by omega
theorem a6M {n : Nat} {f : FS} (h : Fd n f) (hn : n < 2 ^ 29) : ∃ p f', LN [.feed] (some f) = some (fr p, some f') ∧ Sz 5 p ∧ Fd (n + 4) f' := by
 obtain ⟨r1, f1, e1, a1, a2, h1⟩ := D0 3 h (by decide) (a2b (i := 0) hn) (by decide)
 obtain ⟨m, q1, q2, q3⟩ := b1x a1 a2
 obtain ⟨r2, f2, e2, b1, b2, h2⟩ := D0 m h1 q2 (a2b hn) (b2x q3)
 obtain ⟨r3, f3, e3, c1, c2, h3⟩ := D0 6 h2 (by decide) (a2b (i := 2) hn) (by decide)
 obtain ⟨d, u1, u2, u3⟩ := b1u c1 c2
 obtain ⟨r4, f4, e4, d1, d2, h4⟩ := D0 2 h3 (by decide) (a2b (i := 3) hn) (by decide)
 obtain ⟨bn, z3, z2, z4⟩ := b2X b1 b2 q3 d1 d2
 obtain ⟨bd, dn⟩ := b3C u2 u3
 have g := L6 (r2 * (1 - 2 * r4)) d (some f4) dn bd (by decide)
 refine ⟨_, f4, v0 (s := ⟨[.val .feed, .val (.int r2), .val (.int d)], some f4⟩) ?_, Sz.of_divInt dn bn bd, h4⟩
 show a3A LF z9 ⟨[.val .feed, .no, .no], some f⟩ = _
 unfold a3A
 rw [j7 (s1 := ⟨[.val .feed, .val (.int r2), .no], some f2⟩) (u6 (a1F (n0 rfl (n0 (e8 (s1 := ⟨[.val .feed, .no, .no], some f⟩) rfl (D7 rfl e1) q1) rfl)) e2) rfl),
  j7 (s1 := ⟨[.val .feed, .val (.int r2), .val (.int d)], some f3⟩) (u6 (e8 (s1 := ⟨[.val .feed, .val (.int r2), .no], some f2⟩) rfl (D7 rfl e3) u1) rfl)]
 exact A8 (a1F (n0 (e8 rfl (e8 rfl (e8 rfl (D7 rfl e4) (y0 (by decide) (z2.bits (by decide)))) rfl) (y0 (z3.bits (by decide)) (z4.bits (by decide)))) rfl) g)
noncomputable abbrev LPl : DFn := a0O LA LN
structure PtS (k : Nat) (a : Pt) : Prop where
 x : Sz k a.1
 y : Sz k a.2
theorem PtS.mono {k l : Nat} {a : Pt} (h : PtS k a) (hl : k ≤ l) : PtS l a := ⟨h.x.mono hl, h.y.mono hl⟩
theorem a3Q {n : Nat} {f : FS} (h : Fd n f) (hn : n < 2 ^ 28) : ∃ a f', LPl [.feed] (some f) = some (pt a, some f') ∧ PtS 5 a ∧ Fd (n + 8) f' := by
 obtain ⟨p, f1, e1, s1, h1⟩ := a6M h (by first | decide | omega)
 obtain ⟨q, f2, e2, s2, h2⟩ := a6M h1 (by first | decide | omega)
 refine ⟨(p, q), f2, v0 (s := ⟨[.val .feed], some f2⟩) ?_, ⟨s1, s2⟩, h2⟩
 show a3Z LA LN ⟨[.val .feed], some f⟩ = _
 simp [a3Z, d7, t6, g6, dOp, dUn, dC, dL, dV, d8, j6, dB, i3, d5, a0, b0, i7, j9, dCB, one, l0, m6, dIf, o7, dOr, o9, t0, u4, t9, pIx, k0, n8, o0, j5, m7, o6, m9, o8, p9, dTr, u0, e1, e2, lat p q _ s1 s2 (by first | decide | omega)]
end T

namespace T
open PySem L2 DL
noncomputable def Sm (M : Int) : Prop := 1 ≤ M ∧ M ≤ 2 ^ 4000
theorem Sm.bd {M g : Int} (hM : Sm M) (h0 : 0 ≤ g) (h : g ≤ 2 * M) : Bd 4002 g := by
 unfold Bd
 have e : (2 : Nat) ^ 4002 = 4 * 2 ^ 4000 := by rw [show (4002 : Nat) = 4000 + 2 from rfl, Nat.pow_add]; omega
 have h2 : M ≤ ((2 ^ 4000 : Nat) : Int) := by have := hM.2; rw [Int.natCast_pow]; exact this
 have p : 0 < (2 : Nat) ^ 4000 := Nat.pow_pos (by decide)
 rw [e]
 omega
theorem Sm.bits {M g : Int} (hM : Sm M) (h0 : 0 ≤ g) (h : g ≤ 2 * M) : x8 g = true := (hM.bd h0 h).bits (by decide)
theorem Sm.div {M g : Int} (hM : Sm M) (h0 : 1 ≤ g) (h : g ≤ 2 * M) : D2 g = true := by
 have b := hM.bd (by first | decide | omega) h
 unfold D2
 rw [Bool.and_eq_true, decide_eq_true_iff, decide_eq_true_iff]
 refine ⟨by omega, ?_⟩
 have : g.natAbs.log2 < 4002 := (Nat.log2_lt (by first | decide | omega)).mpr b
 omega
noncomputable def IsR (r n : Int) : Prop := 0 ≤ r ∧ r * r ≤ n ∧ n < (r + 1) * (r + 1)
theorem a1y {a b : Int} (h0 : 0 ≤ a) (h : a ≤ b) : a * a ≤ b * b := Int.mul_le_mul h h h0 (by first | decide | omega)
theorem a3P {r s n : Int} (h1 : IsR r n) (h2 : IsR s n) : r = s := by
 obtain ⟨a1, a2, a3⟩ := h1
 obtain ⟨b1, b2, b3⟩ := h2
 rcases Int.lt_trichotomy r s with h | h | h
 ·have := a1y (a := r + 1) (b := s) (by first | decide | omega) (by first | decide | omega); omega
 ·exact h
 ·have := a1y (a := s + 1) (b := r) (by first | decide | omega) (by first | decide | omega); omega
theorem a4W (n : Nat) : ∃ r, IsR r n := by
 induction n with
 | zero => exact ⟨0, by decide, by decide, by decide⟩
 | succ n ih =>
  obtain ⟨r, h1, h2, h3⟩ := ih
  by_cases h : (r + 1) * (r + 1) ≤ ((n + 1 : Nat) : Int)
  ·refine ⟨r + 1, by omega, h, ?_⟩
   have e : (r + 1 + 1) * (r + 1 + 1) = (r + 1) * (r + 1) + 2 * (r + 1) + 1 := by grind
   omega
  ·exact ⟨r, h1, by omega, by omega⟩
theorem a48 {a b : Int} (hb : 0 ≤ b) (h : a * a < (b + 1) * (b + 1)) : a ≤ b := by
 rcases Int.lt_or_le b a with z | z
 ·have := a1y (a := b + 1) (b := a) (by first | decide | omega) (by first | decide | omega); omega
 ·exact z
theorem a3U {M g n : Int} (hM : Sm M) (h : g * g ≤ n) (hn : n < M * M) (h0 : 0 ≤ g) : g < M := by
 rcases Int.lt_or_le g M with z | z
 ·exact z
 ·have := a1y (a := M) (b := g) (by have := hM.1; omega) z
  omega
noncomputable abbrev aT : DT := dB (dOp (j5 (fun i j => decide (j < i))) (dL 2) (dC (.int 0)))
noncomputable abbrev aB : DM := d7 (g6 (dOp m5 (dL 1) (dC (.int 2))) (d8 1)) (g6 (dOp B1 (dL 2) (dC (.int 4))) (d8 2))
theorem a81 {M : Int} (hM : Sm M) (N : Sl) (fs : Option FS) (n : Int) (hn : n < M * M) (rest : Nat) : ∀ g : Int, 1 ≤ g → g ≤ 2 * M → g * g * rest ≤ n → n < g * g * (rest + 1) →
  ∃ g', C8 aT aB ⟨[N, .val (.int g), .val (.int rest)], fs⟩ = some (.next, ⟨[N, .val (.int g'), .val (.int 0)], fs⟩) ∧ 1 ≤ g' ∧ g' ≤ 2 * M ∧ n < g' * g' := by
 induction rest using Nat.strongRecOn with
 | ind rest ih =>
  intro g h1 h2 h3 h4
  by_cases h : rest = 0
  ·subst h
   refine ⟨g, Z3 (by simp [dB, dOp, dL, dC, j5]), h1, h2, ?_⟩
   have : g * g * ((0 : Nat) + 1 : Int) = g * g := by grind
   omega
  ·have hg : g * g ≤ n := by
    have : g * g * 1 ≤ g * g * (rest : Int) := Int.mul_le_mul_of_nonneg_left (by first | decide | omega) (Int.mul_nonneg (by first | decide | omega) (by first | decide | omega))
    omega
   have hs := a3U hM hg hn (by first | decide | omega)
   have e4 : ((rest : Int).fdiv 4) = ((rest / 4 : Nat) : Int) := by rw [Int.fdiv_eq_ediv_of_nonneg _ (by decide)]; rfl
   have hq : rest ≤ 4 * (rest / 4) + 3 := by omega
   have hq2 : 4 * (rest / 4) ≤ rest := by omega
   obtain ⟨g', e, r1, r2, r3⟩ := ih (rest / 4) (by first | decide | omega) (g * 2) (by first | decide | omega) (by first | decide | omega) (by
    have e1 : g * 2 * (g * 2) * ((rest / 4 : Nat) : Int) = g * g * (4 * ((rest / 4 : Nat) : Int)) := by grind
    have : g * g * (4 * ((rest / 4 : Nat) : Int)) ≤ g * g * (rest : Int) := Int.mul_le_mul_of_nonneg_left (by first | decide | omega) (Int.mul_nonneg (by first | decide | omega) (by first | decide | omega))
    omega) (by
    have e1 : g * 2 * (g * 2) * (((rest / 4 : Nat) : Int) + 1) = g * g * (4 * ((rest / 4 : Nat) : Int) + 4) := by grind
    have : g * g * ((rest : Int) + 1) ≤ g * g * (4 * ((rest / 4 : Nat) : Int) + 4) := Int.mul_le_mul_of_nonneg_left (by first | decide | omega) (Int.mul_nonneg (by first | decide | omega) (by first | decide | omega))
    omega)
   refine ⟨g', U3 (s1 := ⟨[N, .val (.int g), .val (.int rest)], fs⟩) (s2 := ⟨[N, .val (.int (g * 2)), .val (.int ((rest / 4 : Nat) : Int))], fs⟩) ?_ ?_ e, r1, r2, r3⟩
   ·have : 0 < rest := by omega
    simp [dB, dOp, dL, dC, j5, this]
   ·have b1 : x8 g = true := hM.bits (by first | decide | omega) (by first | decide | omega)
    have b2 : x8 2 = true := by decide
    have d4 : D2 4 = true := by decide
    exact (j7 (s1 := ⟨[N, .val (.int (g * 2)), .val (.int rest)], fs⟩) (u6 (e8 rfl rfl (y0 b1 b2)) rfl)).trans (u6 (e8 rfl rfl ((Q9 _ d4).trans (congrArg (fun z => some (D.int z)) e4))) rfl)
theorem above {M : Int} (hM : Sm M) (n : Int) (hn0 : 0 ≤ n) (hn : n < M * M) (fs : Option FS) : ∃ g, M8 [.int n] fs = some (.int g, fs) ∧ 1 ≤ g ∧ g ≤ 2 * M ∧ n < g * g := by
 obtain ⟨m, rfl⟩ := Int.eq_ofNat_of_zero_le hn0
 obtain ⟨g, e, r1, r2, r3⟩ := a81 hM (.val (.int m)) fs m hn m 1 (by decide) (by have := hM.1; omega) (by first | decide | omega) (by first | decide | omega)
 refine ⟨g, v0 (s := ⟨[.val (.int m), .val (.int g), .val (.int 0)], fs⟩) ?_, r1, r2, r3⟩
 show a3g ⟨[.val (.int m), .no, .no], fs⟩ = _
 unfold a3g
 rw [j7 (s1 := ⟨[.val (.int m), .val (.int 1), .no], fs⟩) (by simp [g6, dC, d8])]
 rw [j7 (s1 := ⟨[.val (.int m), .val (.int 1), .val (.int m)], fs⟩) (by simp [g6, dV, d8])]
 rw [j7 e]
 exact A8 (by simp [dV])
theorem a71 {g q r n : Int} (hg : 0 < g) (h1 : n < g * q + g) (h2 : r * r ≤ n) : 2 * r ≤ g + q := by
 have h : ¬ (g + q ≤ 2 * r - 1) := by
  intro h
  have h3 : g * (q + 1) ≤ g * (2 * r - g) := Int.mul_le_mul_of_nonneg_left (by first | decide | omega) (by first | decide | omega)
  have h4 : g * (2 * r - g) = r * r - (r - g) * (r - g) := by grind
  have h5 : 0 ≤ (r - g) * (r - g) := by
   rcases Int.le_total 0 (r - g) with z | z
   ·exact Int.mul_nonneg z z
   ·exact Int.mul_nonneg_of_nonpos_of_nonpos z z
  have h6 : g * (q + 1) = g * q + g := by grind
  omega
 omega
noncomputable abbrev nT : DT := dB (dOp (j5 (fun i j => decide (i < j))) (dL 2) (dL 1))
noncomputable abbrev nS : DM := g6 (dOp B1 (dOp k0 (dL 1) (dOp B1 (dL 0) (dL 1))) (dC (.int 2))) (d8 2)
noncomputable def nx (n g : Int) : Int := (g + n / g) / 2
theorem a7o {M : Int} (hM : Sm M) (n g : Int) (x : Sl) (fs : Option FS) (h1 : 1 ≤ g) (h2 : g ≤ 2 * M) : nS ⟨[.val (.int n), .val (.int g), x], fs⟩ = some (.next, ⟨[.val (.int n), .val (.int g), .val (.int (nx n g))], fs⟩) := by
 have dg : D2 g = true := hM.div h1 h2
 have d2 : D2 2 = true := by decide
 have e1 := Int.fdiv_eq_ediv_of_nonneg n (show (0 : Int) ≤ g by omega)
 have e2 := Int.fdiv_eq_ediv_of_nonneg (g + n / g) (show (0 : Int) ≤ 2 by decide)
 simp [g6, dOp, dL, dC, d8, B1, k0, dg, d2, e1, e2, nx]
theorem a2R {n g r : Int} (h1 : 1 ≤ g) (hr : IsR r n) : r ≤ nx n g := by
 have m1 := Int.mul_ediv_add_emod n g
 have m2 := Int.emod_nonneg n (show g ≠ 0 by omega)
 have m3 := Int.emod_lt_of_pos n (show 0 < g by omega)
 have := a71 (q := n / g) (show 0 < g by omega) (by first | decide | omega) hr.2.1
 unfold nx; omega
theorem a8c {M : Int} (hM : Sm M) (n r : Int) (hr : IsR r n) (r1 : 1 ≤ r) (fs : Option FS) (k : Nat) : ∀ g : Int, g.toNat = k → r ≤ g → g ≤ 2 * M →
  ∃ x, C8 nT (d7 (g6 (dV 2) (d8 1)) nS) ⟨[.val (.int n), .val (.int g), .val (.int (nx n g))], fs⟩ = some (.next, ⟨[.val (.int n), .val (.int r), x], fs⟩) := by
 induction k using Nat.strongRecOn with
 | ind k ih =>
  intro g hk h1 h2
  by_cases h : nx n g < g
  ·obtain ⟨x, e⟩ := ih (nx n g).toNat (by have := a2R (g := g) (by first | decide | omega) hr; omega) (nx n g) rfl (a2R (by first | decide | omega) hr) (by first | decide | omega)
   refine ⟨x, U3 (s1 := ⟨[.val (.int n), .val (.int g), .val (.int (nx n g))], fs⟩) (s2 := ⟨[.val (.int n), .val (.int (nx n g)), .val (.int (nx n (nx n g)))], fs⟩) (by simp [dB, dOp, dL, j5, h]) ?_ e⟩
   rw [j7 (s1 := ⟨[.val (.int n), .val (.int (nx n g)), .val (.int (nx n g))], fs⟩) (by simp [g6, dV, d8])]
   exact a7o hM n (nx n g) _ fs (by have := a2R (g := g) (by first | decide | omega) hr; omega) (by first | decide | omega)
  ·have m1 := Int.mul_ediv_add_emod n g
   have m2 := Int.emod_nonneg n (show g ≠ 0 by omega)
   have hq : g ≤ n / g := by unfold nx at h; omega
   have hgg : g * g ≤ g * (n / g) := Int.mul_le_mul_of_nonneg_left hq (by first | decide | omega)
   have : g ≤ r := a48 hr.1 (by have := hr.2.2; omega)
   have e : g = r := by omega
   subst e
   exact ⟨.val (.int (nx n g)), Z3 (by simp [dB, dOp, dL, j5, h])⟩
theorem a6Z {M : Int} (hM : Sm M) (n r : Int) (hr : IsR r n) (hn : n < M * M) (fs : Option FS) : T9 M8 [.int n] fs = some (.int r, fs) := by
 have hn0 : 0 ≤ n := by have := Int.mul_nonneg hr.1 hr.1; have := hr.2.1; omega
 by_cases h0 : n = 0
 ·subst h0
  have e : r = 0 := a3P hr ⟨by decide, by decide, by decide⟩
  subst e
  refine v0 (s := ⟨[.val (.int 0), .no, .no], fs⟩) ?_
  show a1a M8 ⟨[.val (.int 0), .no, .no], fs⟩ = _
  unfold a1a
  exact K9 (by simp [j6, dB, dOp, dL, dC, E2, i3])
 ·obtain ⟨g, e, g1, g2, g3⟩ := above hM n hn0 hn fs
  have r1 : 1 ≤ r := by
   rcases Int.lt_or_le r 1 with z | z
   ·have e : r = 0 := by have := hr.1; omega
    subst e
    have := hr.2.2; omega
   ·exact z
  have hrg : r ≤ g := by
   have h := hr.2.1
   have e : (g - 1 + 1) * (g - 1 + 1) = g * g := by grind
   have : r ≤ g - 1 := a48 (by first | decide | omega) (by first | decide | omega)
   omega
  obtain ⟨x, hw⟩ := a8c hM n r hr r1 fs g.toNat g rfl hrg g2
  refine v0 (s := ⟨[.val (.int n), .val (.int r), x], fs⟩) ?_
  show a1a M8 ⟨[.val (.int n), .no, .no], fs⟩ = _
  unfold a1a
  rw [j7 (s1 := ⟨[.val (.int n), .no, .no], fs⟩) (N8 (B4 (e8 rfl rfl ((E2 _ _).trans (by rw [decide_eq_false h0])))))]
  rw [j7 (s1 := ⟨[.val (.int n), .val (.int g), .no], fs⟩) (u6 (w4 rfl e) rfl)]
  rw [j7 (a7o hM n g .no fs g1 g2)]
  rw [j7 hw]
  exact A8 (by simp [dV])
noncomputable abbrev lT1 : DT := dB (dOp (j5 (fun i j => decide (i ≤ j))) (dOp m5 (dL 2) (dL 2)) (dL 0))
noncomputable abbrev lB1 : DM := g6 (dOp m5 (dL 2) (dC (.int 2))) (d8 2)
theorem b2i {M : Int} (hM : Sm M) (n : Int) (hn0 : 0 ≤ n) (hn : n < M * M) (a x : Sl) (fs : Option FS) (k : Nat) : ∀ h : Int, (n + 1 - h).toNat = k → 1 ≤ h → h ≤ 2 * M →
  ∃ h', C8 lT1 lB1 ⟨[.val (.int n), a, .val (.int h), x], fs⟩ = some (.next, ⟨[.val (.int n), a, .val (.int h'), x], fs⟩) ∧ 1 ≤ h' ∧ h' ≤ 2 * M ∧ n < h' * h' := by
 induction k using Nat.strongRecOn with
 | ind k ih =>
  intro h hk h1 h2
  have bh : x8 h = true := hM.bits (by first | decide | omega) h2
  by_cases c : h * h ≤ n
  ·have hs := a3U hM c hn (by first | decide | omega)
   have hle : h ≤ n := by
    have : h * 1 ≤ h * h := Int.mul_le_mul_of_nonneg_left h1 (by first | decide | omega)
    omega
   obtain ⟨h', e, r⟩ := ih (n + 1 - h * 2).toNat (by first | decide | omega) (h * 2) rfl (by first | decide | omega) (by first | decide | omega)
   have b2 : x8 2 = true := by decide
   exact ⟨h', U3 (s1 := ⟨[.val (.int n), a, .val (.int h), x], fs⟩) (s2 := ⟨[.val (.int n), a, .val (.int (h * 2)), x], fs⟩) (by simp [dB, dOp, dL, j5, m5, bh, c]) (by simp [g6, dOp, dL, dC, d8, m5, bh, b2]) e, r⟩
  ·exact ⟨h, Z3 (by simp [dB, dOp, dL, j5, m5, bh, c]), h1, h2, by omega⟩
noncomputable abbrev lT2 : DT := dB (dOp (j5 (fun i j => decide (j < i))) (dOp n8 (dL 2) (dL 1)) (dC (.int 1)))
noncomputable abbrev lB2 : DM := d7 (g6 (dOp B1 (dOp k0 (dL 1) (dL 2)) (dC (.int 2))) (d8 3)) (g6 (dIf (dB (dOp (j5 (fun i j => decide (i ≤ j))) (dOp m5 (dL 3) (dL 3)) (dL 0))) (i7 (a0 (dV 3) (a0 (dV 2) b0))) (i7 (a0 (dV 1) (a0 (dV 3) b0)))) (o6 2 (m9 (d8 1) (m9 (d8 2) o8))))
theorem b0R {M : Int} (hM : Sm M) (n : Int) (fs : Option FS) (k : Nat) : ∀ (l h : Int) (x : Sl), (h - l).toNat = k → 0 ≤ l → l < h → h ≤ 2 * M → l * l ≤ n → n < h * h →
  ∃ l' y z, C8 lT2 lB2 ⟨[.val (.int n), .val (.int l), .val (.int h), x], fs⟩ = some (.next, ⟨[.val (.int n), .val (.int l'), y, z], fs⟩) ∧ IsR l' n := by
 induction k using Nat.strongRecOn with
 | ind k ih =>
  intro l h x hk h0 h1 h2 h3 h4
  have sz : (2 : Nat) ≤ sizeLine := by decide
  by_cases c : 1 < h - l
  ·have e2 := Int.fdiv_eq_ediv_of_nonneg (l + h) (show (0 : Int) ≤ 2 by decide)
   have d2 : D2 2 = true := by decide
   have bm : x8 ((l + h) / 2) = true := hM.bits (by first | decide | omega) (by first | decide | omega)
   have st : ∀ (l h : Int) (x : Sl), g6 (dOp B1 (dOp k0 (dL 1) (dL 2)) (dC (.int 2))) (d8 3) ⟨[.val (.int n), .val (.int l), .val (.int h), x], fs⟩ = some (.next, ⟨[.val (.int n), .val (.int l), .val (.int h), .val (.int ((l + h) / 2))], fs⟩) := fun l h x => u6 (e8 (e8 rfl rfl rfl) rfl ((Q9 _ d2).trans (congrArg (fun z => some (D.int z)) (Int.fdiv_eq_ediv_of_nonneg (l + h) (show (0 : Int) ≤ 2 by decide))))) rfl
   have t : lT2 ⟨[.val (.int n), .val (.int l), .val (.int h), x], fs⟩ = some (true, ⟨[.val (.int n), .val (.int l), .val (.int h), x], fs⟩) := by simp [dB, dOp, dL, dC, j5, n8, c]
   by_cases q : (l + h) / 2 * ((l + h) / 2) ≤ n
   ·obtain ⟨l', y, z, e, r⟩ := ih (h - (l + h) / 2).toNat (by first | decide | omega) ((l + h) / 2) h (.val (.int ((l + h) / 2))) rfl (by first | decide | omega) (by first | decide | omega) h2 q h4
    refine ⟨l', y, z, U3 t ?_ e, r⟩
    exact (j7 (st l h x)).trans (u6 ((a3y (B4 (e8 (e8 rfl rfl (y0 bm bm)) rfl (congrArg (fun z => some (D.bl z)) (decide_eq_true q))))).trans (V4 rfl rfl)) rfl)
   ·obtain ⟨l', y, z, e, r⟩ := ih ((l + h) / 2 - l).toNat (by first | decide | omega) l ((l + h) / 2) (.val (.int ((l + h) / 2))) rfl h0 (by first | decide | omega) (by first | decide | omega) h3 (by first | decide | omega)
    refine ⟨l', y, z, U3 t ?_ e, r⟩
    exact (j7 (st l h x)).trans (u6 ((a4A (B4 (e8 (e8 rfl rfl (y0 bm bm)) rfl (congrArg (fun z => some (D.bl z)) (decide_eq_false q))))).trans (V4 rfl rfl)) rfl)
  ·have e : h = l + 1 := by omega
   subst e
   exact ⟨l, .val (.int (l + 1)), x, Z3 (by simp [dB, dOp, dL, dC, j5, n8, c]), h0, h3, h4⟩
theorem a8o {M : Int} (hM : Sm M) (n r : Int) (hr : IsR r n) (hn : n < M * M) (fs : Option FS) : W2 [.int n] fs = some (.int r, fs) := by
 have hn0 : 0 ≤ n := by have := Int.mul_nonneg hr.1 hr.1; have := hr.2.1; omega
 have sz : (2 : Nat) ≤ sizeLine := by decide
 obtain ⟨h, e1, a1, a2, a3⟩ := b2i hM n hn0 hn (.val (.int 0)) .no fs _ 1 rfl (by decide) (by have := hM.1; omega)
 obtain ⟨l, y, z, e2, b⟩ := b0R hM n fs _ 0 h .no rfl (by decide) (by first | decide | omega) a2 (by first | decide | omega) a3
 have := a3P b hr
 subst this
 refine v0 (s := ⟨[.val (.int n), .val (.int l), y, z], fs⟩) ?_
 show a2K ⟨[.val (.int n), .no, .no, .no], fs⟩ = _
 unfold a2K
 rw [j7 (s1 := ⟨[.val (.int n), .val (.int 0), .val (.int 1), .no], fs⟩) (by simp [g6, i7, a0, dC, b0, sz, o6, m9, o8, d8])]
 rw [j7 e1, j7 e2]
 exact A8 (by simp [dV])
noncomputable def Q4 (n d rn rd : Int) : D := if rn * rn = n ∧ rd * rd = d then .tup [.int rn, .int rd] else .non
theorem sm {M n r : Int} (hM : Sm M) (hr : IsR r n) (hn : n < M * M) : r < M := a3U hM hr.2.1 hn hr.1
theorem a8W {M : Int} (hM : Sm M) (n d rn rd : Int) (h1 : IsR rn n) (h2 : IsR rd d) (hn : n < M * M) (hd : d < M * M) (fs : Option FS) : a0R (T9 M8) [.tup [.int n, .int d]] fs = some (Q4 n d rn rd, fs) := by
 have hn0 : ¬ n < 0 := by have := Int.mul_nonneg h1.1 h1.1; have := h1.2.1; omega
 have s1 := sm hM h1 hn
 have s2 := sm hM h2 hd
 have b1 : x8 rn = true := hM.bits h1.1 (by have := hM.1; omega)
 have b2 : x8 rd = true := hM.bits h2.1 (by have := hM.1; omega)
 have sz : (2 : Nat) ≤ sizeLine := by decide
 refine v0 (s := ⟨[.val (.tup [.int n, .int d]), .val (.int rn), .val (.int rd)], fs⟩) ?_
 show a3r (T9 M8) ⟨[.val (.tup [.int n, .int d]), .no, .no], fs⟩ = _
 unfold a3r
 rw [j7 (s1 := ⟨[.val (.tup [.int n, .int d]), .no, .no], fs⟩) (N8 (B4 (e8 (e8 rfl rfl rfl) rfl (congrArg (fun z => some (D.bl z)) (decide_eq_false hn0)))))]
 rw [j7 (s1 := ⟨[.val (.tup [.int n, .int d]), .val (.int rn), .no], fs⟩) (u6 (w4 (n0 (e8 rfl rfl rfl) rfl) (a6Z hM n rn h1 hn fs)) rfl)]
 rw [j7 (s1 := ⟨[.val (.tup [.int n, .int d]), .val (.int rn), .val (.int rd)], fs⟩) (u6 (w4 (n0 (e8 rfl rfl rfl) rfl) (a6Z hM d rd h2 hd fs)) rfl)]
 have t1 : ∀ z, (!decide (rn * rn = n)) = z → dB (dOp pNe (dOp m5 (dL 1) (dL 1)) (dOp pIx (dL 0) (dC (.int 0)))) ⟨[.val (.tup [.int n, .int d]), .val (.int rn), .val (.int rd)], fs⟩ = some (z, ⟨[.val (.tup [.int n, .int d]), .val (.int rn), .val (.int rd)], fs⟩) := fun z hz => B4 (e8 (e8 rfl rfl (y0 b1 b1)) (e8 rfl rfl rfl) ((J3 _ _).trans (by rw [hz])))
 have t2 : ∀ z, (!decide (rd * rd = d)) = z → dB (dOp pNe (dOp m5 (dL 2) (dL 2)) (dOp pIx (dL 0) (dC (.int 1)))) ⟨[.val (.tup [.int n, .int d]), .val (.int rn), .val (.int rd)], fs⟩ = some (z, ⟨[.val (.tup [.int n, .int d]), .val (.int rn), .val (.int rd)], fs⟩) := fun z hz => B4 (e8 (e8 rfl rfl (y0 b2 b2)) (e8 rfl rfl rfl) ((J3 _ _).trans (by rw [hz])))
 by_cases c1 : rn * rn = n
 ·by_cases c2 : rd * rd = d
  ·rw [j7 (N8 (N6 (t1 false (by rw [decide_eq_true c1]; rfl)) (t2 false (by rw [decide_eq_true c2]; rfl)))), Q4, if_pos ⟨c1, c2⟩]
   exact A8 (V4 rfl rfl)
  ·rw [Q4, if_neg (fun z => c2 z.2)]
   refine K9 ?_
   rw [J7 (N6 (t1 false (by rw [decide_eq_true c1]; rfl)) (t2 true (by rw [decide_eq_false c2]; rfl)))]
   rfl
 ·rw [Q4, if_neg (fun z => c1 z.1)]
  refine K9 ?_
  rw [J7 (a2I (t1 true (by rw [decide_eq_false c1]; rfl)))]
  rfl
end T

namespace DL
open PySem L2
structure Ok (k n : Nat) (d : D) : Prop where
 pl : d.plain = true
 sh : d.py.showable = true
 la : d.py.canLay0 = true
 dp : d.py.depth ≤ k
 le : d.py.leavesShort 1921 = true
 bu : d.py.bulk ≤ n
structure OkL (k n : Nat) (ds : List D) : Prop where
 pl : D.plains ds = true
 sh : PyData.showableAll (D.pys ds) = true
 la : PyData.canLayAll0 (D.pys ds) = true
 dp : PyData.depthAll (D.pys ds) ≤ k
 le : PyData.leavesShortAll 1921 (D.pys ds) = true
 bu : PyData.bulkAll (D.pys ds) ≤ n
theorem Ok.mono {k n k' n' : Nat} {d : D} (h : Ok k n d) (hk : k ≤ k') (hn : n ≤ n') : Ok k' n' d := ⟨h.pl, h.sh, h.la, Nat.le_trans h.dp hk, h.le, Nat.le_trans h.bu hn⟩
theorem OkL.mono {k n k' n' : Nat} {ds : List D} (h : OkL k n ds) (hk : k ≤ k') (hn : n ≤ n') : OkL k' n' ds := ⟨h.pl, h.sh, h.la, Nat.le_trans h.dp hk, h.le, Nat.le_trans h.bu hn⟩
theorem Ok.non : Ok 0 0 .non := ⟨rfl, rfl, rfl, Nat.le_refl _, rfl, Nat.le_refl _⟩
theorem Ok.bl (b : Bool) : Ok 0 0 (.bl b) := ⟨rfl, rfl, rfl, Nat.le_refl _, rfl, Nat.le_refl _⟩
theorem Ok.int {i : Int} (h : Bd 1920 i) : Ok 0 0 (.int i) := by
 have hl : i.natAbs.log2 < 1920 := a00 (by decide) h
 refine ⟨rfl, ?_, rfl, Nat.le_refl _, ?_, Nat.le_refl _⟩
 ·simp only [D.py, PyData.showable]; exact decide_eq_true hl
 ·simp only [D.py, PyData.leavesShort, PyData.shown]
  exact decide_eq_true (b1t hl)
theorem OkL.nil : OkL 0 0 [] := ⟨rfl, rfl, rfl, Nat.le_refl _, rfl, Nat.le_refl _⟩
theorem OkL.cons {k l n m : Nat} {d : D} {ds : List D} (h : Ok k n d) (hs : OkL l m ds) : OkL (max k l) (n + 1 + m) (d :: ds) := by
 refine ⟨?_, ?_, ?_, ?_, ?_, ?_⟩
 ·simp only [D.plains, h.pl, hs.pl, Bool.and_self]
 ·simp only [D.pys, PyData.showableAll, h.sh, hs.sh, Bool.and_self]
 ·simp only [D.pys, PyData.canLayAll0, h.la, hs.la, Bool.and_self]
 ·have := h.dp; have := hs.dp; simp only [D.pys, PyData.depthAll]; omega
 ·simp only [D.pys, PyData.leavesShortAll, h.le, hs.le, Bool.and_self]
 ·have := h.bu; have := hs.bu; simp only [D.pys, PyData.bulkAll]; omega
theorem Ok.tup {k n : Nat} {ds : List D} (h : OkL k n ds) : Ok (k + 1) n (.tup ds) := by
 refine ⟨?_, ?_, ?_, ?_, ?_, ?_⟩
 ·simp only [D.plain, h.pl]
 ·simp only [D.py, PyData.showable, h.sh]
 ·simp only [D.py, PyData.canLay0, h.la]
 ·have := h.dp; simp only [D.py, PyData.depth]; omega
 ·simp only [D.py, PyData.leavesShort, h.le]
 ·have := h.bu; simp only [D.py, PyData.bulk]; omega
theorem Ok.lst {k n : Nat} {ds : List D} (h : OkL k n ds) : Ok (k + 1) n (.lst ds) := by
 refine ⟨?_, ?_, ?_, ?_, ?_, ?_⟩
 ·simp only [D.plain, h.pl]
 ·simp only [D.py, PyData.showable, h.sh]
 ·simp only [D.py, PyData.canLay0, h.la]
 ·have := h.dp; simp only [D.py, PyData.depth]; omega
 ·simp only [D.py, PyData.leavesShort, h.le]
 ·have := h.bu; simp only [D.py, PyData.bulk]; omega
theorem OkL.all {k n : Nat} : ∀ {ds : List D}, (∀ d ∈ ds, Ok k n d) → OkL k (ds.length * (n + 1)) ds
 | [], _ => OkL.nil.mono (by first | decide | omega) (by first | decide | omega)
 | d :: r, h => by
  have := (OkL.cons (h d (List.mem_cons_self ..)) (OkL.all (ds := r) fun x hx => h x (List.mem_cons_of_mem _ hx)))
  refine this.mono (by first | decide | omega) ?_
  rw [List.length_cons, Nat.add_mul, Nat.one_mul]; omega
theorem Ok.show {k n : Nat} {d : D} (h : Ok k n d) (hk : k ≤ 64 := by decide) (hn : n ≤ 8000 := by decide) : M3 d = true := by
 have e := PyData.shown_le_bulk 1921 (by decide) d.py h.le
 have e2 : (1921 + 2) * d.py.bulk ≤ 1923 * 8000 := Nat.mul_le_mul (by decide) (Nat.le_trans h.bu hn)
 have : d.py.shown.length ≤ sizeLine := by rw [sizeLine_eq]; omega
 simp only [M3, h.pl, h.sh, h.la, Bool.true_and, Bool.and_true, decide_eq_true this, decide_eq_true (Nat.le_trans h.dp hk)]
theorem Ok.eq {k n : Nat} {d : D} (h : Ok k n d) (hk : k ≤ 64 := by decide) : y7 d = true := by
 simp only [y7, h.pl, SeqAt.shaped, h.la, Bool.true_and, decide_eq_true (Nat.le_trans h.dp hk)]
theorem Ok.repr {k n : Nat} {d : D} (h : Ok k n d) (hk : k ≤ 64 := by decide) (hn : n ≤ 8000 := by decide) : w9 d = some (.str d.py.shown) := a5C (h.show hk hn)
theorem Ok.fr {k : Nat} {p : Rat} (h : Sz k p) (hk : k ≤ 1920 := by decide) : Ok 1 2 (fr p) := Ok.tup ((OkL.cons (Ok.int (h.num.mono hk)) (OkL.cons (Ok.int (h.den.mono hk)) OkL.nil)))
theorem Ok.pt {k : Nat} {a : Pt} (h : Ps k a) (hk : k ≤ 1920 := by decide) : Ok 1 3 (pt a) := Ok.tup ((OkL.cons (Ok.int (h.x.mono hk)) (OkL.cons (Ok.int (h.y.mono hk)) (OkL.cons (Ok.int (h.l.mono hk)) OkL.nil))))
theorem a1X (x : Str) : pNe (.str x) (.str x) = some (.bl false) := by rw [a8L]; simp
theorem ixT (ds : List D) (i : Int) : pIx (.tup ds) (.int i) = atI ds i := rfl
theorem ixL (ds : List D) (i : Int) : pIx (.lst ds) (.int i) = atI ds i := rfl
theorem y9 (p : Rat) : pIx (DL.fr p) (.int 0) = some (.int p.num) := rfl
theorem A0 (p : Rat) : pIx (DL.fr p) (.int 1) = some (.int p.den) := rfl
theorem A3 (a : Pt) : pIx (DL.pt a) (.int 0) = some (.int (pX a)) := rfl
theorem A2 (a : Pt) : pIx (DL.pt a) (.int 1) = some (.int (pY a)) := rfl
theorem A4 (a : Pt) : pIx (DL.pt a) (.int 2) = some (.int (pL a)) := rfl
theorem a44 {a b : Pt} (h1 : pX a = pX b) (h2 : pY a = pY b) (h3 : pL a = pL b) : a = b := by
 have e1 := L9 a; have e2 := L9 b; have e3 := M1 a; have e4 := M1 b
 have n := a0K b
 rw [h1, h3] at e1; rw [h2, h3] at e3
 exact Prod.ext (by grind) (by grind)
theorem b4t {k l : Nat} {a b : Pt} (ha : Ps k a) (hb : Ps l b) (hk : k ≤ 1920 := by decide) (hl : l ≤ 1920 := by decide) : pNe (pt a) (pt b) = some (.bl (!decide (a = b))) := by
 have o1 := (Ok.pt ha hk).eq
 have o2 := (Ok.pt hb hl).eq
 unfold pt at *
 simp only [pNe, o1, o2, Bool.and_self, if_true, D.py, D.pys, PyData.eqv, PyData.eqvAll, Bool.beq_eq_decide_eq, Bool.and_true]
 congr 3
 rw [Bool.eq_iff_iff]
 simp only [Bool.and_eq_true, decide_eq_true_iff]
 constructor
 ·rintro ⟨h1, h2, h3⟩; exact a44 h1 h2 h3
 ·rintro rfl; exact ⟨rfl, rfl, rfl⟩
theorem a5h {k l : Nat} {p q : Rat} (ha : Sz k p) (hb : Sz l q) (hk : k ≤ 1920 := by decide) (hl : l ≤ 1920 := by decide) : pEq (fr p) (fr q) = some (.bl (decide (p = q))) := by
 have o1 := (Ok.fr ha hk).eq
 have o2 := (Ok.fr hb hl).eq
 unfold fr at *
 simp only [pEq, o1, o2, Bool.and_self, if_true, D.py, D.pys, PyData.eqv, PyData.eqvAll, Bool.beq_eq_decide_eq, Bool.and_true]
 congr 2
 rw [Bool.eq_iff_iff]
 simp only [Bool.and_eq_true, decide_eq_true_iff]
 constructor
 ·rintro ⟨h1, h2⟩; exact Rat.ext h1 (by first | decide | omega)
 ·rintro rfl; exact ⟨rfl, rfl⟩
end DL

namespace DL
open PySem L2
noncomputable def asc (x : Str) : Prop := ∀ c ∈ x.cps.toList, c < 128
mutual
noncomputable def Th (b : Nat) : Nat → D → Prop
 | _, .non => True
 | _, .bl _ => True
 | _, .int i => Bd b i
 | _, .str x => asc x
 | k + 1, .tup ds => Ths b k ds
 | k + 1, .lst ds => Ths b k ds
 | _, _ => False
noncomputable def Ths (b : Nat) : Nat → List D → Prop
 | _, [] => True
 | k, d :: r => Th b k d ∧ Ths b k r
end
noncomputable def bk (d : D) : Nat := d.py.bulk
noncomputable def bks (ds : List D) : Nat := PyData.bulkAll (D.pys ds)
theorem a7L : bks [] = 0 := rfl
theorem a05 (d : D) (r : List D) : bks (d :: r) = bk d + 1 + bks r := by simp only [bks, bk, D.pys, PyData.bulkAll]
theorem X3 (ds : List D) : bk (.tup ds) = bks ds := by simp only [bks, bk, D.py, PyData.bulk]
theorem b0y (i : Bool) : bk (.bl i) = 0 := rfl
theorem a3L : ∀ ds : List D, ds.length ≤ bks ds
 | [] => Nat.le_refl _
 | d :: r => by have := a3L r; rw [a05, List.length_cons]; omega
theorem a54 {ds : List D} {d : D} (h : d ∈ ds) : bk d + 1 ≤ bks ds := by
 induction ds with
 | nil => cases h
 | cons x r ih =>
  rw [a05]
  rcases List.mem_cons.mp h with z | z
  ·subst z; omega
  ·have := ih z; omega
section
variable {b b' k k' : Nat}
mutual
theorem Th.mono (hb : b ≤ b') : ∀ {k k' : Nat} (d : D), k ≤ k' → Th b k d → Th b' k' d
 | k, k', .non, _, _ => by unfold Th; trivial
 | k, k', .bl _, _, _ => by unfold Th; trivial
 | k, k', .int i, _, h => by unfold Th at *; exact Bd.mono h hb
 | k, k', .str x, _, h => by unfold Th at *; exact h
 | 0, k', .tup ds, _, h => by unfold Th at h; exact h.elim
 | k + 1, 0, .tup ds, hk, h => by omega
 | k + 1, k' + 1, .tup ds, hk, h => by unfold Th at *; exact Ths.mono hb ds (by first | decide | omega) h
 | 0, k', .lst ds, _, h => by unfold Th at h; exact h.elim
 | k + 1, 0, .lst ds, hk, h => by omega
 | k + 1, k' + 1, .lst ds, hk, h => by unfold Th at *; exact Ths.mono hb ds (by first | decide | omega) h
 | k, k', .feed, _, h => by unfold Th at h; exact h.elim
 | k, k', .scr _, _, h => by unfold Th at h; exact h.elim
theorem Ths.mono (hb : b ≤ b') : ∀ {k k' : Nat} (ds : List D), k ≤ k' → Ths b k ds → Ths b' k' ds
 | k, k', [], _, _ => by unfold Ths; trivial
 | k, k', d :: r, hk, h => by unfold Ths at *; exact ⟨Th.mono hb d hk h.1, Ths.mono hb r hk h.2⟩
end
theorem Ths.mem : ∀ {ds : List D} {d : D}, Ths b k ds → d ∈ ds → Th b k d
 | x :: r, d, h, m => by
  unfold Ths at h
  rcases List.mem_cons.mp m with z | z
  ·subst z; exact h.1
  ·exact Ths.mem h.2 z
theorem Ths.of : ∀ {ds : List D}, (∀ d ∈ ds, Th b k d) → Ths b k ds
 | [], _ => by unfold Ths; trivial
 | d :: r, h => by unfold Ths; exact ⟨h d (List.mem_cons_self ..), Ths.of fun x hx => h x (List.mem_cons_of_mem _ hx)⟩
end
theorem a4y (ds : List D) (n : Nat) (h : n ≤ ds.length) : J8 ds none (some (n : Int)) = ds.take n := by
 unfold J8 HT.sIx
 have h1 : ¬ (n : Int) < 0 := by omega
 simp only [h1, if_false, List.drop_zero, Nat.sub_zero, Int.toNat_natCast]
 rw [Nat.min_eq_left h]
theorem b2z (ds : List D) (n : Nat) (h : n ≤ ds.length) : J8 ds (some (n : Int)) none = ds.drop n := by
 unfold J8 HT.sIx
 have h1 : ¬ (n : Int) < 0 := by omega
 simp only [h1, if_false, Int.toNat_natCast]
 rw [Nat.min_eq_left h]
 exact List.take_of_length_le (by rw [List.length_drop]; omega)
end DL

namespace T
open PySem L2 DL
theorem O7 (C : String) (ds : List D) : M0 C (.tup ds) = some (.bl (E6 "tuple" C)) := rfl
theorem a3n (C : String) (i : Bool) : M0 C (.bl i) = some (.bl (E6 "bool" C)) := rfl
end T

namespace DL
open PySem L2
theorem a1C {idx : List Nat} {fe : DE} {g : D → D} (caps : List Sl) (fs : Option FS) : ∀ (ds : List D), (∀ d ∈ ds, ∃ s, fe ⟨.val d :: caps, fs⟩ = some (g d, s) ∧ s.fs = fs) → A9 (fun d => some (.val d :: caps)) w6 fe ds fs = some (ds.map g, fs)
 | [], _ => rfl
 | d :: r, h => by
  obtain ⟨s, e, q⟩ := h d (List.mem_cons_self ..)
  have ih := a1C (idx := idx) caps fs r fun x hx => h x (List.mem_cons_of_mem _ hx)
  simp [A9, w6, e, q, ih]
theorem a4v (p : D → Bool) : ∀ ds : List D, O8 (ds.map fun d => .bl (p d)) = some (ds.all p)
 | [] => rfl
 | d :: r => by simp [O8, a4v p r]
theorem a50 {ds : List D} (h : ds.length = 2) : ∃ a b, ds = [a, b] := by
 match ds, h with
 | [a, b], _ => exact ⟨a, b, rfl⟩
theorem b3p {ds : List D} (h : ds.length = 3) : ∃ a b c, ds = [a, b, c] := by
 match ds, h with
 | [a, b, c], _ => exact ⟨a, b, c, rfl⟩
noncomputable def whole : D → Bool
 | .int _ => true
 | _ => false
theorem a0W {d : D} (h : whole d = true) : ∃ i, d = .int i := by
 cases d with
 | int i => exact ⟨i, rfl⟩
 | _ => cases h
noncomputable def C4 : D → Bool
 | .tup [.int x, .int y, .int d] => decide (1 ≤ d) && decide (Int.gcd (Int.gcd x y : Int) d = 1)
 | _ => false
noncomputable def thing : D → Bool
 | .feed => false
 | .scr _ => false
 | _ => true
theorem Th.thing {b k : Nat} {d : D} (h : Th b k d) : thing d = true := by
 cases d with
 | feed => unfold Th at h; exact h.elim
 | scr _ => unfold Th at h; exact h.elim
 | _ => rfl
end DL
namespace T
open PySem L2 DL
theorem b4f (d : D) (fs : Option FS) (h : thing d = true) : U1 [d] fs = some (.bl (whole d), fs) := by
 refine v0 (s := ⟨[.val d], fs⟩) ?_
 show a4K ⟨[.val d], fs⟩ = _
 cases d with
 | feed => cases h
 | scr _ => cases h
 | non => rfl
 | bl _ => rfl
 | int _ => rfl
 | str _ => rfl
 | tup _ => simp [a4K, d7, t6, g6, dOp, dUn, dC, dL, dV, d8, j6, dB, i3, d5, a0, b0, i7, j9, dCB, one, l0, m6, dIf, o7, dOr, o9, t0, u4, t9, k0, n8, o0, j5, m7, o6, m9, o8, p9, dTr, u0, ixT, ixL, y9, A0, A3, A2, A4, O7, E6, whole]
 | lst _ => rfl
noncomputable abbrev FIL : DFn := a4o (N0 J2) U1
noncomputable def E5 (size : Nat) : D → Bool
 | .tup ds => decide (ds.length = size) && ds.all whole && (match ds with
  | [.int a, .int b] => decide (1 ≤ b) && decide (Int.gcd a b = 1)
  | [.int x, .int y, .int d] => decide (1 ≤ d) && decide (Int.gcd (Int.gcd x y : Int) d = 1)
  | _ => false)
 | _ => false
theorem b0L (d : D) (n : Nat) (fs : Option FS) (hn : n = 2 ∨ n = 3) (h : thing d = true) (hs : ∀ ds, d = .tup ds → (∀ x ∈ ds, thing x = true) ∧ ds.length ≤ sizeLine) : FIL [d, .int n] fs = some (.bl (E5 n d), fs) := by
 refine v0 (s := ⟨[.val d, .val (.int n)], fs⟩) ?_
 show a0F (N0 J2) U1 ⟨[.val d, .val (.int n)], fs⟩ = _
 cases d with
 | feed => cases h
 | scr _ => cases h
 | non => rfl
 | bl _ => rfl
 | int _ => rfl
 | str _ => rfl
 | lst _ => rfl
 | tup ds =>
  obtain ⟨ht, hl⟩ := hs ds rfl
  have cm : A9 (fun d => some (.val d :: [])) w6 (d5 U1 (a0 (dV 0) b0)) ds fs = some (ds.map (fun d => .bl (whole d)), fs) := a1C (idx := []) [] fs ds fun x hx => ⟨⟨[.val x], fs⟩, by simp [d7, t6, g6, dOp, dUn, dC, dL, dV, d8, j6, dB, i3, d5, a0, b0, i7, j9, dCB, one, l0, m6, dIf, o7, dOr, o9, t0, u4, t9, k0, n8, o0, j5, m7, o6, m9, o8, p9, dTr, u0, ixT, ixL, y9, A0, A3, A2, A4, b4f x fs (ht x hx)], rfl⟩
  have al := a4v whole ds
  by_cases hz : ds.length = n
  ·by_cases hw : ds.all whole = true
   ·have hz' : (ds.length : Int) = (n : Int) := by omega
    have pre : ∀ rest : DM, d7 (j6 (dOr (o9 (dTr (dUn (M0 "tuple") (dL 0)))) (dB (dOp pNe (dCB (one m7) (a0 (dL 0) b0)) (dL 1)))) (i3 (dC (.bl false))) j9) (d7 (j6 (o9 (dTr (dCB (one M4) (a0 (l0 (B5 [] (C1 (dV 0)) w6 (d5 U1 (a0 (dV 0) b0)))) b0)))) (i3 (dC (.bl false))) j9) rest) ⟨[.val (.tup ds), .val (.int n)], fs⟩ = rest ⟨[.val (.tup ds), .val (.int n)], fs⟩ := fun rest => by
     rw [j7 (s1 := ⟨[.val (.tup ds), .val (.int n)], fs⟩) (by simp [d7, t6, g6, dOp, dUn, dC, dL, dV, d8, j6, dB, i3, d5, a0, b0, i7, j9, dCB, one, l0, m6, dIf, o7, dOr, o9, t0, u4, t9, k0, n8, o0, j5, m7, o6, m9, o8, p9, dTr, u0, ixT, ixL, y9, A0, A3, A2, A4, O7, E6, J3, hz'])]
     rw [j7 (s1 := ⟨[.val (.tup ds), .val (.int n)], fs⟩) (by simp [d7, t6, g6, dOp, dUn, dC, dL, dV, d8, j6, dB, i3, d5, a0, b0, i7, j9, dCB, one, l0, m6, dIf, o7, dOr, o9, t0, u4, t9, k0, n8, o0, j5, m7, o6, m9, o8, p9, dTr, u0, ixT, ixL, y9, A0, A3, A2, A4, B5, C1, hl, C6, cm, M4, al, hw])]
    unfold a0F
    rw [pre]
    rcases hn with rfl | rfl
    ·obtain ⟨d1, d2, rfl⟩ := a50 hz
     ·simp only [List.all_cons, List.all_nil, Bool.and_true, Bool.and_eq_true] at hw
      obtain ⟨a, rfl⟩ := a0W hw.1
      obtain ⟨c, rfl⟩ := a0W hw.2
      refine A8 ?_
      by_cases hc : 1 ≤ c
      ·simp [d7, t6, g6, dOp, dUn, dC, dL, dV, d8, j6, dB, i3, d5, a0, b0, i7, j9, dCB, one, l0, m6, dIf, o7, dOr, o9, t0, u4, t9, k0, n8, o0, j5, m7, o6, m9, o8, p9, dTr, u0, ixT, ixL, y9, A0, A3, A2, A4, a1H, hc, a6L, E2, E5, whole]; omega
      ·simp [d7, t6, g6, dOp, dUn, dC, dL, dV, d8, j6, dB, i3, d5, a0, b0, i7, j9, dCB, one, l0, m6, dIf, o7, dOr, o9, t0, u4, t9, k0, n8, o0, j5, m7, o6, m9, o8, p9, dTr, u0, ixT, ixL, y9, A0, A3, A2, A4, a1H, hc, E5, whole]
    ·obtain ⟨d1, d2, d3, rfl⟩ := b3p hz
     ·simp only [List.all_cons, List.all_nil, Bool.and_true, Bool.and_eq_true] at hw
      obtain ⟨a, rfl⟩ := a0W hw.1
      obtain ⟨c, rfl⟩ := a0W hw.2.1
      obtain ⟨e, rfl⟩ := a0W hw.2.2
      refine A8 ?_
      by_cases hc : 1 ≤ e
      ·simp [d7, t6, g6, dOp, dUn, dC, dL, dV, d8, j6, dB, i3, d5, a0, b0, i7, j9, dCB, one, l0, m6, dIf, o7, dOr, o9, t0, u4, t9, k0, n8, o0, j5, m7, o6, m9, o8, p9, dTr, u0, ixT, ixL, y9, A0, A3, A2, A4, a6g, hc, b1p, E2, E5, whole]; omega
      ·simp [d7, t6, g6, dOp, dUn, dC, dL, dV, d8, j6, dB, i3, d5, a0, b0, i7, j9, dCB, one, l0, m6, dIf, o7, dOr, o9, t0, u4, t9, k0, n8, o0, j5, m7, o6, m9, o8, p9, dTr, u0, ixT, ixL, y9, A0, A3, A2, A4, a6g, hc, E5, whole]
   ·have hw' : ds.all whole = false := by simpa using hw
    have hz' : (ds.length : Int) = (n : Int) := by omega
    have : E5 n (.tup ds) = false := by simp only [E5, hw', Bool.and_false, Bool.false_and]
    rw [this]
    unfold a0F
    rw [j7 (s1 := ⟨[.val (.tup ds), .val (.int n)], fs⟩) (by simp [d7, t6, g6, dOp, dUn, dC, dL, dV, d8, j6, dB, i3, d5, a0, b0, i7, j9, dCB, one, l0, m6, dIf, o7, dOr, o9, t0, u4, t9, k0, n8, o0, j5, m7, o6, m9, o8, p9, dTr, u0, ixT, ixL, y9, A0, A3, A2, A4, O7, E6, J3, hz'])]
    refine K9 ?_
    rw [hw'] at al
    simp [d7, t6, g6, dOp, dUn, dC, dL, dV, d8, j6, dB, i3, d5, a0, b0, i7, j9, dCB, one, l0, m6, dIf, o7, dOr, o9, t0, u4, t9, k0, n8, o0, j5, m7, o6, m9, o8, p9, dTr, u0, ixT, ixL, y9, A0, A3, A2, A4, B5, C1, hl, C6, cm, M4, al]
  ·have hz' : ¬ (ds.length : Int) = (n : Int) := by omega
   have : E5 n (.tup ds) = false := by simp only [E5, decide_eq_false hz, Bool.false_and]
   rw [this]
   unfold a0F
   refine K9 ?_
   simp [d7, t6, g6, dOp, dUn, dC, dL, dV, d8, j6, dB, i3, d5, a0, b0, i7, j9, dCB, one, l0, m6, dIf, o7, dOr, o9, t0, u4, t9, k0, n8, o0, j5, m7, o6, m9, o8, p9, dTr, u0, ixT, ixL, y9, A0, A3, A2, A4, O7, E6, J3, hz']
theorem b2J (d : D) : E5 3 d = C4 d := by
 cases d with
 | tup ds =>
  match ds with
  | [] => rfl
  | [d1] => cases d1 <;> rfl
  | [d1, d2] => simp [E5, C4]
  | [d1, d2, d3] =>
   cases d1 with
   | int x =>
    cases d2 with
    | int y =>
     cases d3 with
     | int z => simp [E5, C4, whole]
     | _ => simp [E5, C4, whole]
    | _ => simp [E5, C4, whole]
   | _ => simp [E5, C4, whole]
  | d1 :: d2 :: d3 :: d4 :: r => simp [E5, C4]
 | _ => rfl
noncomputable abbrev FIP : DFn := a3X FIL
theorem Th.subs {b k : Nat} {d : D} (h : Th b k d) (hs : bk d ≤ 1000000) : ∀ ds, d = .tup ds → (∀ x ∈ ds, thing x = true) ∧ ds.length ≤ sizeLine := fun ds e => by
 subst e
 refine ⟨fun x hx => ?_, ?_⟩
 ·cases k with
  | zero => unfold Th at h; exact h.elim
  | succ k => unfold Th at h; exact (Ths.mem h hx).thing
 ·have := a3L ds
  rw [X3] at hs
  rw [sizeLine_eq]; omega
theorem b1D {b k : Nat} (d : D) (fs : Option FS) (h : Th b k d) (hs : bk d ≤ 1000000) : FIP [d] fs = some (.bl (C4 d), fs) := by
 refine v0 (s := ⟨[.val d], fs⟩) ?_
 show a3t FIL ⟨[.val d], fs⟩ = _
 have e := b0L d 3 fs (.inr rfl) h.thing (Th.subs h hs)
 rw [b2J] at e
 have e' : FIL [d, .int 3] fs = some (.bl (C4 d), fs) := e
 simp [a3t, d7, t6, g6, dOp, dUn, dC, dL, dV, d8, j6, dB, i3, d5, a0, b0, i7, j9, dCB, one, l0, m6, dIf, o7, dOr, o9, t0, u4, t9, k0, n8, o0, j5, m7, o6, m9, o8, p9, dTr, u0, ixT, ixL, y9, A0, A3, A2, A4, e']
end T

namespace T
open PySem L2 DL
theorem b2q {k b : Nat} {a : Pt} (h : Ps k a) (hk : k ≤ b) : Th b 1 (pt a) := by
 unfold pt Th
 exact Ths.of (by
  intro d hd
  simp only [List.mem_cons, List.not_mem_nil, or_false] at hd
  rcases hd with rfl | rfl | rfl
  ·unfold Th; exact h.x.mono hk
  ·unfold Th; exact h.y.mono hk
  ·unfold Th; exact h.l.mono hk)
theorem a8O (a : Pt) : bk (pt a) = 3 := rfl
end T

namespace DL
open PySem L2
noncomputable def nbs {α : Type} (c : Bool) (l : List α) : List (α × α) := l.zip (if c then l.drop 1 ++ l.take 1 else l.drop 1)
noncomputable def pr2 (p : D × D) : D := .tup [p.1, p.2]
noncomputable def B9 : D → Pt
 | .tup [.int x, .int y, .int d] => (Rat.divInt x d, Rat.divInt y d)
 | _ => (0, 0)
theorem a8B {x y d : Int} (hd : 1 ≤ d) (hg : Int.gcd (Int.gcd x y : Int) d = 1) : D.tup [.int x, .int y, .int d] = pt (Rat.divInt x d, Rat.divInt y d) := by
 have hdr : (d : Rat) ≠ 0 := fun h => by have := Rat.intCast_eq_zero_iff.mp h; omega
 have v : ∀ z : Int, (z : Rat) = Rat.divInt z d * (d : Rat) := fun z => by rw [Rat.divInt_eq_div, Rat.div_mul_cancel hdr]
 obtain ⟨q1, q2, q3⟩ := b2f (a := (Rat.divInt x d, Rat.divInt y d)) (by first | decide | omega) hg (v x) (v y)
 unfold pt
 rw [← q1, ← q2, ← q3]
theorem a4j {d : D} (h : C4 d = true) : d = pt (B9 d) := by
 cases d with
 | tup ds =>
  match ds, h with
  | [.int x, .int y, .int c], h =>
   simp only [C4, Bool.and_eq_true, decide_eq_true_iff] at h
   exact a8B h.1 h.2
 | _ => cases h
theorem b3y {ds : List D} (h : ds.all C4 = true) : ds = (ds.map B9).map pt := by
 rw [List.map_map]
 have : ∀ d ∈ ds, (pt ∘ B9) d = d := fun d hd => (a4j (List.all_eq_true.mp h d hd)).symm
 exact (List.map_id'' (f := pt ∘ B9) |> fun _ => (List.map_congr_left this).trans (List.map_id _)).symm
theorem O5 {α β : Type} (f : α → β) (c : Bool) (l : List α) : nbs c (l.map f) = (nbs c l).map fun p => (f p.1, f p.2) := by
 unfold nbs
 cases c
 ·simp only [Bool.false_eq_true, if_false]
  rw [← List.map_drop, List.zip_map]; rfl
 ·simp only [if_true]
  rw [← List.map_drop, ← List.map_take, ← List.map_append, List.zip_map]; rfl
theorem V3 {α : Type} (c : Bool) (l : List α) : (nbs c l).length ≤ l.length := by
 unfold nbs
 rw [List.length_zip]
 exact Nat.min_le_left ..
theorem P2 {α : Type} {c : Bool} {l : List α} {p : α × α} (h : p ∈ nbs c l) : p.1 ∈ l ∧ p.2 ∈ l := by
 unfold nbs at h
 obtain ⟨h1, h2⟩ := List.of_mem_zip (a := p.1) (b := p.2) h
 refine ⟨h1, ?_⟩
 cases c
 ·simp only [Bool.false_eq_true, if_false] at h2
  exact List.mem_of_mem_drop h2
 ·simp only [if_true] at h2
  rcases List.mem_append.mp h2 with h | h
  ·exact List.mem_of_mem_drop h
  ·exact List.mem_of_mem_take h
theorem a4C : ∀ (xs ys : List D), List.zipWith a1c xs ys = (xs.zip ys).map pr2
 | [], _ => by simp
 | _ :: _, [] => by simp
 | x :: xs, y :: ys => by
  rw [List.zipWith_cons_cons, List.zip_cons_cons, List.map_cons, a4C xs ys]
  rfl
theorem a0j (a : Pt) : B9 (pt a) = a := by
 have := a4j (d := pt a) (by
  simp only [pt, C4, Bool.and_eq_true, decide_eq_true_iff]
  exact ⟨by have := a2p a; omega, a8w a⟩)
 unfold pt at this
 simp only [D.tup.injEq, List.cons.injEq, D.int.injEq, and_true] at this
 exact (a44 this.1 this.2.1 this.2.2).symm
noncomputable def goB (a b c : Pt) : Bool := decide (v4 a b c = 0) && (lsB a b == lsB b c)
noncomputable def K0 (c : Bool) (ps : List Pt) : Bool := (nbs c ps).all (fun p => !decide (p.1 = p.2)) && (nbs c (nbs c ps)).all fun q => !goB q.1.1 q.1.2 q.2.2
noncomputable def lo (c : Bool) : Nat := if c then 3 else 2
noncomputable def hi (c : Bool) : Nat := if c then 8 else 9
noncomputable def M5 : D → Bool
 | .tup [.bl c, .tup ds] => (decide (lo c ≤ ds.length) && decide (ds.length ≤ hi c)) && (ds.all C4 && K0 c (ds.map B9))
 | _ => false
theorem a45 (ds : List D) : J8 ds (some 1) none = ds.drop 1 := by
 cases ds with
 | nil => rfl
 | cons d r => exact b2z (d :: r) 1 (by simp)
theorem b1q (ds : List D) : J8 ds none (some 1) = ds.take 1 := by
 cases ds with
 | nil => rfl
 | cons d r => exact a4y (d :: r) 1 (by simp)
theorem a1v {idx : List Nat} {sl : List Sl} {fe : DE} {g : D × D → D} (fs : Option FS) : ∀ (qs : List (D × D)), (∀ q ∈ qs, ∃ s, fe ⟨.val q.1 :: .val q.2 :: C6 idx sl, fs⟩ = some (g q, s) ∧ s.fs = fs) → A9 (mk2 idx sl) w6 fe (qs.map pr2) fs = some (qs.map g, fs)
 | [], _ => rfl
 | q :: r, h => by
  obtain ⟨s, e, e2⟩ := h q (List.mem_cons_self ..)
  have ih := a1v (idx := idx) (sl := sl) fs r fun x hx => h x (List.mem_cons_of_mem _ hx)
  simp [A9, w6, mk2, pr2, e, e2, ih]
theorem a5Z {α : Type} (p : α → Bool) : ∀ ds : List α, O8 (ds.map fun d => .bl (p d)) = some (ds.all p)
 | [] => rfl
 | d :: r => by simp [O8, a5Z p r]
theorem b2N (r : Rat) : (sgn r = 0) ↔ r = 0 := by
 unfold sgn
 constructor
 ·intro h
  split at h
  ·cases h
  ·split at h
   ·cases h
   ·grind
 ·intro h
  subst h
  simp
end DL
namespace T
open PySem L2 DL
theorem a6U (ds : List D) (c : Bool) (fs : Option FS) (hl : ds.length + 1 ≤ sizeLine) : E7 [.tup ds, .bl c] fs = some (.lst ((nbs c ds).map pr2), fs) := by
 refine v0 (s := ⟨[.val (.tup ds), .val (.bl c)], fs⟩) ?_
 show a1s ⟨[.val (.tup ds), .val (.bl c)], fs⟩ = _
 have h1 : ds.length - 1 + min 1 ds.length ≤ sizeLine := by omega
 cases c
 ·simp [a1s, d7, t6, g6, dOp, dUn, dC, dL, dV, d8, j6, dB, i3, d5, a0, b0, i7, j9, dCB, one, l0, m6, dIf, o7, dOr, o9, t0, u4, t9, k0, n8, o0, j5, m7, o6, m9, o8, p9, dTr, u0, ixT, ixL, y9, A0, A3, A2, A4, dSl, dAt, dNo, dCF, Y0, U9, a45, nbs, a4C]
 ·simp [a1s, d7, t6, g6, dOp, dUn, dC, dL, dV, d8, j6, dB, i3, d5, a0, b0, i7, j9, dCB, one, l0, m6, dIf, o7, dOr, o9, t0, u4, t9, k0, n8, o0, j5, m7, o6, m9, o8, p9, dTr, u0, ixT, ixL, y9, A0, A3, A2, A4, dSl, dAt, dNo, dCF, Y0, U9, a45, b1q, nbs, a4C, h1]
noncomputable abbrev FPc : DFn := V2 E7
theorem a2f (ds : List D) (c : Bool) (fs : Option FS) (hl : ds.length + 1 ≤ sizeLine) : FPc [.tup [.bl c, .tup ds]] fs = some (.tup ((nbs c ds).map pr2), fs) := by
 refine v0 (s := ⟨[.val (.tup [.bl c, .tup ds])], fs⟩) ?_
 show a4I E7 ⟨[.val (.tup [.bl c, .tup ds])], fs⟩ = _
 have e := a6U ds c fs hl
 simp [a4I, d7, t6, g6, dOp, dUn, dC, dL, dV, d8, j6, dB, i3, d5, a0, b0, i7, j9, dCB, one, l0, m6, dIf, o7, dOr, o9, t0, u4, t9, k0, n8, o0, j5, m7, o6, m9, o8, p9, dTr, u0, ixT, ixL, y9, A0, A3, A2, A4, J9, S5, e, C7]
noncomputable abbrev FGs : DFn := a4F FPc
theorem a9D {k : Nat} (ps : List Pt) (c : Bool) (fs : Option FS) (hk : k ≤ 1920) (hp : ∀ p ∈ ps, Ps k p) (hl : ps.length + 1 ≤ sizeLine) : FGs [.tup [.bl c, .tup (ps.map pt)]] fs = some (.bl ((nbs c ps).all fun p => !decide (p.1 = p.2)), fs) := by
 refine v0 (s := ⟨[.val (.tup [.bl c, .tup (ps.map pt)])], fs⟩) ?_
 show a3E FPc ⟨[.val (.tup [.bl c, .tup (ps.map pt)])], fs⟩ = _
 have e := a2f (ps.map pt) c fs (by simpa using hl)
 have cm := a1v (idx := []) (sl := [.val (.tup [.bl c, .tup (ps.map pt)])]) (fe := dOp pNe (dL 0) (dL 1)) (g := fun q => .bl (!decide (B9 q.1 = B9 q.2))) fs (nbs c (ps.map pt)) (by
  intro q hq
  rw [O5] at hq
  obtain ⟨p, hp', rfl⟩ := List.mem_map.mp hq
  obtain ⟨m1, m2⟩ := P2 hp'
  have ne := b4t (hp _ m1) (hp _ m2) hk hk
  exact ⟨⟨.val (pt p.1) :: .val (pt p.2) :: C6 [] [.val (.tup [.bl c, .tup (ps.map pt)])], fs⟩, by simp [dOp, dL, ne, a0j], rfl⟩)
 have hl2 : ((nbs c (ps.map pt)).map pr2).length ≤ sizeLine := by
  rw [List.length_map]
  have := V3 c (ps.map pt)
  simp only [List.length_map] at this
  omega
 have al : (nbs c (ps.map pt)).map (fun q => D.bl (!decide (B9 q.1 = B9 q.2))) = (nbs c ps).map fun p => .bl (!decide (p.1 = p.2)) := by
  rw [O5, List.map_map]
  exact List.map_congr_left fun p _ => by simp [a0j]
 rw [al] at cm
 generalize List.map pr2 (nbs c (ps.map pt)) = W at *
 simp [a3E, d7, t6, g6, dOp, dUn, dC, dL, dV, d8, j6, dB, i3, d5, a0, b0, i7, j9, dCB, one, l0, m6, dIf, o7, dOr, o9, t0, u4, t9, k0, n8, o0, j5, m7, o6, m9, o8, p9, dTr, u0, ixT, ixL, y9, A0, A3, A2, A4, E1, C1, e, hl2, cm, M4, a5Z]
noncomputable abbrev FGo : DFn := a4m a1d FTn
theorem a9v (x y : Bool) : pEq (.bl x) (.bl y) = some (.bl (x == y)) := by cases x <;> cases y <;> rfl
theorem pgo {k : Nat} (a b c : Pt) (fs : Option FS) (ha : Ps k a) (hb : Ps k b) (hc : Ps k c) (hk : k ≤ 1920) : FGo [pt a, pt b, pt c] fs = some (.bl (goB a b c), fs) := by
 refine v0 (s := ⟨[.val (pt a), .val (pt b), .val (pt c)], fs⟩) ?_
 show a1G a1d FTn ⟨[.val (pt a), .val (pt b), .val (pt c)], fs⟩ = _
 have e1 := a7R a b c fs ha hb hc (by first | decide | omega)
 have e2 := a58 a b fs ha hb (by first | decide | omega)
 have e3 := a58 b c fs hb hc (by first | decide | omega)
 have z := b2N (v4 a b c)
 by_cases h : v4 a b c = 0
 ·have z0 : sgn (v4 a b c) = 0 := z.mpr h
  rw [z0] at e1
  simp [a1G, d7, t6, g6, dOp, dUn, dC, dL, dV, d8, j6, dB, i3, d5, a0, b0, i7, j9, dCB, one, l0, m6, dIf, o7, dOr, o9, t0, u4, t9, k0, n8, o0, j5, m7, o6, m9, o8, p9, dTr, u0, ixT, ixL, y9, A0, A3, A2, A4, e1, e2, e3, E2, a9v, goB, h]
 ·have z0 : ¬ sgn (v4 a b c) = 0 := fun e => h (z.mp e)
  simp [a1G, d7, t6, g6, dOp, dUn, dC, dL, dV, d8, j6, dB, i3, d5, a0, b0, i7, j9, dCB, one, l0, m6, dIf, o7, dOr, o9, t0, u4, t9, k0, n8, o0, j5, m7, o6, m9, o8, p9, dTr, u0, ixT, ixL, y9, A0, A3, A2, A4, e1, E2, goB, h, z0]
end T

namespace T
open PySem L2 DL
noncomputable def isq (n : Int) : Int := Classical.choose (a4W n.toNat)
theorem V8 {n : Int} (h : 0 ≤ n) : IsR (isq n) n := by
 have e : IsR (isq n) ((n.toNat : Nat) : Int) := Classical.choose_spec (a4W n.toNat)
 have e2 : ((n.toNat : Nat) : Int) = n := Int.toNat_of_nonneg h
 rw [e2] at e
 exact e
noncomputable def rtD (q : Rat) : D := Q4 q.num q.den (isq q.num) (isq q.den)
theorem a3a : Sm (2 ^ 1000) := ⟨by decide +kernel, by decide +kernel⟩
theorem a9T : ((2 : Int) ^ 1000) * 2 ^ 1000 = ((2 ^ 2000 : Nat) : Int) := by decide +kernel
noncomputable abbrev FRt : DFn := a0R (T9 M8)
theorem a2j {q : Rat} (h : 0 ≤ q) : 0 ≤ q.num := Rat.num_nonneg.mpr h
theorem a1w {q : Rat} (hs : Sz 2000 q) : q.num < (2 : Int) ^ 1000 * 2 ^ 1000 ∧ (q.den : Int) < (2 : Int) ^ 1000 * 2 ^ 1000 := by
 rw [a9T]
 have h1 := hs.1
 have h2 := hs.2
 generalize (2 : Nat) ^ 2000 = W at *
 omega
theorem b2Q {q : Rat} (h0 : 0 ≤ q) (hs : Sz 2000 q) (fs : Option FS) : FRt [fr q] fs = some (rtD q, fs) :=
 a8W a3a q.num q.den _ _ (V8 (a2j h0)) (V8 (by first | decide | omega)) (a1w hs).1 (a1w hs).2 fs
theorem a55 {r n : Int} (h : IsR r n) (hn : 1 ≤ n) : 1 ≤ r := by
 obtain ⟨a, _, c⟩ := h
 rcases Int.lt_or_le r 1 with z | z
 ·have e : r = 0 := by omega
  subst e
  omega
 ·exact z
theorem b3j {q : Rat} {rn rd : Int} (h2 : IsR rd q.den) :
  (decide ((Rat.divInt (rn * rn) (rd * rd)).num = q.num) && decide (((Rat.divInt (rn * rn) (rd * rd)).den : Int) = q.den)) = decide (rn * rn = q.num ∧ rd * rd = q.den) := by
 have hd : (1 : Int) ≤ q.den := by have := den_pos q; omega
 have r1 := a55 h2 hd
 have hb : 0 < rd * rd := Int.mul_pos (by first | decide | omega) (by first | decide | omega)
 rw [Bool.eq_iff_iff, Bool.and_eq_true, decide_eq_true_iff, decide_eq_true_iff, decide_eq_true_iff]
 constructor
 ·rintro ⟨e1, e2⟩
  rw [a7e hb] at e1
  rw [a3h hb] at e2
  have g0 : 0 < Int.gcd (rn * rn) (rd * rd) := Int.gcd_pos_of_ne_zero_right _ (by first | decide | omega)
  have q1 : (Int.gcd (rn * rn) (rd * rd) : Int) * (rn * rn / (Int.gcd (rn * rn) (rd * rd) : Int)) = rn * rn := Int.mul_ediv_cancel' (Int.gcd_dvd_left ..)
  have q2 : (Int.gcd (rn * rn) (rd * rd) : Int) * (rd * rd / (Int.gcd (rn * rn) (rd * rd) : Int)) = rd * rd := Int.mul_ediv_cancel' (Int.gcd_dvd_right ..)
  rw [e1] at q1
  rw [e2] at q2
  have g1 : (Int.gcd (rn * rn) (rd * rd) : Int) = 1 := by
   have hle : rd * rd ≤ q.den := h2.2.1
   generalize (Int.gcd (rn * rn) (rd * rd)) = G at *
   rcases Nat.lt_or_ge G 2 with z | z
   ·omega
   ·have : (2 : Int) * q.den ≤ G * q.den := Int.mul_le_mul_of_nonneg_right (by first | decide | omega) (by first | decide | omega)
    omega
  rw [g1, Int.one_mul] at q1 q2
  exact ⟨q1.symm, q2.symm⟩
 ·rintro ⟨e1, e2⟩
  rw [e1, e2, ← a06]
  exact ⟨rfl, rfl⟩
theorem b1Q {k : Nat} (a b : Int) (fs : Option FS) (hb : b ≠ 0) (h1 : Bd k a) (h2 : Bd k b) (hk : k ≤ 4000) : LP [.tup [.int a, .int b], .tup [.int a, .int b]] fs = some (fr (Rat.divInt (a * a) (b * b)), fs) := by
 have b1 := h1.bits (by first | decide | omega)
 have b2 := h2.bits (by first | decide | omega)
 have e := L6 (a * a) (b * b) fs (Int.mul_ne_zero hb hb) (h2.mul h2) (by first | decide | omega)
 refine v0 (s := ⟨[.val (.tup [.int a, .int b]), .val (.tup [.int a, .int b])], fs⟩) ?_
 show a1b LF ⟨[.val (.tup [.int a, .int b]), .val (.tup [.int a, .int b])], fs⟩ = _
 generalize fr (Rat.divInt (a * a) (b * b)) = w at *
 simp [a1b, d7, t6, g6, dOp, dUn, dC, dL, dV, d8, j6, dB, i3, d5, a0, b0, i7, j9, dCB, one, l0, m6, dIf, o7, dOr, o9, t0, u4, t9, k0, n8, o0, j5, m7, o6, m9, o8, p9, dTr, u0, ixT, ixL, y9, A0, A3, A2, A4, J9, S5, m5, b1, b2, e]
theorem a6K {n : Int} (h0 : 0 ≤ n) (hn : n < (2 : Int) ^ 1000 * 2 ^ 1000) (fs : Option FS) : W2 [.int n] fs = some (.int (isq n), fs) := a8o a3a n _ (V8 h0) hn fs
noncomputable abbrev LLg : DFn := a2W LP W2 LS L4 LX
theorem b3n (a b : Pt) : (b.1 + -a.1) * (b.1 + -a.1) + (b.2 + -a.2) * (b.2 + -a.2) = dsq a b := by unfold dsq; grind
theorem a4f (a b : Pt) : 0 ≤ dsq a b := by unfold dsq; exact Rat.add_nonneg (a0T _) (a0T _)
theorem a4L {a b : Pt} (ha : PtS 200 a) (hb : PtS 200 b) : Sz 1605 (dsq a b) := by
 have h1 := (ha.1.sub hb.1).mul (ha.1.sub hb.1)
 have h2 := (ha.2.sub hb.2).mul (ha.2.sub hb.2)
 exact h1.add h2
theorem a1Q {n : Int} (h0 : 0 ≤ n) (hn : n < (2 : Int) ^ 1000 * 2 ^ 1000) : 0 ≤ isq n ∧ Bd 1000 (isq n) := by
 have hr := V8 h0
 have h := sm a3a hr hn
 refine ⟨hr.1, ?_⟩
 unfold Bd
 have e : ((2 : Int) ^ 1000) = ((2 ^ 1000 : Nat) : Int) := by rw [Int.natCast_pow]; rfl
 rw [e] at h
 have := hr.1
 generalize (2 : Nat) ^ 1000 = W at *
 omega
theorem a8E (a b : Pt) (fs : Option FS) (ha : PtS 200 a) (hb : PtS 200 b) : LLg [pt a, pt b] fs = some (rtD (dsq a b), fs) := by
 have xa := lxy a fs (Ps.of ha.1 ha.2) (by decide)
 have xb := lxy b fs (Ps.of hb.1 hb.2) (by decide)
 have m1 := a1E a.1 fs
 have m2 := a1E a.2 fs
 have s1 := a0c b.1 (-a.1) fs hb.1 ha.1.neg (by decide)
 have s2 := a0c b.2 (-a.2) fs hb.2 ha.2.neg (by decide)
 have z1 := hb.1.add ha.1.neg
 have z2 := hb.2.add ha.2.neg
 have p1 := L0 _ _ fs z1 z1 (by decide)
 have p2 := L0 _ _ fs z2 z2 (by decide)
 have s3 := a0c _ _ fs (z1.mul z1) (z2.mul z2) (by decide)
 rw [b3n] at s3
 have q0 := a4f a b
 have qs : Sz 2000 (dsq a b) := (a4L ha hb).mono (by decide)
 obtain ⟨n1, n2⟩ := a1w qs
 have r1 := a6K (a2j q0) n1 fs
 have hd : (0 : Int) ≤ (dsq a b).den := by omega
 have r2 := a6K hd n2 fs
 obtain ⟨i1, j1⟩ := a1Q (a2j q0) n1
 obtain ⟨i2, j2⟩ := a1Q hd n2
 have rd1 : 1 ≤ isq (dsq a b).den := a55 (V8 hd) (by have := den_pos (dsq a b); omega)
 have p3 := b1Q (isq (dsq a b).num) (isq (dsq a b).den) fs (by first | decide | omega) j1 j2 (by decide)
 have it := b3j (q := dsq a b) (rn := isq (dsq a b).num) (V8 hd)
 have pe := a9a (Rat.divInt (isq (dsq a b).num * isq (dsq a b).num) (isq (dsq a b).den * isq (dsq a b).den)).num (Rat.divInt (isq (dsq a b).num * isq (dsq a b).num) (isq (dsq a b).den * isq (dsq a b).den)).den (dsq a b).num (dsq a b).den
 rw [it] at pe
 have pe' : pEq (fr (Rat.divInt (isq (dsq a b).num * isq (dsq a b).num) (isq (dsq a b).den * isq (dsq a b).den))) (fr (dsq a b)) = some (.bl (decide (isq (dsq a b).num * isq (dsq a b).num = (dsq a b).num ∧ isq (dsq a b).den * isq (dsq a b).den = (dsq a b).den))) := pe
 have ix0 := y9 (dsq a b)
 have ix1 := A0 (dsq a b)
 have at0' : ∀ p q : Rat, atI [fr p, fr q] 0 = some (fr p) := fun _ _ => rfl
 have at1' : ∀ p q : Rat, atI [fr p, fr q] 1 = some (fr q) := fun _ _ => rfl
 unfold rtD Q4
 generalize dsq a b = q at *
 generalize isq q.num = rn at *
 generalize isq q.den = rd at *
 generalize Rat.divInt (rn * rn) (rd * rd) = w at *
 generalize b.1 + -a.1 = x at *
 generalize b.2 + -a.2 = y at *
 refine v0 (s := ⟨[.val (pt a), .val (pt b), .val (fr x), .val (fr y), .val (fr q), .val (.tup [.int rn, .int rd])], fs⟩) ?_
 show a4P LP W2 LS L4 LX ⟨[.val (pt a), .val (pt b), .no, .no, .no, .no], fs⟩ = _
 unfold a4P
 rw [j7 (s1 := ⟨[.val (pt a), .val (pt b), .val (fr x), .no, .no, .no], fs⟩) (u6 (w4 (n0 (e8 (w4 rfl xb) rfl rfl) (n0 (w4 (n0 (e8 (w4 rfl xa) rfl rfl) rfl) m1) rfl)) s1) rfl),
  j7 (s1 := ⟨[.val (pt a), .val (pt b), .val (fr x), .val (fr y), .no, .no], fs⟩) (u6 (w4 (n0 (e8 (w4 rfl xb) rfl rfl) (n0 (w4 (n0 (e8 (w4 rfl xa) rfl rfl) rfl) m2) rfl)) s2) rfl),
  j7 (s1 := ⟨[.val (pt a), .val (pt b), .val (fr x), .val (fr y), .val (fr q), .no], fs⟩) (u6 (w4 (n0 (w4 rfl p1) (n0 (w4 rfl p2) rfl)) s3) rfl),
  j7 (s1 := ⟨[.val (pt a), .val (pt b), .val (fr x), .val (fr y), .val (fr q), .val (.tup [.int rn, .int rd])], fs⟩) (u6 (V4 (w4 (n0 (e8 rfl rfl (y9 q)) rfl) r1) (w4 (n0 (e8 rfl rfl (A0 q)) rfl) r2)) rfl)]
 refine A8 ?_
 by_cases c : rn * rn = q.num ∧ rd * rd = q.den
 ·rw [decide_eq_true c] at pe'
  rw [if_pos c, a3y (B4 (e8 (w4 rfl p3) rfl pe'))]
  rfl
 ·rw [decide_eq_false c] at pe'
  rw [if_neg c, a4A (B4 (e8 (w4 rfl p3) rfl pe'))]
  rfl
end T

namespace T
open PySem L2 DL
theorem a1g {b k : Nat} {ds : List D} (h : Th b k (.tup ds)) : ∀ d ∈ ds, Th b k d := fun d hd => by
 cases k with
 | zero => unfold Th at h; exact h.elim
 | succ k => unfold Th at h; exact Th.mono (Nat.le_refl _) d (by first | decide | omega) (Ths.mem h hd)
noncomputable def prP (p : Pt × Pt) : D := .tup [pt p.1, pt p.2]
theorem b0b (c : Bool) (ps : List Pt) : (nbs c (ps.map pt)).map pr2 = (nbs c ps).map prP := by
 rw [O5, List.map_map]; rfl
noncomputable abbrev FTe : DFn := a4b FGo E7 FPc
theorem a5I {k : Nat} (l : D) (fs : Option FS) (hk : k ≤ 1920) : ∀ (qs : List ((Pt × Pt) × (Pt × Pt))) (x y : Sl), (∀ q ∈ qs, Ps k q.1.1 ∧ Ps k q.1.2 ∧ Ps k q.2.2) →
  ∃ x' y', D6 (o6 2 (m9 (d8 1) (m9 (d8 2) o8))) (a1P FGo E7 FPc) (qs.map fun q => .tup [prP q.1, prP q.2]) ⟨[.val l, x, y], fs⟩ =
   some (if qs.all (fun q => !goB q.1.1 q.1.2 q.2.2) then .next else .ret (.bl false), ⟨[.val l, x', y'], fs⟩)
 | [], x, y, _ => ⟨x, y, rfl⟩
 | q :: r, x, y, h => by
  obtain ⟨h1, h2, h3⟩ := h q (.head _)
  have e := pgo q.1.1 q.1.2 q.2.2 fs h1 h2 h3 hk
  obtain ⟨x', y', ih⟩ := a5I l fs hk r (.val (prP q.1)) (.val (prP q.2)) fun p hp => h p (.tail _ hp)
  cases g : goB q.1.1 q.1.2 q.2.2
  ·rw [g] at e
   refine ⟨x', y', ?_⟩
   have b : a1P FGo E7 FPc ⟨[.val l, .val (prP q.1), .val (prP q.2)], fs⟩ = some (.next, ⟨[.val l, .val (prP q.1), .val (prP q.2)], fs⟩) := by
    simp [d7, t6, g6, dOp, dUn, dC, dL, dV, d8, j6, dB, i3, d5, a0, b0, i7, j9, dCB, one, l0, m6, dIf, o7, dOr, o9, t0, u4, t9, k0, n8, o0, j5, m7, o6, m9, o8, p9, dTr, u0, ixT, ixL, y9, A0, A3, A2, A4, prP, J9, S5, e]
   simp only [List.map_cons, D6]
   have t : o6 2 (m9 (d8 1) (m9 (d8 2) o8)) (.tup [prP q.1, prP q.2]) ⟨[.val l, x, y], fs⟩ = some ⟨[.val l, .val (prP q.1), .val (prP q.2)], fs⟩ := by simp [o6, m9, d8, o8]
   simp only [t, Option.bind_some, b, ih, List.all_cons, g, Bool.not_false, Bool.true_and]
  ·rw [g] at e
   refine ⟨.val (prP q.1), .val (prP q.2), ?_⟩
   have b : a1P FGo E7 FPc ⟨[.val l, .val (prP q.1), .val (prP q.2)], fs⟩ = some (.ret (.bl false), ⟨[.val l, .val (prP q.1), .val (prP q.2)], fs⟩) := by
    simp [d7, t6, g6, dOp, dUn, dC, dL, dV, d8, j6, dB, i3, d5, a0, b0, i7, j9, dCB, one, l0, m6, dIf, o7, dOr, o9, t0, u4, t9, k0, n8, o0, j5, m7, o6, m9, o8, p9, dTr, u0, ixT, ixL, y9, A0, A3, A2, A4, prP, J9, S5, e]
   simp only [List.map_cons, D6]
   have t : o6 2 (m9 (d8 1) (m9 (d8 2) o8)) (.tup [prP q.1, prP q.2]) ⟨[.val l, x, y], fs⟩ = some ⟨[.val l, .val (prP q.1), .val (prP q.2)], fs⟩ := by simp [o6, m9, d8, o8]
   simp only [t, Option.bind_some, b, List.all_cons, g, Bool.not_true, Bool.false_and, Bool.false_eq_true, if_false]
theorem pte {k : Nat} (ps : List Pt) (c : Bool) (fs : Option FS) (hk : k ≤ 1920) (hp : ∀ p ∈ ps, Ps k p) (hl : ps.length + 1 ≤ sizeLine) : FTe [.tup [.bl c, .tup (ps.map pt)]] fs = some (.bl ((nbs c (nbs c ps)).all fun q => !goB q.1.1 q.1.2 q.2.2), fs) := by
 have e1 := a2f (ps.map pt) c fs (by simpa using hl)
 rw [b0b] at e1
 have e2 := a6U ((nbs c ps).map prP) c fs (by
  have := V3 c ps
  simp only [List.length_map]; omega)
 have e3 : (nbs c ((nbs c ps).map prP)).map pr2 = (nbs c (nbs c ps)).map fun q => .tup [prP q.1, prP q.2] := by
  rw [O5, List.map_map]; rfl
 rw [e3] at e2
 obtain ⟨x', y', lp⟩ := a5I (.tup [.bl c, .tup (ps.map pt)]) fs hk (nbs c (nbs c ps)) .no .no (fun q hq => by
  obtain ⟨m1, m2⟩ := P2 hq
  exact ⟨hp _ (P2 m1).1, hp _ (P2 m1).2, hp _ (P2 m2).2⟩)
 have fe : (d5 E7 (a0 (d5 FPc (a0 (dV 0) b0)) (a0 (dOp pIx (dL 0) (dC (.int 0))) b0))) ⟨[.val (.tup [.bl c, .tup (ps.map pt)]), .no, .no], fs⟩ = some (.lst ((nbs c (nbs c ps)).map fun q => .tup [prP q.1, prP q.2]), ⟨[.val (.tup [.bl c, .tup (ps.map pt)]), .no, .no], fs⟩) := by
  simp [d7, t6, g6, dOp, dUn, dC, dL, dV, d8, j6, dB, i3, d5, a0, b0, i7, j9, dCB, one, l0, m6, dIf, o7, dOr, o9, t0, u4, t9, k0, n8, o0, j5, m7, o6, m9, o8, p9, dTr, u0, ixT, ixL, y9, A0, A3, A2, A4, e1, e2, J9]
 refine v0 (s := ⟨[.val (.tup [.bl c, .tup (ps.map pt)]), x', y'], fs⟩) ?_
 show a2O FGo E7 FPc ⟨[.val (.tup [.bl c, .tup (ps.map pt)]), .no, .no], fs⟩ = _
 unfold a2O
 cases hh : (nbs c (nbs c ps)).all fun q => !goB q.1.1 q.1.2 q.2.2
 ·rw [hh] at lp
  exact K9 ((a5O fe).trans lp)
 ·rw [hh] at lp
  rw [j7 ((a5O fe).trans lp)]
  rfl
noncomputable abbrev FAp : DFn := a4q FIP
noncomputable def Q3 (c : Bool) : D → Bool
 | .tup ds => (decide (lo c ≤ ds.length) && decide (ds.length ≤ hi c)) && ds.all C4
 | _ => false
theorem a76 {b k : Nat} (d : D) (c : Bool) (fs : Option FS) (h : Th b k d) (hs : bk d ≤ 1000000) : FAp [.tup [.bl c, d]] fs = some (.bl (Q3 c d), fs) := by
 show mFn 3 (a1u FIP) [.tup [.bl c, d]] fs = _
 have hth := h.thing
 cases d with
 | feed => cases hth
 | scr _ => cases hth
 | non => rfl
 | bl _ => rfl
 | int _ => rfl
 | str _ => rfl
 | lst _ => rfl
 | tup ds =>
  have hn : ds.length ≤ sizeLine := by
   have := a3L ds
   rw [X3] at hs
   rw [sizeLine_eq]; omega
  have cm := a1C (idx := []) (fe := d5 FIP (a0 (dV 0) b0)) (g := fun d => .bl (C4 d)) [] fs ds (by
   intro d hd
   have hb := a54 hd
   rw [X3] at hs
   have e := b1D d fs (a1g h d hd) (by first | decide | omega)
   exact ⟨⟨[.val d], fs⟩, w4 rfl e, rfl⟩)
  have al := a4v C4 ds
  refine v0 (s := ⟨[.val (.tup [.bl c, .tup ds]), .val (.int (lo c)), .val (.int (hi c))], fs⟩) ?_
  show a1u FIP ⟨[.val (.tup [.bl c, .tup ds]), .no, .no], fs⟩ = _
  unfold a1u
  have t2 : g6 (dIf (dTr (dOp pIx (dL 0) (dC (.int 0)))) (dC (.int 3)) (dC (.int 2))) (d8 1) ⟨[.val (.tup [.bl c, .tup ds]), .no, .no], fs⟩ = some (.next, ⟨[.val (.tup [.bl c, .tup ds]), .val (.int (lo c)), .no], fs⟩) := by cases c <;> rfl
  have t3 : g6 (dIf (dTr (dOp pIx (dL 0) (dC (.int 0)))) (dC (.int 8)) (dC (.int 9))) (d8 2) ⟨[.val (.tup [.bl c, .tup ds]), .val (.int (lo c)), .no], fs⟩ = some (.next, ⟨[.val (.tup [.bl c, .tup ds]), .val (.int (lo c)), .val (.int (hi c))], fs⟩) := by cases c <;> rfl
  rw [j7 (s1 := ⟨[.val (.tup [.bl c, .tup ds]), .no, .no], fs⟩) (N8 (a2J (b := true) rfl)), j7 t2, j7 t3]
  have b1 : dB (dOp (j5 (fun i j => decide (i < j))) (dCB (one m7) (a0 (dOp pIx (dL 0) (dC (.int 1))) b0)) (dL 1)) ⟨[.val (.tup [.bl c, .tup ds]), .val (.int (lo c)), .val (.int (hi c))], fs⟩ = some (decide ((ds.length : Int) < (lo c : Int)), ⟨[.val (.tup [.bl c, .tup ds]), .val (.int (lo c)), .val (.int (hi c))], fs⟩) := B4 (e8 (D8 (p := m7) (e8 rfl rfl rfl) rfl) rfl rfl)
  have b2 : dB (dOp (j5 (fun i j => decide (j < i))) (dCB (one m7) (a0 (dOp pIx (dL 0) (dC (.int 1))) b0)) (dL 2)) ⟨[.val (.tup [.bl c, .tup ds]), .val (.int (lo c)), .val (.int (hi c))], fs⟩ = some (decide ((hi c : Int) < (ds.length : Int)), ⟨[.val (.tup [.bl c, .tup ds]), .val (.int (lo c)), .val (.int (hi c))], fs⟩) := B4 (e8 (D8 (p := m7) (e8 rfl rfl rfl) rfl) rfl rfl)
  by_cases g1 : lo c ≤ ds.length
  ·rw [decide_eq_false (show ¬ (ds.length : Int) < (lo c : Int) by omega)] at b1
   by_cases g2 : ds.length ≤ hi c
   ·rw [decide_eq_false (show ¬ (hi c : Int) < (ds.length : Int) by omega)] at b2
    have ea : Q3 c (.tup ds) = ds.all C4 := by
     show ((decide (lo c ≤ ds.length) && decide (ds.length ≤ hi c)) && ds.all C4) = _
     rw [decide_eq_true g1, decide_eq_true g2]
     rfl
    rw [ea, j7 (N8 (N6 b1 b2))]
    refine A8 (D8 (p := M4) (P4 (b3v (idx := []) (ds := ds) (s1 := ⟨[.val (.tup [.bl c, .tup ds]), .val (.int (lo c)), .val (.int (hi c))], fs⟩) rfl hn cm)) ?_)
    unfold M4
    simp only [al, Option.map_some]
   ·rw [decide_eq_true (show (hi c : Int) < (ds.length : Int) by omega)] at b2
    have ea : Q3 c (.tup ds) = false := by
     show ((decide (lo c ≤ ds.length) && decide (ds.length ≤ hi c)) && ds.all C4) = _
     rw [decide_eq_false g2, Bool.and_false, Bool.false_and]
    rw [ea]
    exact K9 ((J7 (N6 b1 b2)).trans rfl)
  ·rw [decide_eq_true (show (ds.length : Int) < (lo c : Int) by omega)] at b1
   have ea : Q3 c (.tup ds) = false := by
    show ((decide (lo c ≤ ds.length) && decide (ds.length ≤ hi c)) && ds.all C4) = _
    rw [decide_eq_false g1, Bool.false_and, Bool.false_and]
   rw [ea]
   exact K9 ((J7 (a2I b1)).trans rfl)
noncomputable abbrev FLn : DFn := a4g FTe FGs FAp
theorem a98 {b k : Nat} {ds : List D} (h : ∀ d ∈ ds, Th b k d) (hp : ds.all C4 = true) : ∀ p ∈ ds.map B9, Ps b p := fun p hp' => by
 obtain ⟨d, hd, rfl⟩ := List.mem_map.mp hp'
 have e := a4j (List.all_eq_true.mp hp d hd)
 have hd' := h d hd
 rw [e] at hd'
 cases k with
 | zero => unfold pt Th at hd'; exact hd'.elim
 | succ k =>
  simp only [pt, Th, Ths] at hd'
  exact ⟨hd'.1, hd'.2.1, hd'.2.2.1⟩
set_option maxHeartbeats 4000000 in
theorem b3T {b k : Nat} (d : D) (fs : Option FS) (h : Th b k d) (hb : b ≤ 1900) (hs : bk d ≤ 1000000) : FLn [d] fs = some (.bl (M5 d), fs) := by
 refine v0 (s := ⟨[.val d], fs⟩) ?_
 show U6 FTe FGs FAp ⟨[.val d], fs⟩ = _
 have hth := h.thing
 cases d with
 | feed => cases hth
 | scr _ => cases hth
 | non => rfl
 | bl _ => rfl
 | int _ => rfl
 | str _ => rfl
 | lst _ => rfl
 | tup ds =>
  by_cases hz : ds.length = 2
  ·obtain ⟨x, y, rfl⟩ := a50 hz
   have hx := a1g h x (by simp)
   have hy := a1g h y (by simp)
   have by' : bk y ≤ 1000000 := by have := a54 (show y ∈ [x, y] by simp); rw [X3] at hs; omega
   have tx := hx.thing
   cases x with
   | feed => cases tx
   | scr _ => cases tx
   | non => rfl
   | int _ => rfl
   | str _ => rfl
   | lst _ => rfl
   | tup _ => simp [U6, d7, t6, g6, dOp, dUn, dC, dL, dV, d8, j6, dB, i3, d5, a0, b0, i7, j9, dCB, one, l0, m6, dIf, o7, dOr, o9, t0, u4, t9, k0, n8, o0, j5, m7, o6, m9, o8, p9, dTr, u0, ixT, ixL, y9, A0, A3, A2, A4, J9, O7, E6, J3, M5]
   | bl c =>
    have e1 := a76 y c fs hy by'
    cases ha : Q3 c y
    ·rw [ha] at e1
     have : M5 (.tup [.bl c, y]) = false := by
      cases y with
      | tup es =>
       simp only [Q3] at ha
       simp only [M5, ← Bool.and_assoc, ha, Bool.false_and]
      | _ => rfl
     rw [this]
     simp [U6, d7, t6, g6, dOp, dUn, dC, dL, dV, d8, j6, dB, i3, d5, a0, b0, i7, j9, dCB, one, l0, m6, dIf, o7, dOr, o9, t0, u4, t9, k0, n8, o0, j5, m7, o6, m9, o8, p9, dTr, u0, ixT, ixL, y9, A0, A3, A2, A4, J9, O7, a3n, E6, J3, e1]
    ·rw [ha] at e1
     cases y with
     | tup es =>
      simp only [Q3, Bool.and_eq_true, decide_eq_true_iff] at ha
      obtain ⟨⟨l1, l2⟩, hp⟩ := ha
      have en := b3y hp
      have pp := a98 (a1g hy) hp
      have hl : (es.map B9).length + 1 ≤ sizeLine := by
       rw [List.length_map, sizeLine_eq]
       have : hi c ≤ 9 := by cases c <;> decide
       omega
      have e2 := a9D (es.map B9) c fs (by first | decide | omega) pp hl
      have e3 := pte (es.map B9) c fs (by first | decide | omega) pp hl
      rw [← en] at e2 e3
      have v : M5 (.tup [.bl c, .tup es]) = K0 c (es.map B9) := by simp [M5, l1, l2, hp]
      rw [v]
      cases g : (nbs c (es.map B9)).all fun p => !decide (p.1 = p.2)
      ·rw [g] at e2
       simp only [K0, g, Bool.false_and]
       simp [U6, d7, t6, g6, dOp, dUn, dC, dL, dV, d8, j6, dB, i3, d5, a0, b0, i7, j9, dCB, one, l0, m6, dIf, o7, dOr, o9, t0, u4, t9, k0, n8, o0, j5, m7, o6, m9, o8, p9, dTr, u0, ixT, ixL, y9, A0, A3, A2, A4, J9, O7, a3n, E6, J3, e1, e2]
      ·rw [g] at e2
       simp only [K0, g, Bool.true_and]
       simp [U6, d7, t6, g6, dOp, dUn, dC, dL, dV, d8, j6, dB, i3, d5, a0, b0, i7, j9, dCB, one, l0, m6, dIf, o7, dOr, o9, t0, u4, t9, k0, n8, o0, j5, m7, o6, m9, o8, p9, dTr, u0, ixT, ixL, y9, A0, A3, A2, A4, J9, O7, a3n, E6, J3, e1, e2, e3]
     | _ => simp [Q3] at ha
  ·have hz' : ¬ (ds.length : Int) = 2 := by omega
   have : M5 (.tup ds) = false := by
    match ds, hz with
    | [], _ => rfl
    | [_], _ => unfold M5; split <;> first | rfl | simp_all
    | [_, _], hz => exact absurd rfl hz
    | _ :: _ :: _ :: _, _ => unfold M5; split <;> first | rfl | simp_all
   rw [this]
   simp [U6, d7, t6, g6, dOp, dUn, dC, dL, dV, d8, j6, dB, i3, d5, a0, b0, i7, j9, dCB, one, l0, m6, dIf, o7, dOr, o9, t0, u4, t9, k0, n8, o0, j5, m7, o6, m9, o8, p9, dTr, u0, ixT, ixL, y9, A0, A3, A2, A4, O7, E6, J3, hz']
end T

namespace DL
open PySem L2
theorem a4t {α : Type} (c : Bool) (l : List α) : (nbs c l).length = l.length - 1 + (if c then min 1 l.length else 0) := by
 unfold nbs
 cases c
 ·simp only [Bool.false_eq_true, if_false, List.length_zip, List.length_drop]; omega
 ·simp only [if_true, List.length_zip, List.length_append, List.length_drop, List.length_take]; omega
theorem a7X {α : Type} {c : Bool} {l : List α} {j : Nat} (h : j < (nbs c l).length) : ∃ a b, l[j]? = some a ∧ l[(j + 1) % l.length]? = some b ∧ (nbs c l)[j]? = some (a, b) := by
 have hl := a4t c l
 have hj : j < l.length := Nat.lt_of_lt_of_le h (V3 c l)
 cases hq : (nbs c l)[j]? with
 | none => rw [List.getElem?_eq_none_iff] at hq; omega
 | some p =>
  obtain ⟨h1, h2⟩ := List.getElem?_zip_eq_some.mp (show (l.zip (if c then l.drop 1 ++ l.take 1 else l.drop 1))[j]? = some p from hq)
  refine ⟨p.1, p.2, h1, ?_, rfl⟩
  cases c
  ·simp only [Bool.false_eq_true, if_false] at h2 hl
   rw [List.getElem?_drop] at h2
   rw [Nat.mod_eq_of_lt (by first | decide | omega), Nat.add_comm]
   exact h2
  ·simp only [if_true] at h2 hl
   by_cases hz : j + 1 < l.length
   ·rw [List.getElem?_append_left (by rw [List.length_drop]; omega), List.getElem?_drop] at h2
    rw [Nat.mod_eq_of_lt hz, Nat.add_comm]
    exact h2
   ·have e : j + 1 = l.length := by omega
    rw [List.getElem?_append_right (by rw [List.length_drop]; omega), List.length_drop, show j - (l.length - 1) = 0 by omega, List.getElem?_take] at h2
    rw [e, Nat.mod_self]
    simpa using h2
noncomputable def B7 (a b : Pt) : Int × Int := (pX b * pL a - pX a * pL b, pY b * pL a - pY a * pL b)
noncomputable def goI (u v : Int × Int) : Bool := decide (u.1 * v.2 = u.2 * v.1) && decide (0 < u.1 * v.1 + u.2 * v.2)
theorem a2v (a b : Pt) : ((B7 a b).1 : Rat) = ((pL a : Rat) * (pL b : Rat)) * (b.1 - a.1) ∧ ((B7 a b).2 : Rat) = ((pL a : Rat) * (pL b : Rat)) * (b.2 - a.2) := by
 unfold B7
 constructor
 ·simp only [Rat.intCast_sub, Rat.intCast_mul, L9]; grind
 ·simp only [Rat.intCast_sub, Rat.intCast_mul, M1]; grind
theorem a8D {a b c : Pt} (hab : a ≠ b) (hbc : b ≠ c) : goB a b c = goI (B7 a b) (B7 b c) := by
 obtain ⟨e1, e2⟩ := a2v a b
 obtain ⟨f1, f2⟩ := a2v b c
 have hp := Rat.mul_pos (G2 a) (G2 b)
 have hq := Rat.mul_pos (G2 b) (G2 c)
 generalize (pL a : Rat) * (pL b : Rat) = p at *
 generalize (pL b : Rat) * (pL c : Rat) = q at *
 have hpq := Rat.mul_pos hp hq
 have c1 : ((B7 a b).1 * (B7 b c).2 = (B7 a b).2 * (B7 b c).1) ↔ v4 a b c = 0 := by
  rw [← Rat.intCast_inj, Rat.intCast_mul, Rat.intCast_mul, e1, e2, f1, f2]
  unfold v4
  constructor
  ·intro h
   have : (p * q) * ((b.1 - a.1) * (c.2 - b.2) - (b.2 - a.2) * (c.1 - b.1)) = 0 := by grind
   rcases Rat.mul_eq_zero.mp this with z | z
   ·grind
   ·grind
  ·intro h; grind
 have c2 : (0 < (B7 a b).1 * (B7 b c).1 + (B7 a b).2 * (B7 b c).2) ↔ 0 < (b.1 - a.1) * (c.1 - b.1) + (b.2 - a.2) * (c.2 - b.2) := by
  rw [← Rat.intCast_pos, Rat.intCast_add, Rat.intCast_mul, Rat.intCast_mul, e1, e2, f1, f2]
  have : p * (b.1 - a.1) * (q * (c.1 - b.1)) + p * (b.2 - a.2) * (q * (c.2 - b.2)) = (p * q) * ((b.1 - a.1) * (c.1 - b.1) + (b.2 - a.2) * (c.2 - b.2)) := by grind
  rw [this]
  constructor
  ·intro h
   exact (Rat.mul_pos_iff_of_pos_left hpq).mp h
  ·intro h; exact Rat.mul_pos hpq h
 unfold goB goI
 by_cases hc : v4 a b c = 0
 ·simp only [hc, decide_true, Bool.true_and, c1.mpr hc]
  rw [Bool.eq_iff_iff, beq_iff_eq, decide_eq_true_iff, c2]
  obtain ⟨s, rfl⟩ := b2O hab hc
  have k1 : (P8 a b s).1 - b.1 = (s - 1) * (b.1 - a.1) := by unfold P8; grind
  have k2 : (P8 a b s).2 - b.2 = (s - 1) * (b.2 - a.2) := by unfold P8; grind
  have l1 := a5l a b
  have l2 := a5l b (P8 a b s)
  rw [k1, k2] at l2 ⊢
  have nz : ¬ (b.1 - a.1 = 0 ∧ b.2 - a.2 = 0) := fun z => hab (Prod.ext (by grind) (by grind))
  have tz : s - 1 ≠ 0 := fun z => hbc (Prod.ext (by rw [z] at k1; grind) (by rw [z] at k2; grind))
  have dp := a7D hab
  have dd : (b.1 - a.1) * ((s - 1) * (b.1 - a.1)) + (b.2 - a.2) * ((s - 1) * (b.2 - a.2)) = dsq a b * (s - 1) := by unfold dsq; grind
  rw [dd, Rat.mul_pos_iff_of_pos_left dp]
  generalize b.1 - a.1 = x at *
  generalize b.2 - a.2 = y at *
  generalize s - 1 = t at *
  by_cases hx : D4 x y
  ·rw [l1.mpr hx, ← a5M hx t, ← l2]
   exact ⟨fun h => h.symm, fun h => h.symm⟩
  ·have e1 : lsB a b = false := by
    cases h : lsB a b
    ·rfl
    ·exact absurd (l1.mp h) hx
   have hn : D4 (-x) (-y) := (a74 x y nz).resolve_left hx
   have l3 : D4 (t * x) (t * y) ↔ 0 < -t := by
    have := a5M hn (-t)
    rwa [show -t * -x = t * x by grind, show -t * -y = t * y by grind] at this
   rw [e1]
   constructor
   ·intro h
    have : ¬ 0 < -t := fun z => by have := l2.mpr (l3.mpr z); rw [← h] at this; cases this
    grind
   ·intro h
    cases h2 : lsB b (P8 a b s)
    ·rfl
    ·have := l3.mp (l2.mp h2)
     grind
 ·have : ¬ ((B7 a b).1 * (B7 b c).2 = (B7 a b).2 * (B7 b c).1) := fun z => hc (c1.mp z)
  simp [hc, this]
end DL

namespace DL
open PySem L2
theorem atN {α : Type} {xs : List α} {i : Nat} {x : α} (h : xs[i]? = some x) : atI xs (i : Int) = some x := by
 have hi := (List.getElem?_eq_some_iff.mp h).1
 rw [a3d (by first | decide | omega) (by first | decide | omega)]
 simpa using h
theorem V6 {α : Type} {xs : List α} {x : α} (h : xs[xs.length - 1]? = some x) : atI xs (-1) = some x := by
 have hi := (List.getElem?_eq_some_iff.mp h).1
 unfold atI ixN
 rw [if_neg (by first | decide | omega), if_pos (by first | decide | omega)]
 show xs[_]? = _
 rw [show ((-1 : Int) + xs.length).toNat = xs.length - 1 by omega]
 exact h
end DL

namespace DL
open PySem L2
end DL
namespace T
open PySem L2 DL
theorem b0e {i j : Int} (h1 : x8 i = true) (h2 : x8 j = true) : m5 (.int i) (.int j) = some (.int (i * j)) := by simp [m5, h1, h2]
end T

namespace T
open PySem L2 DL
noncomputable abbrev FLg : DFn := a1R FPc FRt (V0 FF)
noncomputable def E4 (c : Bool) (ps : List Pt) : List D := (nbs c ps).map fun p => rtD (dsq p.1 p.2)
theorem a3x {c : Bool} {ps : List Pt} (hl : ps.length ≤ 9) : ((nbs c (ps.map pt)).map pr2).length ≤ sizeLine ∧ (ps.map pt).length + 1 ≤ sizeLine := by
 have h1 : (ps.map pt).length = ps.length := List.length_map ..
 constructor
 ·rw [List.length_map]
  have := V3 c (ps.map pt)
  rw [sizeLine_eq]; omega
 ·rw [sizeLine_eq]; omega
theorem b2Z {f : DE} {s s1 : DS} {ds : List D} (h : f s = some (.tup ds, s1)) : C1 f s = some (ds, s1) := by
 unfold C1
 rw [h]
 rfl
theorem a6n (ps : List Pt) (c : Bool) (fs : Option FS) (hp : ∀ p ∈ ps, PtS 200 p) (hl : ps.length ≤ 9) : FLg [.tup [.bl c, .tup (ps.map pt)]] fs = some (.tup (E4 c ps), fs) := by
 refine v0 (s := ⟨[.val (.tup [.bl c, .tup (ps.map pt)])], fs⟩) ?_
 show a7r FPc FRt (V0 FF) ⟨[.val (.tup [.bl c, .tup (ps.map pt)])], fs⟩ = _
 obtain ⟨hl2, hl3⟩ := a3x (c := c) hl
 have e := a2f (ps.map pt) c fs hl3
 have cm := a1v (idx := []) (sl := [.val (.tup [.bl c, .tup (ps.map pt)])]) (fe := d5 FRt (a0 (d5 (V0 FF) (a0 (dV 0) (a0 (dV 1) b0))) b0)) (g := fun q => rtD (dsq (B9 q.1) (B9 q.2))) fs (nbs c (ps.map pt)) (by
  intro q hq
  rw [O5] at hq
  obtain ⟨p, hp', rfl⟩ := List.mem_map.mp hq
  obtain ⟨m1, m2⟩ := P2 hp'
  have s1 := hp _ m1
  have s2 := hp _ m2
  have sq := b2B p.1 p.2 fs (Ps.of s1.1 s1.2) (Ps.of s2.1 s2.2) (by decide)
  have rt := b2Q (a4f p.1 p.2) ((a4L s1 s2).mono (by decide)) fs
  refine ⟨⟨.val (pt p.1) :: .val (pt p.2) :: C6 [] [.val (.tup [.bl c, .tup (ps.map pt)])], fs⟩, ?_, rfl⟩
  simp only [a0j]
  exact w4 (n0 (w4 (n0 rfl (n0 rfl rfl)) sq) rfl) rt)
 have al : (nbs c (ps.map pt)).map (fun q => rtD (dsq (B9 q.1) (B9 q.2))) = E4 c ps := by
  unfold E4
  rw [O5, List.map_map]
  exact List.map_congr_left fun p _ => by simp [a0j]
 rw [al] at cm
 exact A8 (D8 (p := C7) (P4 (b0T (s1 := ⟨[.val (.tup [.bl c, .tup (ps.map pt)])], fs⟩) (b2Z (w4 rfl e)) hl2 cm)) rfl)
theorem b1k (c : Bool) (ds : List D) (h : 1 ≤ ds.length) (g : D → D) (hg : ∀ i : Nat, g (.int (i : Int)) = .tup [((ds ++ ds.take (if c then 1 else 0))[i]?).getD .non, ((ds ++ ds.take (if c then 1 else 0))[i + 1]?).getD .non]) :
  (ups 0 (nbs c ds).length).map g = (nbs c ds).map pr2 := by
 apply List.ext_getElem?
 intro i
 by_cases hi : i < (nbs c ds).length
 ·obtain ⟨a, b, q1, q2, q3⟩ := a7X hi
  have u : (ups 0 (nbs c ds).length)[i]? = some (.int (i : Int)) := by
   unfold ups
   rw [List.getElem?_map, List.getElem?_range hi]
   simp
  rw [List.getElem?_map, u, List.getElem?_map, q3]
  simp only [Option.map_some, hg]
  have hlen := a4t c ds
  have r1 : (ds ++ ds.take (if c then 1 else 0))[i]? = some a := by
   have : i < ds.length := by
    rcases Nat.lt_or_ge i ds.length with z | z
    ·exact z
    ·rw [List.getElem?_eq_none z] at q1; cases q1
   rw [List.getElem?_append_left this]; exact q1
  have r2 : (ds ++ ds.take (if c then 1 else 0))[i + 1]? = some b := by
   by_cases z : i + 1 < ds.length
   ·rw [List.getElem?_append_left z]
    rw [Nat.mod_eq_of_lt z] at q2; exact q2
   ·cases c with
    | false => simp at hlen; omega
    | true =>
     have e : i + 1 = ds.length := by simp at hlen; omega
     rw [e, Nat.mod_self] at q2
     rw [e, List.getElem?_append_right (Nat.le_refl _), Nat.sub_self]
     simp only [if_true]
     rw [List.getElem?_take_of_lt (by decide)]
     exact q2
  rw [r1, r2]
  rfl
 ·have hi' : (nbs c ds).length ≤ i := by omega
  rw [List.getElem?_eq_none (by rw [List.length_map]; unfold ups; rw [List.length_map, List.length_range]; exact hi')]
  rw [List.getElem?_eq_none (by rw [List.length_map]; exact hi')]
noncomputable def pcG (S : List D) : D → D
 | .int k => .tup [(S[k.toNat]?).getD .non, (S[k.toNat + 1]?).getD .non]
 | _ => .non
theorem a7P (S : List D) (fs : Option FS) (m : Nat) (hS : S.length = m + 1) : ∀ d ∈ ups 0 m, ∃ s, i7 (a0 (dOp pIx (dL 1) (dL 0)) (a0 (dOp pIx (dL 1) (dOp k0 (dL 0) (dC (.int 1)))) b0)) ⟨.val d :: [.val (.tup S)], fs⟩ = some (pcG S d, s) ∧ s.fs = fs := by
 intro d hd
 obtain ⟨i, hi⟩ := List.getElem?_of_mem hd
 obtain ⟨rfl, hi2⟩ := a3C hi
 rw [Int.zero_add]
 have a1 : atI S (i : Int) = some S[i] := atN (xs := S) (i := i) (x := S[i]) (by rw [List.getElem?_eq_getElem (by first | decide | omega)])
 have a2 : atI S ((i : Int) + 1) = some S[i + 1] := by
  have := atN (xs := S) (i := i + 1) (x := S[i + 1]) (by rw [List.getElem?_eq_getElem (by first | decide | omega)])
  rwa [Int.natCast_add] at this
 refine ⟨⟨[.val (.int (i : Int)), .val (.tup S)], fs⟩, ?_, rfl⟩
 have eg : pcG S (.int (i : Int)) = .tup [S[i], S[i + 1]] := by
  simp only [pcG, Int.toNat_natCast]
  rw [List.getElem?_eq_getElem (by first | decide | omega), List.getElem?_eq_getElem (by first | decide | omega)]
  rfl
 rw [eg]
 exact V4 (e8 rfl rfl ((ixT _ _).trans a1)) (e8 rfl (e8 rfl rfl rfl) ((ixT _ _).trans a2))
end T

namespace T
open PySem L2 DL
theorem a7M (S : List D) (x : Sl) (fs : Option FS) (m : Nat) (hS : S.length = m + 1) : a0 (dOp n8 (dCB (one m7) (a0 (dL 1) b0)) (dC (.int 1))) b0 ⟨[x, .val (.tup S)], fs⟩ = some ([.int (m : Int)], ⟨[x, .val (.tup S)], fs⟩) := by
 have len' : ((S.length : Nat) : Int) - 1 = (m : Int) := by omega
 rw [← len']
 exact n0 (e8 (D8 (p := m7) rfl rfl) rfl rfl) rfl
theorem b2e {f : DA} {s : DS} {m : Nat} (h : f s = some ([.int (m : Int)], s)) (hm : m ≤ 9) : M6 f s = some (ups 0 m, s) := by
 have rg : J0 [.int (m : Int)] = some (ups 0 m) := a1r (by first | decide | omega)
 unfold M6
 rw [h, Option.bind_some]
 show (J0 [.int (m : Int)]).map _ = _
 rw [rg]
 rfl
theorem a7F {f : DA} {fe : DE} {s : DS} {U R : List D} {S : D} {i : Nat} (h : f s = some (U, s)) (hz : U.length ≤ sizeLine) (cp : C6 [i] s.sl = [.val S]) (cm : A9 (fun d => some (.val d :: [.val S])) w6 fe U s.fs = some (R, s.fs)) : B5 [i] f w6 fe s = some (R, s) := by
 unfold B5
 rw [h, Option.bind_some]
 simp only [if_pos hz, cp, cm, Option.map_some]
theorem a73 (S : List D) (x : Sl) (fs : Option FS) (m : Nat) (R : List D) (hm : m ≤ 9) (hS : S.length = m + 1) (hR : (ups 0 m).map (pcG S) = R) :
  i3 (dCB (one C7) (a0 (l0 (B5 [1] (M6 (a0 (dOp n8 (dCB (one m7) (a0 (dL 1) b0)) (dC (.int 1))) b0)) w6 (i7 (a0 (dOp pIx (dL 1) (dL 0)) (a0 (dOp pIx (dL 1) (dOp k0 (dL 0) (dC (.int 1)))) b0))))) b0)) ⟨[x, .val (.tup S)], fs⟩ = some (.ret (.tup R), ⟨[x, .val (.tup S)], fs⟩) := by
 have cm := a1C (idx := [1]) (g := pcG S) [.val (.tup S)] fs (ups 0 m) (a7P S fs m hS)
 rw [hR] at cm
 have hz : (ups 0 m).length ≤ sizeLine := by
  unfold ups; rw [List.length_map, List.length_range, sizeLine_eq]; omega
 have hc := a7F (i := 1) (S := .tup S) (b2e (a7M S x fs m hS) hm) hz rfl cm
 refine A8 ?_
 exact D8 (p := C7) (P4 hc) rfl
theorem a9w (ds : List D) (c : Bool) (fs : Option FS) (h1 : 1 ≤ ds.length) (hl : ds.length ≤ 9) : Q2 [.tup [.bl c, .tup ds]] fs = some (.tup ((nbs c ds).map pr2), fs) := by
 have hlen := a4t c ds
 have hnl := V3 c ds
 have hsl : J8 ds none (some (if c then (1 : Int) else 0)) = ds.take (if c then 1 else 0) := by
  cases c
  ·exact a4y ds 0 (by first | decide | omega)
  ·exact a4y ds 1 h1
 have ll : ds.length + (ds.take (if c then 1 else 0)).length ≤ sizeLine := by
  rw [List.length_take, sizeLine_eq]; split <;> omega
 have pl := b1k c ds h1 (pcG (ds ++ ds.take (if c then 1 else 0))) (fun i => by simp only [pcG, Int.toNat_natCast])
 have len : (ds ++ ds.take (if c then 1 else 0)).length = (nbs c ds).length + 1 := by
  rw [hlen, List.length_append, List.length_take]
  cases c <;> simp <;> omega
 have pi : a3s (.bl c) = some (.int (if c then 1 else 0)) := by cases c <;> rfl
 have run := a73 (ds ++ ds.take (if c then 1 else 0)) (.val (.tup [.bl c, .tup ds])) fs _ _ (by first | decide | omega) len pl
 generalize (nbs c ds).map pr2 = W at *
 refine v0 (s := ⟨[.val (.tup [.bl c, .tup ds]), .val (.tup (ds ++ ds.take (if c then 1 else 0)))], fs⟩) ?_
 show a3b ⟨[.val (.tup [.bl c, .tup ds]), .no], fs⟩ = _
 unfold a3b
 rw [j7 (s1 := ⟨[.val (.tup [.bl c, .tup ds]), .val (.tup (ds ++ ds.take (if c then 1 else 0)))], fs⟩) (by
  generalize ds.take (if c then 1 else 0) = Tk at *
  simp [d7, t6, g6, dOp, dUn, dC, dL, dV, d8, j6, dB, i3, d5, a0, b0, i7, j9, dCB, one, l0, m6, dIf, o7, dOr, o9, t0, u4, t9, k0, n8, o0, j5, m7, o6, m9, o8, p9, dTr, u0, ixT, ixL, y9, A0, A3, A2, A4, J9, S5, dSl, dNo, dAt, pi, hsl, ll])]
 exact run
end T

namespace T
open PySem L2 DL
end T

namespace DL
open PySem L2
theorem b4e (i : Int) : D.tup [.int i, .int 1] = fr (i : Rat) := rfl
noncomputable def p8 (w : Rat × Rat × Rat) : D := .lst [fr w.1, fr w.2.1, fr w.2.2]
structure WyS (k : Nat) (w : Rat × Rat × Rat) : Prop where
 x : Sz k w.1
 y : Sz k w.2.1
 l : Sz k w.2.2
 nz : ¬ (w.1 = 0 ∧ w.2.1 = 0)
 ex : w.1 * w.1 + w.2.1 * w.2.1 = w.2.2 * w.2.2
end DL
namespace T
open PySem L2 DL
noncomputable abbrev LWy : DFn := a0J LP LF z9
theorem a8I {r : Int} (h0 : 0 ≤ r) (h1 : r < 6) : ∃ x y l : Int, atI [D.tup [.int 1, .int 0, .int 1], .tup [.int 1, .int 0, .int 1], .tup [.int 3, .int 4, .int 5], .tup [.int 4, .int 3, .int 5], .tup [.int 5, .int 12, .int 13], .tup [.int 8, .int 15, .int 17]] r = some (.tup [.int x, .int y, .int l]) ∧ 0 < x ∧ x ≤ 15 ∧ 0 ≤ y ∧ y ≤ 15 ∧ 0 < l ∧ l ≤ 17 ∧ x * x + y * y = l * l := by
 have : r = 0 ∨ r = 1 ∨ r = 2 ∨ r = 3 ∨ r = 4 ∨ r = 5 := by omega
 rcases this with rfl | rfl | rfl | rfl | rfl | rfl
 ·exact ⟨1, 0, 1, rfl, by decide⟩
 ·exact ⟨1, 0, 1, rfl, by decide⟩
 ·exact ⟨3, 4, 5, rfl, by decide⟩
 ·exact ⟨4, 3, 5, rfl, by decide⟩
 ·exact ⟨5, 12, 13, rfl, by decide⟩
 ·exact ⟨8, 15, 17, rfl, by decide⟩
theorem b2p {r : Int} (h0 : 0 ≤ r) (h1 : r < 5) : ∃ a : Int, atI [D.int 1, .int 2, .int 3, .int 4, .int 6] r = some (.int a) ∧ 0 < a ∧ a ≤ 6 := by
 have : r = 0 ∨ r = 1 ∨ r = 2 ∨ r = 3 ∨ r = 4 := by omega
 rcases this with rfl | rfl | rfl | rfl | rfl
 ·exact ⟨1, rfl, by decide⟩
 ·exact ⟨2, rfl, by decide⟩
 ·exact ⟨3, rfl, by decide⟩
 ·exact ⟨4, rfl, by decide⟩
 ·exact ⟨6, rfl, by decide⟩
theorem a4V {i : Int} (h : i.natAbs < 2 ^ 10) : x8 i = true := (show Bd 10 i from h).bits (by first | decide | omega)
theorem a03 {ds : List D} {i : Int} {d : D} (h : atI ds i = some d) : pIx (.lst ds) (.int i) = some d := (ixL ds i).trans h
theorem a7Q {idx : List Nat} {fi : DA} {fc : DT} {fe : DE} {s s1 : DS} {ds R : List D} {fs' : Option FS} (h : fi s = some (ds, s1)) (hz : ds.length ≤ sizeLine) (c : A9 (fun d => some (.val d :: C6 idx s1.sl)) fc fe ds s1.fs = some (R, fs')) : B5 idx fi fc fe s = some (R, { s1 with fs := fs' }) := by
 unfold B5
 rw [h, Option.bind_some, if_pos hz, c]
 rfl
noncomputable abbrev swW (m : DFn) : DM := j6 (dB (dOp pEq (d5 m (a0 (dV 0) (a0 (dC (.int 2)) b0))) (dC (.int 0)))) (p9 1 2 (a0 (dV 2) (a0 (dV 1) b0))) j9
theorem b3a {m1 m2 m3 : DFn} {f f1 f2 f3 f4 f5 f6 f7 : FS} {r1 r3 r4 r5 r6 r7 x y l x' y' a b d : Int} {s v1 v2 v3 : D}
  (e1 : m3 [.feed, .int 6] (some f) = some (.int r1, some f1))
  (q : atI [D.tup [.int 1, .int 0, .int 1], .tup [.int 1, .int 0, .int 1], .tup [.int 3, .int 4, .int 5], .tup [.int 4, .int 3, .int 5], .tup [.int 5, .int 12, .int 13], .tup [.int 8, .int 15, .int 17]] r1 = some (.tup [.int x, .int y, .int l]))
  (sw : swW m3 ⟨[.val .feed, .val (.int x), .val (.int y), .val (.int l), .no], some f1⟩ = some (.next, ⟨[.val .feed, .val (.int x'), .val (.int y'), .val (.int l), .no], some f2⟩))
  (e3 : m3 [.feed, .int 2] (some f2) = some (.int r3, some f3)) (p3 : m5 (.int 2) (.int r3) = some (.int (2 * r3))) (q3 : m5 (.int x') (.int (1 - 2 * r3)) = some (.int (x' * (1 - 2 * r3))))
  (e4 : m3 [.feed, .int 2] (some f3) = some (.int r4, some f4)) (p4 : m5 (.int 2) (.int r4) = some (.int (2 * r4))) (q4 : m5 (.int y') (.int (1 - 2 * r4)) = some (.int (y' * (1 - 2 * r4))))
  (e5 : m3 [.feed, .int 5] (some f4) = some (.int r5, some f5)) (q5 : atI [D.int 1, .int 2, .int 3, .int 4, .int 6] r5 = some (.int a))
  (e6 : m3 [.feed, .int 2] (some f5) = some (.int r6, some f6)) (q6 : atI [D.int 1, .int l] r6 = some (.int b)) (p6 : m5 (.int a) (.int b) = some (.int (a * b))) (p7 : m5 (.int 2) (.int l) = some (.int (2 * l)))
  (e7 : m3 [.feed, .int 3] (some f6) = some (.int r7, some f7)) (q7 : atI [D.int 1, .int l, .int (2 * l)] r7 = some (.int d)) (ef : m2 [.int (a * b), .int d] (some f7) = some (s, some f7))
  (w1 : m1 [.tup [.int (x' * (1 - 2 * r3)), .int 1], s] (some f7) = some (v1, some f7)) (w2 : m1 [.tup [.int (y' * (1 - 2 * r4)), .int 1], s] (some f7) = some (v2, some f7)) (w3 : m1 [.tup [.int l, .int 1], s] (some f7) = some (v3, some f7)) :
  a0J m1 m2 m3 [.feed] (some f) = some (.lst [v1, v2, v3], some f7) := by
 refine v0 (s := ⟨[.val .feed, .val (.int (x' * (1 - 2 * r3))), .val (.int (y' * (1 - 2 * r4))), .val (.int l), .val s], some f7⟩) ?_
 show a3O m1 m2 m3 ⟨[.val .feed, .no, .no, .no, .no], some f⟩ = _
 unfold a3O
 rw [j7 (s1 := ⟨[.val .feed, .val (.int x), .val (.int y), .val (.int l), .no], some f1⟩) (u6 (e8 (s1 := ⟨[.val .feed, .no, .no, .no, .no], some f⟩) rfl (B0 rfl e1) (a03 q)) rfl)]
 rw [j7 (s1 := ⟨[.val .feed, .val (.int x'), .val (.int y'), .val (.int l), .no], some f2⟩) sw,
  j7 (s1 := ⟨[.val .feed, .val (.int (x' * (1 - 2 * r3))), .val (.int y'), .val (.int l), .no], some f3⟩) (u6 (e8 rfl (e8 rfl (e8 rfl (B0 rfl e3) p3) rfl) q3) rfl),
  j7 (s1 := ⟨[.val .feed, .val (.int (x' * (1 - 2 * r3))), .val (.int (y' * (1 - 2 * r4))), .val (.int l), .no], some f4⟩) (u6 (e8 rfl (e8 rfl (e8 rfl (B0 rfl e4) p4) rfl) q4) rfl),
  j7 (s1 := ⟨[.val .feed, .val (.int (x' * (1 - 2 * r3))), .val (.int (y' * (1 - 2 * r4))), .val (.int l), .val (.int (a * b))], some f6⟩) (u6 (e8 (e8 rfl (B0 rfl e5) (a03 q5)) (e8 rfl (B0 rfl e6) (a03 q6)) p6) rfl)]
 rw [j7 (s1 := ⟨[.val .feed, .val (.int (x' * (1 - 2 * r3))), .val (.int (y' * (1 - 2 * r4))), .val (.int l), .val s], some f7⟩) (u6 (B0 (n0 rfl (n0 (e8 (x := .lst [.int 1, .int l, .int (2 * l)]) (s1 := ⟨[.val .feed, .val (.int (x' * (1 - 2 * r3))), .val (.int (y' * (1 - 2 * r4))), .val (.int l), .val (.int (a * b))], some f6⟩) (by
  show l0 (m6 _) _ = _
  unfold l0 m6
  rw [n0 rfl (n0 rfl (n0 (e8 rfl rfl p7) rfl))]
  rfl) (B0 rfl e7) (a03 q7)) rfl)) ef) rfl)]
 refine A8 ?_
 have c : A9 (fun d => some (.val d :: [.val s])) w6 (d5 m1 (a0 (i7 (a0 (dV 0) (a0 (dC (.int 1)) b0))) (a0 (dV 1) b0))) [.int (x' * (1 - 2 * r3)), .int (y' * (1 - 2 * r4)), .int l] (some f7) = some ([v1, v2, v3], some f7) := by
  have st : ∀ (k : D) (v : D) (r vs : List D), m1 [.tup [k, .int 1], s] (some f7) = some (v, some f7) → A9 (fun d => some (.val d :: [.val s])) w6 (d5 m1 (a0 (i7 (a0 (dV 0) (a0 (dC (.int 1)) b0))) (a0 (dV 1) b0))) r (some f7) = some (vs, some f7) →
    A9 (fun d => some (.val d :: [.val s])) w6 (d5 m1 (a0 (i7 (a0 (dV 0) (a0 (dC (.int 1)) b0))) (a0 (dV 1) b0))) (k :: r) (some f7) = some (v :: vs, some f7) := fun k v r vs h1 h2 => by
   have h3 : d5 m1 (a0 (i7 (a0 (dV 0) (a0 (dC (.int 1)) b0))) (a0 (dV 1) b0)) ⟨.val k :: [.val s], some f7⟩ = some (v, ⟨.val k :: [.val s], some f7⟩) := B0 (s1 := ⟨.val k :: [.val s], some f7⟩) (xs := [.tup [k, .int 1], s]) rfl h1
   rw [A9, Option.bind_some, show w6 ⟨.val k :: [.val s], some f7⟩ = some (true, ⟨.val k :: [.val s], some f7⟩) from rfl, Option.bind_some, if_pos rfl, h3, Option.bind_some, h2]
   rfl
  exact st _ _ _ _ w1 (st _ _ _ _ w2 (st _ _ _ _ w3 rfl))
 unfold l0
 rw [a7Q (idx := [4]) (s1 := ⟨[.val .feed, .val (.int (x' * (1 - 2 * r3))), .val (.int (y' * (1 - 2 * r4))), .val (.int l), .val s], some f7⟩) (ds := [.int (x' * (1 - 2 * r3)), .int (y' * (1 - 2 * r4)), .int l]) rfl (show 3 ≤ sizeLine by decide) c]
 rfl
theorem b2s {x y l sx sy : Int} (hx : 0 ≤ x ∧ x ≤ 15) (hy : 0 ≤ y ∧ y ≤ 15) (hn : ¬ (x = 0 ∧ y = 0)) (pz : x * x + y * y = l * l) (bx : sx = 1 ∨ sx = -1) (bY : sy = 1 ∨ sy = -1) :
  (x * sx).natAbs ≤ 15 ∧ (y * sy).natAbs ≤ 15 ∧ ¬ (x * sx = 0 ∧ y * sy = 0) ∧ (x * sx) * (x * sx) + (y * sy) * (y * sy) = l * l := by
 have sq : sx * sx = 1 ∧ sy * sy = 1 := ⟨by rcases bx with rfl | rfl <;> rfl, by rcases bY with rfl | rfl <;> rfl⟩
 refine ⟨by rcases bx with rfl | rfl <;> omega, by rcases bY with rfl | rfl <;> omega, by rcases bx with rfl | rfl <;> rcases bY with rfl | rfl <;> omega, ?_⟩
 have e : ∀ a b : Int, b * b = 1 → a * b * (a * b) = a * a := fun a b h => by rw [Int.mul_assoc, Int.mul_left_comm b, h, Int.mul_one]
 rw [e x sx sq.1, e y sy sq.2, pz]
theorem b0U {X Y l : Int} {s : Rat} (hX : X.natAbs ≤ 15) (hY : Y.natAbs ≤ 15) (hn : ¬ (X = 0 ∧ Y = 0)) (pz : X * X + Y * Y = l * l) (l1 : 0 < l) (l2 : l ≤ 17) (ss : Sz 7 s) (sp : 0 < s) : WyS 20 ((X : Rat) * s, (Y : Rat) * s, (l : Rat) * s) := by
 have z : ∀ i : Int, i.natAbs < 2 ^ 7 → Sz 20 ((i : Rat) * s) := fun i h => ((Sz.int (k := 7) (Y7 h) (by decide)).mul ss).mono (by decide)
 have nz : ∀ i : Int, (i : Rat) * s = 0 → i = 0 := fun i h => by
  rcases Rat.mul_eq_zero.mp h with q | q
  ·exact Rat.intCast_eq_zero_iff.mp q
  ·rw [q] at sp; exact absurd sp Rat.lt_irrefl
 refine ⟨z X (by first | decide | omega), z Y (by first | decide | omega), z l (by first | decide | omega), fun h => hn ⟨nz X h.1, nz Y h.2⟩, ?_⟩
 have pr : (X : Rat) * X + (Y : Rat) * Y = (l : Rat) * l := by rw [← Rat.intCast_mul, ← Rat.intCast_mul, ← Rat.intCast_mul, ← Rat.intCast_add, pz]
 have e : ∀ a b c t : Rat, a * a + b * b = c * c → a * t * (a * t) + b * t * (b * t) = c * t * (c * t) := fun a b c t h => by grind
 exact e _ _ _ _ pr
theorem b1f {l r : Int} (h0 : 0 ≤ r) (h1 : r < 2) (l1 : 0 < l) (l2 : l ≤ 17) : ∃ b : Int, atI [D.int 1, D.int l] r = some (.int b) ∧ 0 < b ∧ b ≤ 17 := by
 have : r = 0 ∨ r = 1 := by omega
 rcases this with rfl | rfl
 ·exact ⟨1, rfl, by decide⟩
 ·exact ⟨l, rfl, l1, l2⟩
theorem b2v {l r : Int} (h0 : 0 ≤ r) (h1 : r < 3) (l1 : 0 < l) (l2 : l ≤ 17) : ∃ d : Int, atI [D.int 1, D.int l, D.int (2 * l)] r = some (.int d) ∧ 0 < d ∧ d ≤ 34 := by
 have : r = 0 ∨ r = 1 ∨ r = 2 := by omega
 rcases this with rfl | rfl | rfl
 ·exact ⟨1, rfl, by decide⟩
 ·exact ⟨l, rfl, l1, by omega⟩
 ·exact ⟨2 * l, rfl, by omega, by omega⟩
theorem a9k {m : DFn} {f1 f2 : FS} {r x y l : Int} (e2 : m [.feed, .int 2] (some f1) = some (.int r, some f2)) (hx : 0 ≤ x ∧ x ≤ 15) (hy : 0 ≤ y ∧ y ≤ 15) (hn : ¬ (x = 0 ∧ y = 0)) (pz : x * x + y * y = l * l) :
  ∃ x' y' : Int, (0 ≤ x' ∧ x' ≤ 15) ∧ (0 ≤ y' ∧ y' ≤ 15) ∧ ¬ (x' = 0 ∧ y' = 0) ∧ x' * x' + y' * y' = l * l ∧ swW m ⟨[.val .feed, .val (.int x), .val (.int y), .val (.int l), .no], some f1⟩ = some (.next, ⟨[.val .feed, .val (.int x'), .val (.int y'), .val (.int l), .no], some f2⟩) := by
 by_cases hr : r = 0
 ·exact ⟨y, x, hy, hx, fun h => hn ⟨h.2, h.1⟩, by rw [Int.add_comm]; exact pz, by simp [d7, t6, g6, dOp, dUn, dC, dL, dV, d8, j6, dB, i3, d5, a0, b0, i7, j9, dCB, one, l0, m6, dIf, o7, dOr, o9, t0, u4, t9, pIx, k0, n8, o0, j5, m7, o6, m9, o8, p9, dTr, u0, e2, E2, hr]⟩
 ·exact ⟨x, y, hx, hy, hn, pz, by simp [d7, t6, g6, dOp, dUn, dC, dL, dV, d8, j6, dB, i3, d5, a0, b0, i7, j9, dCB, one, l0, m6, dIf, o7, dOr, o9, t0, u4, t9, pIx, k0, n8, o0, j5, m7, o6, m9, o8, p9, dTr, u0, e2, E2, hr]⟩
theorem a1U {i j : Int} (hi : i.natAbs < 2 ^ 10) (hj : j.natAbs < 2 ^ 10) : m5 (.int i) (.int j) = some (.int (i * j)) := b0e (a4V hi) (a4V hj)
theorem b1T {a b d : Int} (a1 : 0 < a) (a2 : a ≤ 6) (b1 : 0 < b) (b2 : b ≤ 17) (d1 : 0 < d) (d2 : d ≤ 34) (fs : Option FS) : LF [.int (a * b), .int d] fs = some (fr (Rat.divInt (a * b) d), fs) ∧ Sz 7 (Rat.divInt (a * b) d) ∧ 0 < Rat.divInt (a * b) d := by
 have h0 : 0 < a * b := Int.mul_pos a1 b1
 have h1 : a * b ≤ 6 * 17 := Int.mul_le_mul a2 b2 (by first | decide | omega) (by first | decide | omega)
 have ab : (a * b).natAbs < 2 ^ 7 := by omega
 refine ⟨L6 (a * b) d fs (by first | decide | omega) (Y7 (k := 7) (by first | decide | omega)) (by first | decide | omega), Sz.of_divInt (by first | decide | omega) ab (by first | decide | omega), ?_⟩
 rw [Rat.divInt_eq_div, Rat.div_def]
 exact Rat.mul_pos (Rat.intCast_pos.mpr h0) (Rat.inv_pos.mpr (Rat.intCast_pos.mpr d1))
theorem a2V (X : Int) (s : Rat) (fs : Option FS) (h : X.natAbs ≤ 17) (ss : Sz 7 s) : LP [.tup [.int X, .int 1], fr s] fs = some (fr ((X : Rat) * s), fs) :=
 L0 (X : Rat) s fs (Sz.int (k := 7) (Y7 (by first | decide | omega)) (by decide)) ss (by decide)
theorem U0 {n : Nat} (i : Nat) (h : n + 7 < 2 ^ 30) (hi : i ≤ 7 := by decide) : n + i < 2 ^ 30 := Nat.lt_of_le_of_lt (Nat.add_le_add_left hi n) h
theorem a5V {r : Int} (h0 : 0 ≤ r) (h1 : r < 2) : m5 (.int 2) (.int r) = some (.int (2 * r)) := a1U (by decide) (by first | decide | omega)
theorem a7A {x r : Int} (hx : 0 ≤ x ∧ x ≤ 15) (h0 : 0 ≤ r) (h1 : r < 2) : m5 (.int x) (.int (1 - 2 * r)) = some (.int (x * (1 - 2 * r))) := a1U (by first | decide | omega) (by first | decide | omega)
theorem b1w {a b : Int} (a1 : 0 < a) (a2 : a ≤ 6) (b1 : 0 < b) (b2 : b ≤ 17) : m5 (.int a) (.int b) = some (.int (a * b)) := a1U (by first | decide | omega) (by first | decide | omega)
theorem b3F {l : Int} (l1 : 0 < l) (l2 : l ≤ 17) : m5 (.int 2) (.int l) = some (.int (2 * l)) := a1U (by decide) (by first | decide | omega)
theorem b1h {l : Int} (l1 : 0 < l) (l2 : l ≤ 17) : l.natAbs ≤ 17 := by omega
theorem pm1 {r : Int} (h0 : 0 ≤ r) (h1 : r < 2) : 1 - 2 * r = 1 ∨ 1 - 2 * r = -1 := by omega
theorem way {n : Nat} {f : FS} (h : Fd n f) (hn : n < 2 ^ 28) : ∃ w f', LWy [.feed] (some f) = some (p8 w, some f') ∧ WyS 20 w ∧ Fd (n + 7) f' := by
 have hN : n + 7 < 2 ^ 30 := by omega
 obtain ⟨r1, f1, e1, a1, a2, h1⟩ := D0 6 h (by decide) (U0 0 hN) (by decide)
 obtain ⟨x, y, l, q, x1, x2, y1, y2, l1, l2, pyth⟩ := a8I a1 a2
 obtain ⟨r2, f2, e2, b1, b2, h2⟩ := D0 2 h1 (by decide) (U0 1 hN) (by decide)
 obtain ⟨r3, f3, e3, c1, c2, h3⟩ := D0 2 h2 (by decide) (U0 2 hN) (by decide)
 obtain ⟨r4, f4, e4, d1, d2, h4⟩ := D0 2 h3 (by decide) (U0 3 hN) (by decide)
 obtain ⟨r5, f5, e5, g1, g2, h5⟩ := D0 5 h4 (by decide) (U0 4 hN) (by decide)
 obtain ⟨r6, f6, e6, i1, i2, h6⟩ := D0 2 h5 (by decide) (U0 5 hN) (by decide)
 obtain ⟨r7, f7, e7, j1, j2, h7⟩ := D0 3 h6 (by decide) (U0 6 hN) (by decide)
 obtain ⟨a, qa, qa1, qa2⟩ := b2p g1 g2
 obtain ⟨b, qb, qb1, qb2⟩ := b1f i1 i2 l1 l2
 obtain ⟨d, qd, qd1, qd2⟩ := b2v j1 j2 l1 l2
 obtain ⟨x', y', hx', hy', hnz, pz, sw⟩ := a9k e2 ⟨by omega, x2⟩ ⟨y1, y2⟩ (by first | decide | omega) pyth
 obtain ⟨ub, vb, nz, pq⟩ := b2s (sx := 1 - 2 * r3) (sy := 1 - 2 * r4) hx' hy' hnz pz (pm1 c1 c2) (pm1 d1 d2)
 obtain ⟨ef, ss, sp⟩ := b1T qa1 qa2 qb1 qb2 qd1 qd2 (some f7)
 exact ⟨_, f7, b3a e1 q sw e3 (a5V c1 c2) (a7A hx' c1 c2) e4 (a5V d1 d2) (a7A hy' d1 d2) e5 qa e6 qb (b1w qa1 qa2 qb1 qb2) (b3F l1 l2) e7 qd ef
  (a2V _ _ _ (Nat.le_trans ub (by decide)) ss) (a2V _ _ _ (Nat.le_trans vb (by decide)) ss) (a2V _ _ _ (b1h l1 l2) ss), b0U ub vb nz pq l1 l2 ss sp, h7⟩
end T

namespace DL
open PySem L2
theorem U7 {a b c : Pt} (h : v4 a b c ≠ 0) : goB a b c = false ∧ a ≠ b ∧ b ≠ c := by
 refine ⟨by simp [goB, h], fun e => h ?_, fun e => h ?_⟩
 ·subst e; unfold v4; grind
 ·subst e; unfold v4; grind
theorem a4c {a b c : Pt} (h1 : v4 a b c ≠ 0) (h2 : v4 b c a ≠ 0) (h3 : v4 c a b ≠ 0) : K0 true [a, b, c] = true := by
 obtain ⟨g1, n1, n2⟩ := U7 h1
 obtain ⟨g2, _, n3⟩ := U7 h2
 obtain ⟨g3, _, _⟩ := U7 h3
 simp [K0, nbs, g1, g2, g3, n1, n2, n3]
theorem a3k {a b c d : Pt} (h1 : v4 a b c ≠ 0) (h2 : v4 b c d ≠ 0) (h3 : v4 c d a ≠ 0) (h4 : v4 d a b ≠ 0) : K0 true [a, b, c, d] = true := by
 obtain ⟨g1, n1, n2⟩ := U7 h1
 obtain ⟨g2, _, n3⟩ := U7 h2
 obtain ⟨g3, _, n4⟩ := U7 h3
 obtain ⟨g4, _, _⟩ := U7 h4
 simp [K0, nbs, g1, g2, g3, g4, n1, n2, n3, n4]
theorem a9o {a b c : Pt} (hab : a ≠ b) (hbc : b ≠ c) : goB a b c = (decide (v4 a b c = 0) && decide (0 < (b.1 - a.1) * (c.1 - b.1) + (b.2 - a.2) * (c.2 - b.2))) := by
 rw [a8D hab hbc]
 obtain ⟨e1, e2⟩ := a2v a b
 obtain ⟨f1, f2⟩ := a2v b c
 have hp := Rat.mul_pos (G2 a) (G2 b)
 have hq := Rat.mul_pos (G2 b) (G2 c)
 generalize (pL a : Rat) * (pL b : Rat) = p at *
 generalize (pL b : Rat) * (pL c : Rat) = q at *
 have hpq := Rat.mul_pos hp hq
 have c1 : ((B7 a b).1 * (B7 b c).2 = (B7 a b).2 * (B7 b c).1) ↔ v4 a b c = 0 := by
  rw [← Rat.intCast_inj, Rat.intCast_mul, Rat.intCast_mul, e1, e2, f1, f2]
  unfold v4
  constructor
  ·intro h
   have : (p * q) * ((b.1 - a.1) * (c.2 - b.2) - (b.2 - a.2) * (c.1 - b.1)) = 0 := by grind
   rcases Rat.mul_eq_zero.mp this with z | z
   ·grind
   ·grind
  ·intro h; grind
 have c2 : (0 < (B7 a b).1 * (B7 b c).1 + (B7 a b).2 * (B7 b c).2) ↔ 0 < (b.1 - a.1) * (c.1 - b.1) + (b.2 - a.2) * (c.2 - b.2) := by
  rw [← Rat.intCast_pos, Rat.intCast_add, Rat.intCast_mul, Rat.intCast_mul, e1, e2, f1, f2]
  have : p * (b.1 - a.1) * (q * (c.1 - b.1)) + p * (b.2 - a.2) * (q * (c.2 - b.2)) = (p * q) * ((b.1 - a.1) * (c.1 - b.1) + (b.2 - a.2) * (c.2 - b.2)) := by grind
  rw [this]
  exact Rat.mul_pos_iff_of_pos_left hpq
 unfold goI
 rw [Bool.eq_iff_iff, Bool.and_eq_true, Bool.and_eq_true, decide_eq_true_iff, decide_eq_true_iff, decide_eq_true_iff, decide_eq_true_iff, c1, c2]
structure Open (ps : List Pt) : Prop where
 ne : ∀ (j : Nat) a b, ps[j]? = some a → ps[j + 1]? = some b → a ≠ b
 go : ∀ (j : Nat) a b c, ps[j]? = some a → ps[j + 1]? = some b → ps[j + 2]? = some c → goB a b c = false
theorem a01 {α : Type} {l : List α} {j : Nat} {p : α × α} (h : (nbs false l)[j]? = some p) : l[j]? = some p.1 ∧ l[j + 1]? = some p.2 := by
 obtain ⟨h1, h2⟩ := List.getElem?_zip_eq_some.mp (show (l.zip (l.drop 1))[j]? = some p from h)
 rw [List.getElem?_drop, Nat.add_comm] at h2
 exact ⟨h1, h2⟩
theorem Open.line {ps : List Pt} (h : Open ps) : K0 false ps = true := by
 unfold K0
 simp only [Bool.and_eq_true, List.all_eq_true]
 constructor
 ·intro p hp
  obtain ⟨j, hj⟩ := List.mem_iff_getElem?.mp hp
  obtain ⟨q1, q2⟩ := a01 hj
  simp [h.ne j _ _ q1 q2]
 ·intro q hq
  obtain ⟨j, hj⟩ := List.mem_iff_getElem?.mp hq
  obtain ⟨q1, q2⟩ := a01 hj
  obtain ⟨r1, r2⟩ := a01 q1
  obtain ⟨t1, t2⟩ := a01 q2
  rw [h.go j _ _ _ r1 r2 t2]
  rfl
theorem Open.one (a : Pt) : Open [a] := ⟨fun j x y h1 h2 => by simp at h2, fun j x y z h1 h2 h3 => by simp at h2⟩
theorem Open.app {ps : List Pt} {z : Pt} (h : Open ps) (hn : ∀ a, ps[ps.length - 1]? = some a → a ≠ z) (hg : ∀ a b, 2 ≤ ps.length → ps[ps.length - 2]? = some a → ps[ps.length - 1]? = some b → goB a b z = false) : Open (ps ++ [z]) := by
 have at' : ∀ {j : Nat} {a : Pt}, (ps ++ [z])[j]? = some a → (j < ps.length ∧ ps[j]? = some a) ∨ (j = ps.length ∧ a = z) := fun {j a} e => by
  by_cases hj : j < ps.length
  ·exact .inl ⟨hj, by rwa [List.getElem?_append_left hj] at e⟩
  ·have hl := (List.getElem?_eq_some_iff.mp e).1
   simp only [List.length_append, List.length_singleton] at hl
   have ej : j = ps.length := by omega
   rw [List.getElem?_append_right (by first | decide | omega), ej, Nat.sub_self] at e
   exact .inr ⟨ej, by simpa using e.symm⟩
 constructor
 ·intro j a b h1 h2
  rcases at' h2 with ⟨l2, e2⟩ | ⟨l2, rfl⟩
  ·rcases at' h1 with ⟨l1, e1⟩ | ⟨l1, _⟩
   ·exact h.ne j a b e1 e2
   ·omega
  ·rcases at' h1 with ⟨l1, e1⟩ | ⟨l1, _⟩
   ·exact hn a (by rw [show ps.length - 1 = j by omega]; exact e1)
   ·omega
 ·intro j a b c h1 h2 h3
  rcases at' h3 with ⟨l3, e3⟩ | ⟨l3, rfl⟩
  ·rcases at' h1 with ⟨l1, e1⟩ | ⟨l1, _⟩
   ·rcases at' h2 with ⟨l2, e2⟩ | ⟨l2, _⟩
    ·exact h.go j a b c e1 e2 e3
    ·omega
   ·omega
  ·rcases at' h1 with ⟨l1, e1⟩ | ⟨l1, _⟩
   ·rcases at' h2 with ⟨l2, e2⟩ | ⟨l2, _⟩
    ·exact hg a b (by first | decide | omega) (by rw [show ps.length - 2 = j by omega]; exact e1) (by rw [show ps.length - 1 = j + 1 by omega]; exact e2)
    ·omega
   ·omega
end DL

namespace DL
open PySem L2
noncomputable def goR (u v : Rat × Rat × Rat) : Bool := decide (u.1 * v.2.1 = u.2.1 * v.1) && decide (0 < u.1 * v.1 + u.2.1 * v.2.1)
theorem b3B {a : Pt} {u v : Rat × Rat × Rat} (hu : ¬ (u.1 = 0 ∧ u.2.1 = 0)) (hv : ¬ (v.1 = 0 ∧ v.2.1 = 0)) : goB a (a.1 + u.1, a.2 + u.2.1) (a.1 + u.1 + v.1, a.2 + u.2.1 + v.2.1) = goR u v := by
 have n1 : a ≠ (a.1 + u.1, a.2 + u.2.1) := fun e => hu (by
  have e1 := congrArg Prod.fst e
  have e2 := congrArg Prod.snd e
  simp only at e1 e2
  constructor <;> grind)
 have n2 : ((a.1 + u.1, a.2 + u.2.1) : Pt) ≠ (a.1 + u.1 + v.1, a.2 + u.2.1 + v.2.1) := fun e => hv (by
  have e1 := congrArg Prod.fst e
  have e2 := congrArg Prod.snd e
  simp only at e1 e2
  constructor <;> grind)
 rw [a9o n1 n2]
 unfold goR
 rw [Bool.eq_iff_iff, Bool.and_eq_true, Bool.and_eq_true, decide_eq_true_iff, decide_eq_true_iff, decide_eq_true_iff, decide_eq_true_iff]
 have c1 : v4 a (a.1 + u.1, a.2 + u.2.1) (a.1 + u.1 + v.1, a.2 + u.2.1 + v.2.1) = u.1 * v.2.1 - u.2.1 * v.1 := by unfold v4; grind
 have c2 : (a.1 + u.1 - a.1) * (a.1 + u.1 + v.1 - (a.1 + u.1)) + (a.2 + u.2.1 - a.2) * (a.2 + u.2.1 + v.2.1 - (a.2 + u.2.1)) = u.1 * v.1 + u.2.1 * v.2.1 := by grind
 rw [c1, c2]
 constructor
 ·rintro ⟨h1, h2⟩; exact ⟨by grind, h2⟩
 ·rintro ⟨h1, h2⟩; exact ⟨by grind, h2⟩
end DL
namespace T
open PySem L2 DL
theorem b1B (q : Rat) : 0 < q.num ↔ 0 < q := by
 have hd : (0 : Rat) < ((q.den : Int) : Rat) := Rat.intCast_pos.mpr (by have := q.den_pos; omega)
 rw [← Rat.intCast_pos, a1n, Rat.mul_comm]
 exact Rat.mul_pos_iff_of_pos_left hd
theorem a9s (a b c : D) : atI [a, b, c] 0 = some a := rfl
theorem b1V (a b c : D) : atI [a, b, c] 1 = some b := rfl
theorem b0E (a b c : D) : atI [a, b, c] 2 = some c := rfl
noncomputable abbrev LGo : DFn := a2E LS LP
theorem a6y {k : Nat} (u v : Rat × Rat × Rat) (fs : Option FS) (hu : WyS k u) (hv : WyS k v) (hk : k ≤ 200) : LGo [p8 u, p8 v] fs = some (.bl (goR u v), fs) := by
 have p1 := L0 u.1 v.2.1 fs hu.x hv.y (by first | decide | omega)
 have p2 := L0 u.2.1 v.1 fs hu.y hv.x (by first | decide | omega)
 have p3 := L0 u.1 v.1 fs hu.x hv.x (by first | decide | omega)
 have p4 := L0 u.2.1 v.2.1 fs hu.y hv.y (by first | decide | omega)
 have p5 := a0c (u.1 * v.1) (u.2.1 * v.2.1) fs (hu.x.mul hv.x) (hu.y.mul hv.y) (by first | decide | omega)
 have pe := a5h (hu.x.mul hv.y) (hu.y.mul hv.x) (by first | decide | omega) (by first | decide | omega)
 have np : (0 < (u.1 * v.1 + u.2.1 * v.2.1).num) ↔ 0 < u.1 * v.1 + u.2.1 * v.2.1 := b1B _
 refine v0 (s := ⟨[.val (p8 u), .val (p8 v), .val (fr (u.1 * v.2.1)), .val (fr (u.2.1 * v.1)), .val (fr (u.1 * v.1 + u.2.1 * v.2.1))], fs⟩) ?_
 show a2X LS LP ⟨[.val (p8 u), .val (p8 v), .no, .no, .no], fs⟩ = _
 unfold p8 at *
 unfold goR
 generalize u.1 * v.2.1 = A at *
 generalize u.2.1 * v.1 = B at *
 generalize u.1 * v.1 + u.2.1 * v.2.1 = C at *
 unfold a2X
 rw [j7 (s1 := ⟨[.val (.lst [fr u.1, fr u.2.1, fr u.2.2]), .val (.lst [fr v.1, fr v.2.1, fr v.2.2]), .val (fr A), .no, .no], fs⟩) (u6 (w4 (n0 (e8 rfl rfl rfl) (n0 (e8 rfl rfl rfl) rfl)) p1) rfl),
  j7 (s1 := ⟨[.val (.lst [fr u.1, fr u.2.1, fr u.2.2]), .val (.lst [fr v.1, fr v.2.1, fr v.2.2]), .val (fr A), .val (fr B), .no], fs⟩) (u6 (w4 (n0 (e8 rfl rfl rfl) (n0 (e8 rfl rfl rfl) rfl)) p2) rfl),
  j7 (s1 := ⟨[.val (.lst [fr u.1, fr u.2.1, fr u.2.2]), .val (.lst [fr v.1, fr v.2.1, fr v.2.2]), .val (fr A), .val (fr B), .val (fr C)], fs⟩) (u6 (w4 (n0 (w4 (n0 (e8 rfl rfl rfl) (n0 (e8 rfl rfl rfl) rfl)) p3) (n0 (w4 (n0 (e8 rfl rfl rfl) (n0 (e8 rfl rfl rfl) rfl)) p4) rfl)) p5) rfl)]
 refine A8 ?_
 by_cases h : A = B
 ·subst h
  simp only [decide_true] at pe
  have dd : decide (0 < C.num) = decide (0 < C) := by rw [Bool.eq_iff_iff, decide_eq_true_iff, decide_eq_true_iff]; exact np
  simp [d7, t6, g6, dOp, dUn, dC, dL, dV, d8, j6, dB, i3, d5, a0, b0, i7, j9, dCB, one, l0, m6, dIf, o7, dOr, o9, t0, u4, t9, k0, n8, o0, j5, m7, o6, m9, o8, p9, dTr, u0, ixT, ixL, y9, A0, A3, A2, A4, pe, dd]
 ·rw [decide_eq_false h] at pe
  simp [d7, t6, g6, dOp, dUn, dC, dL, dV, d8, j6, dB, i3, d5, a0, b0, i7, j9, dCB, one, l0, m6, dIf, o7, dOr, o9, t0, u4, t9, k0, n8, o0, j5, m7, o6, m9, o8, p9, dTr, u0, ixT, ixL, y9, A0, A3, A2, A4, pe, h]
theorem a72 (ds : List D) : PyData.eqv (D.py (.lst ds)) (D.py (.lst [])) = decide (ds = []) := by
 cases ds with
 | nil => rfl
 | cons d r => simp [D.py, D.pys, PyData.eqv, PyData.eqvAll]
theorem b1v {k : Nat} {ws : List (Rat × Rat × Rat)} (h : ∀ w ∈ ws, WyS k w) (hk : k ≤ 1920) : y7 (.lst (ws.map p8)) = true := by
 have := Ok.lst (OkL.all (k := 2) (n := 9) (ds := ws.map p8) (fun d hd => by
  obtain ⟨w, hw, rfl⟩ := List.mem_map.mp hd
  have := h w hw
  exact (Ok.lst (OkL.cons (Ok.fr this.x hk) (OkL.cons (Ok.fr this.y hk) (OkL.cons (Ok.fr this.l hk) OkL.nil)))).mono (by decide) (by decide)))
 exact this.eq
theorem a4H {k : Nat} {ws : List (Rat × Rat × Rat)} (h : ∀ w ∈ ws, WyS k w) (hk : k ≤ 1920) : pNe (.lst (ws.map p8)) (.lst []) = some (.bl (!decide (ws = []))) ∧ pEq (.lst (ws.map p8)) (.lst []) = some (.bl (decide (ws = []))) := by
 have h1 := b1v h hk
 have h2 : y7 (.lst []) = true := rfl
 have e := a72 (ws.map p8)
 have e2 : (decide (ws.map p8 = [])) = decide (ws = []) := by rw [Bool.eq_iff_iff]; simp
 constructor
 ·simp only [pNe, h1, h2, Bool.and_self, if_true, e, e2]
 ·simp only [pEq, h1, h2, Bool.and_self, if_true, e, e2]
end T

namespace T
open PySem L2 DL
noncomputable abbrev LOp : DFn := a4r LGo LG z9 L4 LWy LPl
noncomputable abbrev lOp : DM := a2H LGo LG z9 L4 LWy LPl
structure OpI (most : Int) (n i : Nat) (ps : List Pt) (ws : List (Rat × Rat × Rat)) (f : FS) : Prop where
 op : Open ps
 len : ps.length = ws.length + 1
 any : 1 ≤ i → 1 ≤ ws.length
 few : ps.length ≤ i + 1
 sz : ∀ p ∈ ps, PtS (5 + 21 * i) p
 wy : ∀ w ∈ ws, WyS 20 w
 rel : ∀ (j : Nat) w a b, ws[j]? = some w → ps[j]? = some a → ps[j + 1]? = some b → b = (a.1 + w.1, a.2 + w.2.1)
 fd : Fd (n + 8 * i) f
noncomputable def opS (most : Int) (ps : List Pt) (ws : List (Rat × Rat × Rat)) (x4 x5 : Sl) (f : FS) : DS := ⟨[.val .feed, .val (.int most), .own (ps.map pt), .own (ws.map p8), x4, x5], some f⟩
noncomputable def w5 (w : Rat × Rat × Rat) (x : Sl) : Prop := x = .val (p8 w) ∨ x = .own [fr w.1, fr w.2.1, fr w.2.2]
theorem a8x {most : Int} {n i : Nat} {ps : List Pt} {ws : List (Rat × Rat × Rat)} {f : FS} (w : Rat × Rat × Rat) (hw : WyS 20 w) (x4 : Sl) (hws : ∀ w ∈ ws, WyS 20 w) (h : Fd n f) (hn : n < 2 ^ 28) :
  ∃ w' x' f', j6 (o7 (dB (dOp pNe (dL 3) (l0 (m6 b0)))) (dB (dOp pEq (d5 z9 (a0 (dV 0) (a0 (dC (.int 8)) b0))) (dC (.int 0))))) (K1 5 (m6 (a0 (d5 L4 (a0 (dOp pIx (dOp pIx (dL 3) (dUn o0 (dC (.int 1)))) (dC (.int 0))) b0)) (a0 (d5 L4 (a0 (dOp pIx (dOp pIx (dL 3) (dUn o0 (dC (.int 1)))) (dC (.int 1))) b0)) (a0 (dOp pIx (dOp pIx (dL 3) (dUn o0 (dC (.int 1)))) (dC (.int 2))) b0))))) j9
   (opS most ps ws x4 (.val (p8 w)) f) = some (.next, opS most ps ws x4 x' f') ∧ w5 w' x' ∧ WyS 20 w' ∧ Fd (n + 1) f' := by
 obtain ⟨en, _⟩ := a4H hws (by first | decide | omega)
 by_cases hz : ws = []
 ·refine ⟨w, .val (p8 w), f, ?_, .inl rfl, hw, h.mono (by first | decide | omega)⟩
  rw [decide_eq_true hz] at en
  exact N8 (a65 (B4 (e8 (s1 := opS most ps ws x4 (.val (p8 w)) f) rfl (P4 rfl) en)))
 ·obtain ⟨r, f', e, a1, a2, h'⟩ := D0 8 h
  rw [decide_eq_false hz] at en
  by_cases hr : r = 0
  ·have hl : ws.length - 1 < ws.length := by have := List.length_pos_iff.mpr hz; omega
   obtain ⟨u, hu⟩ : ∃ u, ws[ws.length - 1]? = some u := ⟨_, List.getElem?_eq_getElem hl⟩
   have su := hws u (List.mem_of_getElem? hu)
   have la : atI (ws.map p8) (-1) = some (p8 u) := V6 (by rw [List.length_map, List.getElem?_map, hu]; rfl)
   have n1 := a1E u.1 (some f')
   have n2 := a1E u.2.1 (some f')
   refine ⟨(-u.1, -u.2.1, u.2.2), .own [fr (-u.1), fr (-u.2.1), fr u.2.2], f', ?_, .inr rfl, ⟨su.x.neg, su.y.neg, su.l, fun z => su.nz (by constructor <;> grind), by have := su.ex; grind⟩, h'⟩
   unfold opS
   generalize ws.map p8 = W at *
   generalize ps.map pt = R at *
   have s3 : (3 : Nat) ≤ sizeLine := by decide
   unfold p8 at *
   simp [d7, t6, g6, dOp, dUn, dC, dL, dV, d8, j6, dB, i3, d5, a0, b0, i7, j9, dCB, one, l0, m6, dIf, o7, dOr, o9, t0, u4, t9, k0, n8, o0, j5, m7, o6, m9, o8, p9, dTr, u0, ixT, ixL, y9, A0, A3, A2, A4, en, e, E2, hr, la, a9s, b1V, b0E, n1, n2, K1, s3]
  ·refine ⟨w, .val (p8 w), f', ?_, .inl rfl, hw, h'⟩
   exact N8 (a5b (s1 := opS most ps ws x4 (.val (p8 w)) f) (B4 (e8 rfl (P4 rfl) en)) (B4 (e8 (s1 := opS most ps ws x4 (.val (p8 w)) f') (by unfold opS; exact D7 rfl e) rfl ((E2 r 0).trans (by rw [decide_eq_false hr])))))
end T

namespace T
open PySem L2 DL
noncomputable abbrev opT : DM := j6 (dOr (dB (dOp pEq (dL 3) (l0 (m6 b0)))) (o9 (dTr (d5 LGo (a0 (dOp pIx (dL 3) (dUn o0 (dC (.int 1)))) (a0 (dV 5) b0)))))) (d7 (J4 3 (dV 5)) (J4 2 (d5 LG (a0 (dOp pIx (dL 2) (dUn o0 (dC (.int 1)))) (a0 (dOp pIx (dL 5) (dC (.int 0))) (a0 (dOp pIx (dL 5) (dC (.int 1))) b0)))))) j9
theorem b2U {most : Int} {k : Nat} {ps : List Pt} {ws : List (Rat × Rat × Rat)} {f : FS} (w : Rat × Rat × Rat) (hw : WyS 20 w) (x4 x5 : Sl) (hx : w5 w x5) (hws : ∀ w ∈ ws, WyS 20 w) {a : Pt} (ha : ps[ps.length - 1]? = some a) (sa : PtS k a) (hk : k ≤ 1000)
  (h1 : ps.length ≤ 1000) (h2 : ws.length ≤ 1000) (hg : ∀ u, ws[ws.length - 1]? = some u → goR u w = false) :
  opT (opS most ps ws x4 x5 f) = some (.next, opS most (ps ++ [(a.1 + w.1, a.2 + w.2.1)]) (ws ++ [w]) x4 (.val (p8 w)) f) := by
 obtain ⟨_, en⟩ := a4H hws (by first | decide | omega)
 have lp : atI (ps.map pt) (-1) = some (pt a) := V6 (by rw [List.length_map, List.getElem?_map, ha]; rfl)
 have gn := U5 a w.1 w.2.1 (some f) sa.x sa.y hw.x hw.y (by first | decide | omega)
 have l1 : (ps.map pt).length < sizeLine := by rw [List.length_map, sizeLine_eq]; omega
 have l2 : (ws.map p8).length < sizeLine := by rw [List.length_map, sizeLine_eq]; omega
 have e1 : (ps ++ [(a.1 + w.1, a.2 + w.2.1)]).map pt = ps.map pt ++ [pt (a.1 + w.1, a.2 + w.2.1)] := by simp
 have e2 : (ws ++ [w]).map p8 = ws.map p8 ++ [p8 w] := by simp
 have hv : dV 5 (opS most ps ws x4 x5 f) = some (p8 w, opS most ps ws x4 (.val (p8 w)) f) := by rcases hx with rfl | rfl <;> rfl
 have fin : ∀ y5, dV 5 (opS most ps ws x4 y5 f) = some (p8 w, opS most ps ws x4 (.val (p8 w)) f) → (d7 (J4 3 (dV 5)) (J4 2 (d5 LG (a0 (dOp pIx (dL 2) (dUn o0 (dC (.int 1)))) (a0 (dOp pIx (dL 5) (dC (.int 0))) (a0 (dOp pIx (dL 5) (dC (.int 1))) b0)))))) (opS most ps ws x4 y5 f) = some (.next, opS most (ps ++ [(a.1 + w.1, a.2 + w.2.1)]) (ws ++ [w]) x4 (.val (p8 w)) f) := fun y5 hy => by
  rw [j7 (s1 := ⟨[.val .feed, .val (.int most), .own (ps.map pt), .own (ws.map p8 ++ [p8 w]), x4, .val (p8 w)], some f⟩) (a5Q (s1 := opS most ps ws x4 (.val (p8 w)) f) rfl hy rfl l2)]
  unfold opS
  rw [e1, e2]
  exact a5Q (s1 := ⟨[.val .feed, .val (.int most), .own (ps.map pt), .own (ws.map p8 ++ [p8 w]), x4, .val (p8 w)], some f⟩) rfl (w4 (n0 (e8 rfl rfl ((ixL _ _).trans lp)) (n0 (e8 rfl rfl rfl) (n0 (e8 rfl rfl rfl) rfl))) gn) rfl l1
 unfold opT
 have t1 : ∀ z, pEq (.lst (ws.map p8)) (.lst []) = some (.bl z) → dB (dOp pEq (dL 3) (l0 (m6 b0))) (opS most ps ws x4 x5 f) = some (z, opS most ps ws x4 x5 f) := fun z h => B4 (e8 rfl (P4 rfl) h)
 by_cases hz : ws = []
 ·rw [decide_eq_true hz] at en
  rw [J7 (a2I (t1 true en))]
  exact fin x5 hv
 ·rw [decide_eq_false hz] at en
  have hl : ws.length - 1 < ws.length := by have := List.length_pos_iff.mpr hz; omega
  obtain ⟨u, hu⟩ : ∃ u, ws[ws.length - 1]? = some u := ⟨_, List.getElem?_eq_getElem hl⟩
  have la : atI (ws.map p8) (-1) = some (p8 u) := V6 (by rw [List.length_map, List.getElem?_map, hu]; rfl)
  have go := a6y u w (some f) (hws u (List.mem_of_getElem? hu)) hw (by first | decide | omega)
  rw [hg u hu] at go
  rw [J7 (N6 (t1 false en) (a2J (b := false) (a2c (a1F (sl' := (opS most ps ws x4 (.val (p8 w)) f).sl) (n0 (e8 rfl rfl ((ixL _ _).trans la)) (n0 hv rfl)) go))))]
  exact fin _ rfl
theorem a7W {most : Int} {ps : List Pt} {ws : List (Rat × Rat × Rat)} {f : FS} (w : Rat × Rat × Rat) (hw : WyS 20 w) (x4 x5 : Sl) (hx : w5 w x5) (hws : ∀ w ∈ ws, WyS 20 w) {u : Rat × Rat × Rat} (hu : ws[ws.length - 1]? = some u) (hg : goR u w = true) :
  opT (opS most ps ws x4 x5 f) = some (.next, opS most ps ws x4 (.val (p8 w)) f) := by
 obtain ⟨_, en⟩ := a4H hws (by first | decide | omega)
 have hz : ws ≠ [] := fun z => by subst z; simp at hu
 rw [decide_eq_false hz] at en
 have la : atI (ws.map p8) (-1) = some (p8 u) := V6 (by rw [List.length_map, List.getElem?_map, hu]; rfl)
 have go := a6y u w (some f) (hws u (List.mem_of_getElem? hu)) hw (by first | decide | omega)
 rw [hg] at go
 have hv : dV 5 (opS most ps ws x4 x5 f) = some (p8 w, opS most ps ws x4 (.val (p8 w)) f) := by rcases hx with rfl | rfl <;> rfl
 unfold opT
 rw [V1 (N6 (s1 := opS most ps ws x4 x5 f) (B4 (e8 rfl (P4 rfl) en)) (a2J (b := true) (a2c (a1F (sl' := (opS most ps ws x4 (.val (p8 w)) f).sl) (n0 (e8 rfl rfl ((ixL _ _).trans la)) (n0 hv rfl)) go))))]
 rfl
theorem b0X {most : Int} {n i : Nat} {ps : List Pt} {ws : List (Rat × Rat × Rat)} {f : FS} (x4 x5 : Sl) (I : OpI most n i ps ws f) (hi : i < 40) (hn : n < 2 ^ 27) :
  ∃ ps' ws' x5' f', lOp (opS most ps ws x4 x5 f) = some (.next, opS most ps' ws' x4 x5' f') ∧ OpI most n (i + 1) ps' ws' f' := by
 obtain ⟨w0, f1, e1, hw0, h1⟩ := way I.fd (by first | decide | omega)
 obtain ⟨w, x', f2, e2, hx, hw, h2⟩ := a8x (most := most) (i := i) (ps := ps) w0 hw0 x4 I.wy h1 (by first | decide | omega)
 have hl := I.len
 obtain ⟨a, ha⟩ : ∃ a, ps[ps.length - 1]? = some a := ⟨_, List.getElem?_eq_getElem (by first | decide | omega)⟩
 have sa := I.sz a (List.mem_of_getElem? ha)
 have pre : ∀ r, opT (opS most ps ws x4 x' f2) = r → lOp (opS most ps ws x4 x5 f) = r := fun r er => by
  unfold lOp a2H
  rw [j7 (s1 := opS most ps ws x4 (.val (p8 w0)) f1) (by unfold opS; exact u6 (D7 rfl e1) rfl), j7 e2]
  exact er
 have few := I.few
 by_cases hc : ∃ u, ws[ws.length - 1]? = some u ∧ goR u w = true
 ·obtain ⟨u, hu, hg⟩ := hc
  refine ⟨ps, ws, .val (p8 w), f2, pre _ (a7W w hw x4 x' hx I.wy hu hg), I.op, I.len, fun _ => ?_, by omega, fun p hp => (I.sz p hp).mono (by first | decide | omega), I.wy, I.rel, h2.mono (by first | decide | omega)⟩
  have := (List.getElem?_eq_some_iff.mp hu).1
  omega
 ·have hg : ∀ u, ws[ws.length - 1]? = some u → goR u w = false := fun u hu => by
   cases h : goR u w
   ·rfl
   ·exact absurd ⟨u, hu, h⟩ hc
  refine ⟨ps ++ [(a.1 + w.1, a.2 + w.2.1)], ws ++ [w], .val (p8 w), f2, pre _ (b2U w hw x4 x' hx I.wy ha sa (by first | decide | omega) (by first | decide | omega) (by first | decide | omega) hg), ?_, by simp [hl], fun _ => by simp, by simp; omega, fun p hp => ?_, fun v hv => ?_, fun j v b c q1 q2 q3 => ?_, h2.mono (by first | decide | omega)⟩
  ·refine I.op.app (fun b hb e => hw.nz ?_) fun b c h2' hb hc' => ?_
   ·rw [ha] at hb
    cases hb
    have z1 := congrArg Prod.fst e
    have z2 := congrArg Prod.snd e
    simp only at z1 z2
    constructor <;> grind
   ·rw [ha] at hc'
    cases hc'
    obtain ⟨u, hu⟩ : ∃ u, ws[ws.length - 1]? = some u := ⟨_, List.getElem?_eq_getElem (by first | decide | omega)⟩
    have hu' := hu
    rw [show ws.length - 1 = ps.length - 2 by omega] at hu'
    have rl := I.rel _ u b a hu' hb (by rw [show ps.length - 2 + 1 = ps.length - 1 by omega]; exact ha)
    subst rl
    rw [b3B (I.wy u (List.mem_of_getElem? hu)).nz hw.nz]
    exact hg u hu
  ·rcases List.mem_append.mp hp with hp | hp
   ·exact (I.sz p hp).mono (by first | decide | omega)
   ·have ep : p = (a.1 + w.1, a.2 + w.2.1) := by simpa using hp
    subst ep
    exact ⟨(sa.x.add hw.x).mono (by first | decide | omega), (sa.y.add hw.y).mono (by first | decide | omega)⟩
  ·rcases List.mem_append.mp hv with hv | hv
   ·exact I.wy v hv
   ·have ep : v = w := by simpa using hv
    subst ep; exact hw
  ·by_cases hj : j < ws.length
   ·rw [List.getElem?_append_left hj] at q1
    rw [List.getElem?_append_left (by first | decide | omega)] at q2 q3
    exact I.rel j v b c q1 q2 q3
   ·have hjl := (List.getElem?_eq_some_iff.mp q1).1
    simp only [List.length_append, List.length_singleton] at hjl
    have ej : j = ws.length := by omega
    subst ej
    rw [List.getElem?_append_right (by first | decide | omega), Nat.sub_self] at q1
    rw [List.getElem?_append_left (by first | decide | omega)] at q2
    rw [List.getElem?_append_right (by first | decide | omega), show ws.length + 1 - ps.length = 0 by omega] at q3
    rw [show ws.length = ps.length - 1 by omega, ha] at q2
    cases q2
    have e1 : w = v := by simpa using q1
    have e2 : (a.1 + w.1, a.2 + w.2.1) = c := by simpa using q3
    subst e1
    exact e2.symm
end T

namespace T
open PySem L2 DL
structure LnS (c : Bool) (ps : List Pt) : Prop where
 ok : K0 c ps = true
 lo : lo c ≤ ps.length
 hi : ps.length ≤ hi c
 sz : ∀ p ∈ ps, PtS 200 p
 ex : ∀ q ∈ nbs c ps, ∃ r : Rat, dsq q.1 q.2 = r * r
theorem b3w {n : Nat} {f : FS} (most : Int) (hm : 2 ≤ most ∧ most ≤ 9) (h : Fd n f) (hn : n < 2 ^ 26) : ∃ ps f', LOp [.feed, .int most] (some f) = some (.tup [.bl false, .tup (ps.map pt)], some f') ∧ LnS false ps ∧ Fd (n + 100) f' := by
 obtain ⟨p0, f0, e0, s0, h0⟩ := a3Q h (by first | decide | omega)
 obtain ⟨r, f1, e1, r1, r2, h1⟩ := D0 (most - 1) h0
 obtain ⟨m, hmm⟩ : ∃ m : Nat, (1 : Int) + r = (m : Int) := ⟨(1 + r).toNat, by omega⟩
 have rm : J0 [.int ((1 : Int) + r)] = some (ups 0 m) := by rw [hmm]; exact a1r (by first | decide | omega)
 obtain ⟨s', lp, ps, ws, x4, x5, f', rfl, I⟩ := a3l (t := d8 4) (b := lOp) (fun i s => ∃ ps ws x4 x5 f', s = opS most ps ws x4 x5 f' ∧ OpI most (n + 9) i ps ws f') (ups 0 m) 0 (opS most [p0] [] .no .no f1)
  ⟨[p0], [], .no, .no, f1, rfl, Open.one p0, rfl, fun z => absurd z (by first | decide | omega), by simp, (fun p hp => by
   have : p = p0 := by simpa using hp
   subst this; exact s0.mono (by first | decide | omega)), (fun w hw => by cases hw), (fun j w a b q => by simp at q), h1⟩ (by
   rintro i d s hd ⟨ps, ws, x4, x5, f', rfl, I⟩
   obtain ⟨rfl, hi⟩ := a3C hd
   rw [Nat.zero_add] at *
   obtain ⟨ps', ws', x5', f'', e, I'⟩ := b0X (.val (.int ((0 : Int) + i))) x5 I (by first | decide | omega) (by first | decide | omega)
   exact ⟨opS most ps ws (.val (.int ((0 : Int) + i))) x5 f', _, rfl, .inl e, ps', ws', _, x5', f'', rfl, I'⟩)
 rw [Nat.zero_add, a02] at I
 have l1 := I.len
 have l2 := I.any (by first | decide | omega)
 have l3 := I.few
 refine ⟨ps, f', v0 (s := ⟨[.val .feed, .val (.int most), .own (ps.map pt), .own (ws.map p8), x4, x5], some f'⟩) ?_, ⟨I.op.line, by show 2 ≤ _; omega, by show _ ≤ 9; omega, fun p hp => (I.sz p hp).mono (by first | decide | omega), fun q hq => ?_⟩, I.fd.mono (by first | decide | omega)⟩
 rotate_left
 ·obtain ⟨j, hj⟩ := List.getElem?_of_mem hq
  obtain ⟨q1, q2⟩ := a01 hj
  have lj := (List.getElem?_eq_some_iff.mp q2).1
  obtain ⟨w, hw⟩ : ∃ w, ws[j]? = some w := ⟨_, List.getElem?_eq_getElem (by first | decide | omega)⟩
  have rl := I.rel j w q.1 q.2 hw q1 q2
  have we := (I.wy w (List.mem_of_getElem? hw)).ex
  refine ⟨w.2.2, ?_⟩
  rw [rl, ← we]
  unfold dsq
  grind
 show a3w LGo LG z9 L4 LWy LPl ⟨[.val .feed, .val (.int most), .no, .no, .no, .no], some f⟩ = _
 unfold a3w
 have rg : (a0 (dOp k0 (dC (.int 1)) (d5 z9 (a0 (dV 0) (a0 (dOp n8 (dL 1) (dC (.int 1))) b0)))) b0) (opS most [p0] [] .no .no f0) = some ([.int ((1 : Int) + r)], opS most [p0] [] .no .no f1) := by
  exact n0 (e8 rfl (D7 (n0 rfl (n0 (e8 rfl rfl rfl) rfl)) e1) rfl) rfl
 have s1 : (1 : Nat) ≤ sizeLine := by decide
 rw [j7 (s1 := ⟨[.val .feed, .val (.int most), .own [pt p0], .no, .no, .no], some f0⟩) (a4U (s1 := ⟨[.val .feed, .val (.int most), .no, .no, .no, .no], some f0⟩) (b1P (D7 rfl e0)) (show 2 < 6 by decide)),
  j7 (s1 := opS most [p0] [] .no .no f0) (a4U (s1 := ⟨[.val .feed, .val (.int most), .own [pt p0], .no, .no, .no], some f0⟩) rfl (show 3 < 6 by decide)), j7 ((a64 rg rm).trans lp)]
 exact A8 (V4 rfl (D8 rfl rfl))
end T

namespace T
open PySem L2 DL
noncomputable abbrev LCl : DFn := a4n z9 LG LP LF LWy LPl
noncomputable def T8 (p : Pt) (x y : Rat) : List Pt := [p, (p.1 + x, p.2 + 0), (p.1 + x, p.2 + y), (p.1 + 0, p.2 + y)]
noncomputable def Q5 : List (List Int) := [[0, 1, 2], [0, 2, 1], [0, 2, 1, 3], [0, 1, 3, 2], [3, 1, 0]]
noncomputable def P5 (o : List Int) (p : Pt) (x y : Rat) : List Pt := o.filterMap fun i => (T8 p x y)[i.toNat]?
theorem b0d {p : Pt} {x y : Rat} (hx : x * y ≠ 0) {o : List Int} (ho : o ∈ Q5) : K0 true (P5 o p x y) = true ∧ 3 ≤ (P5 o p x y).length ∧ (P5 o p x y).length ≤ 4 := by
 simp only [Q5, List.mem_cons, List.not_mem_nil, or_false] at ho
 rcases ho with rfl | rfl | rfl | rfl | rfl
 ·exact ⟨a4c (fun z => hx (by simp only [v4] at z; grind)) (fun z => hx (by simp only [v4] at z; grind)) (fun z => hx (by simp only [v4] at z; grind)), Nat.le_of_ble_eq_true rfl, Nat.le_of_ble_eq_true rfl⟩
 ·exact ⟨a4c (fun z => hx (by simp only [v4] at z; grind)) (fun z => hx (by simp only [v4] at z; grind)) (fun z => hx (by simp only [v4] at z; grind)), Nat.le_of_ble_eq_true rfl, Nat.le_of_ble_eq_true rfl⟩
 ·exact ⟨a3k (fun z => hx (by simp only [v4] at z; grind)) (fun z => hx (by simp only [v4] at z; grind)) (fun z => hx (by simp only [v4] at z; grind)) (fun z => hx (by simp only [v4] at z; grind)), Nat.le_of_ble_eq_true rfl, Nat.le_of_ble_eq_true rfl⟩
 ·exact ⟨a3k (fun z => hx (by simp only [v4] at z; grind)) (fun z => hx (by simp only [v4] at z; grind)) (fun z => hx (by simp only [v4] at z; grind)) (fun z => hx (by simp only [v4] at z; grind)), Nat.le_of_ble_eq_true rfl, Nat.le_of_ble_eq_true rfl⟩
 ·exact ⟨a4c (fun z => hx (by simp only [v4] at z; grind)) (fun z => hx (by simp only [v4] at z; grind)) (fun z => hx (by simp only [v4] at z; grind)), Nat.le_of_ble_eq_true rfl, Nat.le_of_ble_eq_true rfl⟩
theorem a8d {p : Pt} {x y : Rat} (hr : ∃ r : Rat, x * x + y * y = r * r) {o : List Int} (ho : o ∈ Q5) : ∀ q ∈ nbs true (P5 o p x y), ∃ r : Rat, dsq q.1 q.2 = r * r := by
 obtain ⟨r, hr⟩ := hr
 have d1 : ∀ a b : Pt, (∃ s t : Rat, (s = 1 ∨ s = -1) ∧ (t = 1 ∨ t = -1) ∧ a.1 - b.1 = s * x ∧ a.2 - b.2 = t * y) → ∃ r : Rat, dsq a b = r * r := by
  rintro a b ⟨s, t, hs, ht, e1, e2⟩
  refine ⟨r, ?_⟩
  unfold dsq
  rw [e1, e2, ← hr]
  rcases hs with rfl | rfl <;> rcases ht with rfl | rfl <;> grind
 have d2 : ∀ a b : Pt, a.2 = b.2 → ∃ r : Rat, dsq a b = r * r := by
  intro a b e
  refine ⟨a.1 - b.1, ?_⟩
  unfold dsq
  rw [e]; grind
 have d3 : ∀ a b : Pt, a.1 = b.1 → ∃ r : Rat, dsq a b = r * r := by
  intro a b e
  refine ⟨a.2 - b.2, ?_⟩
  unfold dsq
  rw [e]; grind
 intro q hq
 simp only [Q5, List.mem_cons, List.not_mem_nil, or_false] at ho
 rcases ho with rfl | rfl | rfl | rfl | rfl <;> (
  have hq' := hq
  simp [P5, T8, nbs] at hq'
  rcases hq' with rfl | rfl | rfl | rfl
  all_goals first
   | exact d2 _ _ rfl
   | exact d3 _ _ rfl
   | exact d2 _ _ (by grind)
   | exact d3 _ _ (by grind)
   | exact d1 _ _ ⟨1, 1, .inl rfl, .inl rfl, by grind, by grind⟩
   | exact d1 _ _ ⟨1, -1, .inl rfl, .inr rfl, by grind, by grind⟩
   | exact d1 _ _ ⟨-1, 1, .inr rfl, .inl rfl, by grind, by grind⟩
   | exact d1 _ _ ⟨-1, -1, .inr rfl, .inr rfl, by grind, by grind⟩)
theorem b2t {o : List Int} {p : Pt} {x y : Rat} {q : Pt} (h : q ∈ P5 o p x y) : q ∈ T8 p x y := by
 obtain ⟨i, _, hi⟩ := List.mem_filterMap.mp h
 exact List.mem_of_getElem? hi
theorem b1n {r : Int} (h0 : 0 ≤ r) (h1 : r < 5) : ∃ o ∈ Q5, atI [D.tup [.int 0, .int 1, .int 2], .tup [.int 0, .int 2, .int 1], .tup [.int 0, .int 2, .int 1, .int 3], .tup [.int 0, .int 1, .int 3, .int 2], .tup [.int 3, .int 1, .int 0]] r = some (.tup (o.map .int)) := by
 have : r = 0 ∨ r = 1 ∨ r = 2 ∨ r = 3 ∨ r = 4 := by omega
 rcases this with rfl | rfl | rfl | rfl | rfl
 ·exact ⟨[0, 1, 2], by decide, rfl⟩
 ·exact ⟨[0, 2, 1], by decide, rfl⟩
 ·exact ⟨[0, 2, 1, 3], by decide, rfl⟩
 ·exact ⟨[0, 1, 3, 2], by decide, rfl⟩
 ·exact ⟨[3, 1, 0], by decide, rfl⟩
theorem b1X : ∀ o ∈ Q5, ∀ i ∈ o, 0 ≤ i ∧ i < 4 := by decide
theorem a6z (cs : List D) (fs : Option FS) : ∀ o : List Int, (∀ i ∈ o, 0 ≤ i ∧ i < cs.length) → A9 (fun d => some [.val d, .val (.lst cs)]) w6 (dOp pIx (dL 1) (dL 0)) (o.map .int) fs = some (o.filterMap fun i => cs[i.toNat]?, fs)
 | [], _ => rfl
 | i :: r, h => by
  have hi := h i (List.mem_cons_self ..)
  have ih := a6z cs fs r fun x hx => h x (List.mem_cons_of_mem _ hx)
  obtain ⟨x, ex⟩ : ∃ x, cs[i.toNat]? = some x := ⟨_, List.getElem?_eq_getElem (show i.toNat < cs.length by omega)⟩
  have ea : atI cs i = some x := by rw [← ex]; exact a3d hi.1 hi.2
  rw [List.map_cons, A9, List.filterMap_cons, ex]
  simp [w6, dOp, dL, ixL, ea, ih]
theorem a8T {o : List Int} (ho : o ∈ Q5) (cs : List D) (hc : cs.length = 4) (fs : Option FS) : A9 (fun d => some [.val d, .val (.lst cs)]) w6 (dOp pIx (dL 1) (dL 0)) (o.map .int) fs = some (o.filterMap fun i => cs[i.toNat]?, fs) :=
 a6z cs fs o fun i hi => by have := b1X o ho i hi; omega
theorem b1G (o : List Int) (p : Pt) (x y : Rat) : (o.filterMap fun i => ((T8 p x y).map pt)[i.toNat]?) = (P5 o p x y).map pt := by
 unfold P5
 rw [List.map_filterMap]
 congr 1
 funext i
 simp
end T

namespace T
open PySem L2 DL
theorem a8k {k l : Nat} {p q : Rat} (ha : Sz k p) (hb : Sz l q) (hk : k ≤ 1920) (hl : l ≤ 1920) : pNe (fr p) (fr q) = some (.bl (!decide (p = q))) := by
 have h1 := (Ok.fr ha hk).eq
 have h2 := (Ok.fr hb hl).eq
 have e := a5h ha hb hk hl
 have e' : pEq (fr p) (fr q) = some (.bl (PyData.eqv (fr p).py (fr q).py)) := by
  show (if y7 (fr p) && y7 (fr q) then some (D.bl (PyData.eqv (fr p).py (fr q).py)) else none) = _
  rw [h1, h2]; rfl
 rw [e] at e'
 have ee : decide (p = q) = PyData.eqv (fr p).py (fr q).py := by simpa using e'
 show (if y7 (fr p) && y7 (fr q) then some (D.bl (!PyData.eqv (fr p).py (fr q).py)) else none) = _
 rw [h1, h2, ← ee]; rfl
theorem b1c {p q : DE} {s s1 s2 : DS} {x y : D} {w : Bool} (h1 : p s = some (x, s1)) (h2 : q s1 = some (y, s2)) (h3 : pEq x y = some (.bl w)) : dB (dOp pEq p q) s = some (w, s2) := by
 unfold dB
 rw [e8 h1 h2 h3]
 rfl
theorem a97 {p q : DE} {s s1 s2 : DS} {x y : D} {w : Bool} (h1 : p s = some (x, s1)) (h2 : q s1 = some (y, s2)) (h3 : pNe x y = some (.bl w)) : dB (dOp pNe p q) s = some (w, s2) := by
 unfold dB
 rw [e8 h1 h2 h3]
 rfl
theorem a4R {f : DA} {s s1 : DS} {ds : List D} (h : f s = some (ds, s1)) (hz : ds.length ≤ sizeLine) : i7 f s = some (.tup ds, s1) := by
 unfold i7
 rw [h, Option.bind_some, if_pos hz]
noncomputable abbrev a7z (mD mW mP mG : DFn) : DM := j6 (dB (dOp pEq (d5 mD (a0 (dV 0) (a0 (dC (.int 2)) b0))) (dC (.int 0)))) (d7 (g6 (d5 mW (a0 (dV 0) b0)) (d8 3)) (j6 (dB (dOp pNe (d5 mP (a0 (dOp pIx (dL 1) (dC (.int 0))) (a0 (dOp pIx (dL 3) (dC (.int 1))) b0))) (d5 mP (a0 (dOp pIx (dL 1) (dC (.int 1))) (a0 (dOp pIx (dL 3) (dC (.int 0))) b0))))) (d7 (g6 (d5 mG (a0 (dV 2) (a0 (dOp pIx (dL 1) (dC (.int 0))) (a0 (dOp pIx (dL 1) (dC (.int 1))) b0)))) (d8 4)) (d7 (g6 (d5 mG (a0 (dV 2) (a0 (dOp pIx (dL 3) (dC (.int 0))) (a0 (dOp pIx (dL 3) (dC (.int 1))) b0)))) (d8 5)) (i3 (i7 (a0 (dC (.bl true)) (a0 (i7 (a0 (dV 2) (a0 (dV 4) (a0 (d5 mG (a0 (dV 4) (a0 (dOp pIx (dL 3) (dC (.int 0))) (a0 (dOp pIx (dL 3) (dC (.int 1))) b0)))) (a0 (dV 5) b0))))) b0)))))) j9)) j9
noncomputable abbrev cS (p : D) (w x3 x4 x5 : Sl) (f : FS) : DS := ⟨[.val .feed, w, .val p, x3, x4, x5, .no, .no, .no, .no, .no], some f⟩
theorem a5m {mD mW mP mG : DFn} {f f1 f2 : FS} {p a b c d e g A B : D} {w : Bool} (e1 : mD [.feed, .int 2] (some f) = some (.int 0, some f1)) (e2 : mW [.feed] (some f1) = some (.lst [d, e, g], some f2)) (p1 : mP [a, e] (some f2) = some (A, some f2)) (p2 : mP [b, d] (some f2) = some (B, some f2)) (pn : pNe A B = some (.bl w)) :
  (w = false → a7z mD mW mP mG (cS p (.val (.lst [a, b, c])) .no .no .no f) = some (.next, cS p (.val (.lst [a, b, c])) (.val (.lst [d, e, g])) .no .no f2)) ∧
  (w = true → ∀ X Y Z : D, mG [p, a, b] (some f2) = some (X, some f2) → mG [p, d, e] (some f2) = some (Y, some f2) → mG [X, d, e] (some f2) = some (Z, some f2) → a7z mD mW mP mG (cS p (.val (.lst [a, b, c])) .no .no .no f) = some (.ret (.tup [.bl true, .tup [p, X, Z, Y]]), cS p (.val (.lst [a, b, c])) (.val (.lst [d, e, g])) (.val X) (.val Y) f2)) := by
 have c0 : dB (dOp pEq (d5 mD (a0 (dV 0) (a0 (dC (.int 2)) b0))) (dC (.int 0))) (cS p (.val (.lst [a, b, c])) .no .no .no f) = some (true, cS p (.val (.lst [a, b, c])) .no .no .no f1) :=
  b1c (s1 := cS p (.val (.lst [a, b, c])) .no .no .no f1) (B0 (s1 := cS p (.val (.lst [a, b, c])) .no .no .no f) rfl e1) rfl (E2 0 0)
 have c1 : dB (dOp pNe (d5 mP (a0 (dOp pIx (dL 1) (dC (.int 0))) (a0 (dOp pIx (dL 3) (dC (.int 1))) b0))) (d5 mP (a0 (dOp pIx (dL 1) (dC (.int 1))) (a0 (dOp pIx (dL 3) (dC (.int 0))) b0)))) (cS p (.val (.lst [a, b, c])) (.val (.lst [d, e, g])) .no .no f2) = some (w, cS p (.val (.lst [a, b, c])) (.val (.lst [d, e, g])) .no .no f2) :=
  a97 (s1 := cS p (.val (.lst [a, b, c])) (.val (.lst [d, e, g])) .no .no f2) (B0 (s1 := cS p (.val (.lst [a, b, c])) (.val (.lst [d, e, g])) .no .no f2) (xs := [a, e]) rfl p1) (B0 (s1 := cS p (.val (.lst [a, b, c])) (.val (.lst [d, e, g])) .no .no f2) (xs := [b, d]) rfl p2) pn
 constructor
 ·rintro rfl
  show j6 _ _ _ _ = _
  rw [J7 c0, j7 (s1 := cS p (.val (.lst [a, b, c])) (.val (.lst [d, e, g])) .no .no f2) (u6 (B0 (s1 := cS p (.val (.lst [a, b, c])) .no .no .no f1) rfl e2) rfl), V1 c1]
  rfl
 ·rintro rfl X Y Z g1 g2 g3
  show j6 _ _ _ _ = _
  rw [J7 c0, j7 (s1 := cS p (.val (.lst [a, b, c])) (.val (.lst [d, e, g])) .no .no f2) (u6 (B0 (s1 := cS p (.val (.lst [a, b, c])) .no .no .no f1) rfl e2) rfl), J7 c1,
   j7 (s1 := cS p (.val (.lst [a, b, c])) (.val (.lst [d, e, g])) (.val X) .no f2) (u6 (B0 (s1 := cS p (.val (.lst [a, b, c])) (.val (.lst [d, e, g])) .no .no f2) (xs := [p, a, b]) rfl g1) rfl),
   j7 (s1 := cS p (.val (.lst [a, b, c])) (.val (.lst [d, e, g])) (.val X) (.val Y) f2) (u6 (B0 (s1 := cS p (.val (.lst [a, b, c])) (.val (.lst [d, e, g])) (.val X) .no f2) (xs := [p, d, e]) rfl g2) rfl)]
  exact A8 (a4R (ds := [.bl true, .tup [p, X, Z, Y]]) (s1 := cS p (.val (.lst [a, b, c])) (.val (.lst [d, e, g])) (.val X) (.val Y) f2) (n0 rfl (n0 (a4R (ds := [p, X, Z, Y]) (s1 := cS p (.val (.lst [a, b, c])) (.val (.lst [d, e, g])) (.val X) (.val Y) f2) (n0 rfl (n0 rfl (n0 (B0 (s1 := cS p (.val (.lst [a, b, c])) (.val (.lst [d, e, g])) (.val X) (.val Y) f2) (xs := [X, d, e]) rfl g3) (n0 rfl rfl)))) (show 4 ≤ sizeLine by decide)) rfl)) (show 2 ≤ sizeLine by decide))
noncomputable abbrev clA : DM := j6 (dB (dOp pEq (d5 z9 (a0 (dV 0) (a0 (dC (.int 2)) b0))) (dC (.int 0)))) (d7 (g6 (d5 LWy (a0 (dV 0) b0)) (d8 3)) (j6 (dB (dOp pNe (d5 LP (a0 (dOp pIx (dL 1) (dC (.int 0))) (a0 (dOp pIx (dL 3) (dC (.int 1))) b0))) (d5 LP (a0 (dOp pIx (dL 1) (dC (.int 1))) (a0 (dOp pIx (dL 3) (dC (.int 0))) b0))))) (d7 (g6 (d5 LG (a0 (dV 2) (a0 (dOp pIx (dL 1) (dC (.int 0))) (a0 (dOp pIx (dL 1) (dC (.int 1))) b0)))) (d8 4)) (d7 (g6 (d5 LG (a0 (dV 2) (a0 (dOp pIx (dL 3) (dC (.int 0))) (a0 (dOp pIx (dL 3) (dC (.int 1))) b0)))) (d8 5)) (i3 (i7 (a0 (dC (.bl true)) (a0 (i7 (a0 (dV 2) (a0 (dV 4) (a0 (d5 LG (a0 (dV 4) (a0 (dOp pIx (dL 3) (dC (.int 0))) (a0 (dOp pIx (dL 3) (dC (.int 1))) b0)))) (a0 (dV 5) b0))))) b0)))))) j9)) j9
theorem a9U {n : Nat} {f : FS} (w : Rat × Rat × Rat) (p : Pt) (hw : WyS 20 w) (hp : PtS 5 p) (h : Fd n f) (hn : n < 2 ^ 27) :
  ∃ f', Fd (n + 8) f' ∧ ((∃ x3, clA ⟨[.val .feed, .val (p8 w), .val (pt p), .no, .no, .no, .no, .no, .no, .no, .no], some f⟩ = some (.next, ⟨[.val .feed, .val (p8 w), .val (pt p), x3, .no, .no, .no, .no, .no, .no, .no], some f'⟩)) ∨
   ∃ ps sl, clA ⟨[.val .feed, .val (p8 w), .val (pt p), .no, .no, .no, .no, .no, .no, .no, .no], some f⟩ = some (.ret (.tup [.bl true, .tup (ps.map pt)]), ⟨sl, some f'⟩) ∧ LnS true ps) := by
 obtain ⟨r, f1, e1, r1, r2, h1⟩ := D0 2 h
 by_cases hr : r = 0
 ·obtain ⟨v, f2, e2, hv, h2⟩ := way h1 (by first | decide | omega)
  have p1 := L0 w.1 v.2.1 (some f2) hw.x hv.y (by first | decide | omega)
  have p2 := L0 w.2.1 v.1 (some f2) hw.y hv.x (by first | decide | omega)
  have pn := a8k (hw.x.mul hv.y) (hw.y.mul hv.x) (by first | decide | omega) (by first | decide | omega)
  refine ⟨f2, h2.mono (by first | decide | omega), ?_⟩
  by_cases hz : w.1 * v.2.1 = w.2.1 * v.1
  ·left
   refine ⟨.val (p8 v), ?_⟩
   rw [decide_eq_true hz] at pn
   subst hr
   exact (a5m e1 e2 p1 p2 pn).1 rfl
  ·right
   have g1 := U5 p w.1 w.2.1 (some f2) hp.x hp.y hw.x hw.y (by first | decide | omega)
   have g2 := U5 p v.1 v.2.1 (some f2) hp.x hp.y hv.x hv.y (by first | decide | omega)
   have g3 := U5 (p.1 + w.1, p.2 + w.2.1) v.1 v.2.1 (some f2) (hp.x.add hw.x) (hp.y.add hw.y) hv.x hv.y (by first | decide | omega)
   rw [decide_eq_false hz] at pn
   have s4 : (4 : Nat) ≤ sizeLine := by decide
   refine ⟨[p, (p.1 + w.1, p.2 + w.2.1), (p.1 + w.1 + v.1, p.2 + w.2.1 + v.2.1), (p.1 + v.1, p.2 + v.2.1)],
    [.val .feed, .val (p8 w), .val (pt p), .val (p8 v), .val (pt (p.1 + w.1, p.2 + w.2.1)), .val (pt (p.1 + v.1, p.2 + v.2.1)), .no, .no, .no, .no, .no], ?_, ?_, by show 3 ≤ 4; omega, by show 4 ≤ 8; omega, ?_, ?_⟩
   ·subst hr
    exact (a5m (c := fr w.2.2) (g := fr v.2.2) e1 e2 p1 p2 pn).2 rfl _ _ _ g1 g2 g3
   ·exact a3k (fun z => hz (by simp only [v4] at z; grind)) (fun z => hz (by simp only [v4] at z; grind)) (fun z => hz (by simp only [v4] at z; grind)) (fun z => hz (by simp only [v4] at z; grind))
   ·intro q hq
    simp only [List.mem_cons, List.not_mem_nil, or_false] at hq
    rcases hq with rfl | rfl | rfl | rfl
    ·exact hp.mono (by first | decide | omega)
    ·exact ⟨(hp.x.add hw.x).mono (by first | decide | omega), (hp.y.add hw.y).mono (by first | decide | omega)⟩
    ·exact ⟨((hp.x.add hw.x).add hv.x).mono (by first | decide | omega), ((hp.y.add hw.y).add hv.y).mono (by first | decide | omega)⟩
    ·exact ⟨(hp.x.add hv.x).mono (by first | decide | omega), (hp.y.add hv.y).mono (by first | decide | omega)⟩
   ·intro q hq
    have hq' : q = (p, (p.1 + w.1, p.2 + w.2.1)) ∨ q = ((p.1 + w.1, p.2 + w.2.1), (p.1 + w.1 + v.1, p.2 + w.2.1 + v.2.1)) ∨ q = ((p.1 + w.1 + v.1, p.2 + w.2.1 + v.2.1), (p.1 + v.1, p.2 + v.2.1)) ∨ q = ((p.1 + v.1, p.2 + v.2.1), p) := by
     simpa [nbs] using hq
    have wx := hw.ex
    have vx := hv.ex
    rcases hq' with rfl | rfl | rfl | rfl
    ·exact ⟨w.2.2, by rw [← wx]; unfold dsq; grind⟩
    ·exact ⟨v.2.2, by rw [← vx]; unfold dsq; grind⟩
    ·exact ⟨w.2.2, by rw [← wx]; unfold dsq; grind⟩
    ·exact ⟨v.2.2, by rw [← vx]; unfold dsq; grind⟩
 ·refine ⟨f1, h1.mono (by first | decide | omega), .inl ⟨.no, ?_⟩⟩
  simp [clA, d7, t6, g6, dOp, dUn, dC, dL, dV, d8, j6, dB, i3, d5, a0, b0, i7, j9, dCB, one, l0, m6, dIf, o7, dOr, o9, t0, u4, t9, pIx, k0, n8, o0, j5, m7, o6, m9, o8, p9, dTr, u0, e1, E2, hr]
noncomputable abbrev clT (m1 m2 m3 m4 : DFn) : DM := (d7 (g6 (d5 m4 (a0 (dOp k0 (dC (.int 1)) (d5 m1 (a0 (dV 0) (a0 (dC (.int 3)) b0)))) (a0 (dOp k0 (dC (.int 1)) (d5 m1 (a0 (dV 0) (a0 (dC (.int 2)) b0)))) b0))) (d8 6)) (d7 (p9 7 8 (a0 (d5 m3 (a0 (dV 6) (a0 (i7 (a0 (dC (.int 3)) (a0 (dC (.int 1)) b0))) b0))) (a0 (d5 m3 (a0 (dV 6) (a0 (i7 (a0 (dC (.int 4)) (a0 (dC (.int 1)) b0))) b0))) b0))) (d7 (K1 9 (m6 (a0 (dV 2) (a0 (d5 m2 (a0 (dV 2) (a0 (dV 7) (a0 (i7 (a0 (dC (.int 0)) (a0 (dC (.int 1)) b0))) b0)))) (a0 (d5 m2 (a0 (dV 2) (a0 (dV 7) (a0 (dV 8) b0)))) (a0 (d5 m2 (a0 (dV 2) (a0 (i7 (a0 (dC (.int 0)) (a0 (dC (.int 1)) b0))) (a0 (dV 8) b0)))) b0)))))) (d7 (g6 (dOp pIx (l0 (m6 (a0 (i7 (a0 (dC (.int 0)) (a0 (dC (.int 1)) (a0 (dC (.int 2)) b0)))) (a0 (i7 (a0 (dC (.int 0)) (a0 (dC (.int 2)) (a0 (dC (.int 1)) b0)))) (a0 (i7 (a0 (dC (.int 0)) (a0 (dC (.int 2)) (a0 (dC (.int 1)) (a0 (dC (.int 3)) b0))))) (a0 (i7 (a0 (dC (.int 0)) (a0 (dC (.int 1)) (a0 (dC (.int 3)) (a0 (dC (.int 2)) b0))))) (a0 (i7 (a0 (dC (.int 3)) (a0 (dC (.int 1)) (a0 (dC (.int 0)) b0)))) b0))))))) (d5 m1 (a0 (dV 0) (a0 (dC (.int 5)) b0)))) (d8 10)) (i3 (i7 (a0 (dC (.bl true)) (a0 (dCB (one C7) (a0 (l0 (a1k [9] (B5 [9] (C1 (dV 10)) w6 (dOp pIx (dL 1) (dL 0))))) b0)) b0))))))))
theorem b3E {i j : Nat} {f : DA} {s s1 s2 : DS} {a b : D} (h : f s = some ([a, b], s1)) (e : { s1 with sl := (s1.sl.set i (.val a)).set j (.val b) } = s2) : p9 i j f s = some (.next, s2) := by
 unfold p9
 rw [h, ← e]
 rfl
theorem b1g {i : Nat} {f : DA} {s s1 s2 : DS} {ds : List D} (h : f s = some (ds, s1)) (hi : i < s1.sl.length) (e : { s1 with sl := s1.sl.set i (.own ds) } = s2) : K1 i f s = some (.next, s2) := by
 unfold K1
 rw [h, Option.bind_some, if_pos hi, ← e]
theorem b2k {f : DA} {s s1 : DS} {ds : List D} (h : f s = some (ds, s1)) (hz : ds.length ≤ sizeLine) : m6 f s = some (ds, s1) := by
 unfold m6
 rw [h, Option.bind_some, if_pos hz]
theorem b0x {m1 m2 m3 m4 : DFn} {f f4 f5 f6 : FS} {r1 r2 r3 : Int} {p sc x y a b c : D} {J Z : List D} {w x3 : Sl}
  (e4 : m1 [.feed, .int 3] (some f) = some (.int r1, some f4)) (e5 : m1 [.feed, .int 2] (some f4) = some (.int r2, some f5)) (ef : m4 [.int (1 + r1), .int (1 + r2)] (some f5) = some (sc, some f5))
  (q3 : m3 [sc, .tup [.int 3, .int 1]] (some f5) = some (x, some f5)) (q4 : m3 [sc, .tup [.int 4, .int 1]] (some f5) = some (y, some f5))
  (g1 : m2 [p, x, .tup [.int 0, .int 1]] (some f5) = some (a, some f5)) (g2 : m2 [p, x, y] (some f5) = some (b, some f5)) (g3 : m2 [p, .tup [.int 0, .int 1], y] (some f5) = some (c, some f5))
  (e6 : m1 [.feed, .int 5] (some f5) = some (.int r3, some f6)) (eo : atI [D.tup [.int 0, .int 1, .int 2], .tup [.int 0, .int 2, .int 1], .tup [.int 0, .int 2, .int 1, .int 3], .tup [.int 0, .int 1, .int 3, .int 2], .tup [.int 3, .int 1, .int 0]] r3 = some (.tup J)) (ol : J.length ≤ sizeLine)
  (oc : A9 (fun d => some [.val d, .val (.lst [p, a, b, c])]) w6 (dOp pIx (dL 1) (dL 0)) J (some f6) = some (Z, some f6)) :
  clT m1 m2 m3 m4 ⟨[.val .feed, w, .val p, x3, .no, .no, .no, .no, .no, .no, .no], some f⟩ = some (.ret (.tup [.bl true, .tup Z]), ⟨[.val .feed, w, .val p, x3, .no, .no, .val sc, .val x, .val y, .val (.lst [p, a, b, c]), .val (.tup J)], some f6⟩) := by
 unfold clT
 rw [j7 (s1 := ⟨[.val .feed, w, .val p, x3, .no, .no, .val sc, .no, .no, .no, .no], some f5⟩) (u6 (B0 (n0 (e8 rfl (B0 rfl e4) rfl) (n0 (e8 rfl (B0 rfl e5) rfl) rfl)) ef) rfl),
  j7 (s1 := ⟨[.val .feed, w, .val p, x3, .no, .no, .val sc, .val x, .val y, .no, .no], some f5⟩) (b3E (n0 (B0 rfl q3) (n0 (B0 rfl q4) rfl)) rfl),
  j7 (s1 := ⟨[.val .feed, w, .val p, x3, .no, .no, .val sc, .val x, .val y, .own [p, a, b, c], .no], some f5⟩) (b1g (b2k (ds := [p, a, b, c]) (s1 := ⟨[.val .feed, w, .val p, x3, .no, .no, .val sc, .val x, .val y, .no, .no], some f5⟩) (n0 rfl (n0 (B0 rfl g1) (n0 (B0 rfl g2) (n0 (B0 rfl g3) rfl)))) (show 4 ≤ sizeLine by decide)) (show 9 < 11 by decide) rfl),
  j7 (s1 := ⟨[.val .feed, w, .val p, x3, .no, .no, .val sc, .val x, .val y, .own [p, a, b, c], .val (.tup J)], some f6⟩) (u6 (e8 (s1 := ⟨[.val .feed, w, .val p, x3, .no, .no, .val sc, .val x, .val y, .own [p, a, b, c], .no], some f5⟩) rfl (B0 rfl e6) (a03 eo)) rfl)]
 refine A8 ?_
 simp [d7, t6, g6, dOp, dUn, dC, dL, dV, d8, j6, dB, i3, d5, a0, b0, i7, j9, dCB, one, l0, m6, dIf, o7, dOr, o9, t0, u4, t9, pIx, k0, n8, o0, j5, m7, o6, m9, o8, p9, dTr, u0, a1k, a0G, a1j, B5, C1, ol, C6, Q1, oc, C7, sz2]
theorem b0j {n : Nat} {f : FS} (h : Fd n f) (hn : n < 2 ^ 26) : ∃ ps f', LCl [.feed] (some f) = some (.tup [.bl true, .tup (ps.map pt)], some f') ∧ LnS true ps ∧ Fd (n + 100) f' := by
 obtain ⟨w, f1, e1, hw, h1⟩ := way h (by first | decide | omega)
 obtain ⟨p, f2, e2, hp, h2⟩ := a3Q h1 (by first | decide | omega)
 obtain ⟨f3, h3, hA⟩ := a9U w p hw hp h2 (by first | decide | omega)
 have pre : ∀ rest : DM, d7 (g6 (d5 LWy (a0 (dV 0) b0)) (d8 1)) (d7 (g6 (d5 LPl (a0 (dV 0) b0)) (d8 2)) (d7 clA rest)) ⟨[.val .feed, .no, .no, .no, .no, .no, .no, .no, .no, .no, .no], some f⟩ = d7 clA rest ⟨[.val .feed, .val (p8 w), .val (pt p), .no, .no, .no, .no, .no, .no, .no, .no], some f2⟩ := fun rest => by
  rw [j7 (s1 := ⟨[.val .feed, .val (p8 w), .no, .no, .no, .no, .no, .no, .no, .no, .no], some f1⟩) (u6 (D7 rfl e1) rfl), j7 (s1 := ⟨[.val .feed, .val (p8 w), .val (pt p), .no, .no, .no, .no, .no, .no, .no, .no], some f2⟩) (u6 (D7 rfl e2) rfl)]
 rcases hA with ⟨x3, e3⟩ | ⟨ps, sl, e3, hl⟩
 ·obtain ⟨r1, f4, e4, a1, a2, h4⟩ := D0 3 h3
  obtain ⟨r2, f5, e5, b1, b2, h5⟩ := D0 2 h4
  have bd : Bd 4 (1 + r2) := Y7 (by first | decide | omega)
  have ef := L6 (1 + r1) (1 + r2) (some f5) (by first | decide | omega) bd (by first | decide | omega)
  have ss : Sz 4 (Rat.divInt (1 + r1) (1 + r2)) := Sz.of_divInt (by first | decide | omega) (by first | decide | omega) (by first | decide | omega)
  have sp : (0 : Rat) < Rat.divInt (1 + r1) (1 + r2) := by
   rw [Rat.divInt_eq_div, Rat.div_def]
   exact Rat.mul_pos (Rat.intCast_pos.mpr (by first | decide | omega)) (Rat.inv_pos.mpr (Rat.intCast_pos.mpr (by first | decide | omega)))
  generalize Rat.divInt (1 + r1) (1 + r2) = sc at *
  have S3 : Sz 4 ((3 : Int) : Rat) := Sz.int (Y7 (by decide)) (by first | decide | omega)
  have S4 : Sz 4 ((4 : Int) : Rat) := Sz.int (Y7 (by decide)) (by first | decide | omega)
  have q3 := L0 sc _ (some f5) ss S3 (by first | decide | omega)
  have q4 := L0 sc _ (some f5) ss S4 (by first | decide | omega)
  rw [← b4e] at q3 q4
  have sx : Sz 8 (sc * ((3 : Int) : Rat)) := (ss.mul S3).mono (by first | decide | omega)
  have sy : Sz 8 (sc * ((4 : Int) : Rat)) := (ss.mul S4).mono (by first | decide | omega)
  have xy : sc * ((3 : Int) : Rat) * (sc * ((4 : Int) : Rat)) ≠ 0 := by
   have : (0 : Rat) < sc * ((3 : Int) : Rat) * (sc * ((4 : Int) : Rat)) := Rat.mul_pos (Rat.mul_pos sp (Rat.intCast_pos.mpr (by decide))) (Rat.mul_pos sp (Rat.intCast_pos.mpr (by decide)))
   intro z; rw [z] at this; exact absurd this Rat.lt_irrefl
  have hex : ∃ r : Rat, sc * ((3 : Int) : Rat) * (sc * ((3 : Int) : Rat)) + sc * ((4 : Int) : Rat) * (sc * ((4 : Int) : Rat)) = r * r := by
   refine ⟨sc * ((5 : Int) : Rat), ?_⟩
   have e3 : ((3 : Int) : Rat) = 3 := rfl
   have e4 : ((4 : Int) : Rat) = 4 := rfl
   have e5 : ((5 : Int) : Rat) = 5 := rfl
   rw [e3, e4, e5]
   grind
  generalize sc * ((3 : Int) : Rat) = x at *
  generalize sc * ((4 : Int) : Rat) = y at *
  have S0 : Sz 4 (0 : Rat) := Sz.lit (by decide)
  have g1 := U5 p x 0 (some f5) hp.x hp.y sx S0 (by first | decide | omega)
  have g2 := U5 p x y (some f5) hp.x hp.y sx sy (by first | decide | omega)
  have g3 := U5 p 0 y (some f5) hp.x hp.y S0 sy (by first | decide | omega)
  have z0 : fr 0 = D.tup [.int 0, .int 1] := rfl
  rw [z0] at g1 g3
  obtain ⟨r3, f6, e6, c1, c2, h6⟩ := D0 5 h5
  obtain ⟨o, ho, eo⟩ := b1n c1 c2
  obtain ⟨l1, l2, l3⟩ := b0d (p := p) xy ho
  have oc := a8T ho ((T8 p x y).map pt) rfl (some f6)
  rw [b1G] at oc
  have ol : (o.map D.int).length ≤ sizeLine := by
   rw [List.length_map, sizeLine_eq]
   simp only [Q5, List.mem_cons, List.not_mem_nil, or_false] at ho
   rcases ho with rfl | rfl | rfl | rfl | rfl <;> decide
  refine ⟨P5 o p x y, f6, v0 (s := ⟨[.val .feed, .val (p8 w), .val (pt p), x3, .no, .no, .val (fr sc), .val (fr x), .val (fr y), .val (.lst ((T8 p x y).map pt)), .val (.tup (o.map .int))], some f6⟩) ?_, ⟨l1, l2, by show _ ≤ 8; omega, fun q hq => ?_, a8d hex ho⟩, h6.mono (by first | decide | omega)⟩
  ·show a1e z9 LG LP LF LWy LPl ⟨[.val .feed, .no, .no, .no, .no, .no, .no, .no, .no, .no, .no], some f⟩ = _
   unfold a1e
   rw [pre, j7 e3]
   exact b0x e4 e5 ef q3 q4 g1 g2 g3 e6 eo ol oc
  ·have hq' := b2t hq
   simp only [T8, List.mem_cons, List.not_mem_nil, or_false] at hq'
   rcases hq' with rfl | rfl | rfl | rfl
   ·exact hp.mono (by first | decide | omega)
   ·exact ⟨(hp.x.add sx).mono (by first | decide | omega), (hp.y.add S0).mono (by first | decide | omega)⟩
   ·exact ⟨(hp.x.add sx).mono (by first | decide | omega), (hp.y.add sy).mono (by first | decide | omega)⟩
   ·exact ⟨(hp.x.add S0).mono (by first | decide | omega), (hp.y.add sy).mono (by first | decide | omega)⟩
 ·refine ⟨ps, f3, v0 (s := ⟨sl, some f3⟩) ?_, hl, h3.mono (by first | decide | omega)⟩
  show a1e z9 LG LP LF LWy LPl ⟨[.val .feed, .no, .no, .no, .no, .no, .no, .no, .no, .no, .no], some f⟩ = _
  unfold a1e
  rw [pre]
  exact K9 e3
noncomputable abbrev LLn : DFn := a3m z9 LCl LOp
theorem b3G {n : Nat} {f : FS} (most : Int) (hm : 2 ≤ most ∧ most ≤ 9) (h : Fd n f) (hn : n < 2 ^ 25) : ∃ c ps f', LLn [.feed, .int most] (some f) = some (.tup [.bl c, .tup (ps.map pt)], some f') ∧ LnS c ps ∧ Fd (n + 101) f' := by
 obtain ⟨r, f1, e1, r1, r2, h1⟩ := D0 4 h
 by_cases hr : r = 0
 ·obtain ⟨ps, f2, e2, hl, h2⟩ := b0j h1 (by first | decide | omega)
  refine ⟨true, ps, f2, v0 (s := ⟨[.val .feed, .val (.int most)], some f2⟩) ?_, hl, h2.mono (by first | decide | omega)⟩
  show a2w z9 LCl LOp ⟨[.val .feed, .val (.int most)], some f⟩ = _
  exact A8 ((a3y (B4 (e8 (D7 rfl e1) rfl ((E2 r 0).trans (by rw [decide_eq_true hr]))))).trans (D7 rfl e2))
 ·obtain ⟨ps, f2, e2, hl, h2⟩ := b3w most hm h1 (by first | decide | omega)
  refine ⟨false, ps, f2, v0 (s := ⟨[.val .feed, .val (.int most)], some f2⟩) ?_, hl, h2.mono (by first | decide | omega)⟩
  show a2w z9 LCl LOp ⟨[.val .feed, .val (.int most)], some f⟩ = _
  exact A8 ((a4A (B4 (e8 (D7 rfl e1) rfl ((E2 r 0).trans (by rw [decide_eq_false hr]))))).trans (D7 rfl e2))
end T

namespace T
open PySem L2 DL
theorem a89 (r : Rat) : (r * r).num = r.num * r.num ∧ ((r * r).den : Int) = r.den * r.den := by
 have hd : (0 : Int) < r.den * r.den := Int.mul_pos (den_pos r) (den_pos r)
 have g : Int.gcd (r.num * r.num) ((r.den : Int) * r.den) = 1 := by
  have hc : Nat.Coprime r.num.natAbs r.den := r.reduced
  show Nat.gcd (r.num * r.num).natAbs ((r.den : Int) * r.den).natAbs = 1
  rw [Int.natAbs_mul, Int.natAbs_mul, Int.natAbs_natCast]
  exact Nat.Coprime.mul_left (Nat.Coprime.mul_right hc hc) (Nat.Coprime.mul_right hc hc)
 rw [a46, a7e hd, a3h hd, g]
 simp
theorem b0N {s : Int} (h : 0 ≤ s) : IsR s (s * s) := ⟨h, Int.le_refl _, by
 have e : (s + 1) * (s + 1) = s * s + 2 * s + 1 := by grind
 omega⟩
theorem a6q {s : Int} (h : 0 ≤ s) : isq (s * s) = s := a3P (V8 (Int.mul_nonneg h h)) (b0N h)
theorem a7d (n : Int) : isq (n * n) * isq (n * n) = n * n := by
 rcases Int.le_total 0 n with h | h
 ·rw [a6q h]
 ·have e : n * n = (-n) * (-n) := by grind
  rw [e, a6q (by first | decide | omega)]
theorem b3i {q r : Rat} (h : q = r * r) : T6 (rtD q) = false := by
 obtain ⟨h1, h2⟩ := a89 r
 unfold rtD Q4
 rw [h, h1, h2, if_pos ⟨a7d _, a7d _⟩]
 rfl
theorem b3W {q : Rat} (h0 : 0 ≤ q) (hs : Sz 2000 q) : Ok 1 2 (rtD q) ∧ thing (rtD q) = true := by
 obtain ⟨n1, n2⟩ := a1w hs
 obtain ⟨_, j1⟩ := a1Q (a2j h0) n1
 obtain ⟨_, j2⟩ := a1Q (show (0 : Int) ≤ q.den by omega) n2
 unfold rtD Q4
 split
 ·exact ⟨Ok.tup (OkL.cons (Ok.int (j1.mono (by decide))) (OkL.cons (Ok.int (j2.mono (by decide))) OkL.nil)), rfl⟩
 ·exact ⟨Ok.non.mono (by decide) (by decide), rfl⟩
theorem a4a : ∀ ls : List D, (∀ d ∈ ls, thing d = true) → inD .non ls = ls.any T6
 | [], _ => rfl
 | d :: r, h => by
  have ih := a4a r fun x hx => h x (List.mem_cons_of_mem _ hx)
  have hd := h d (List.mem_cons_self ..)
  simp only [inD, D.pys, List.any_cons] at ih ⊢
  rw [ih]
  congr 1
  cases d with
  | feed => cases hd
  | scr _ => cases hd
  | _ => simp [D.py, PyData.eqv, T6]
theorem a6P {ls : List D} (h : ∀ d ∈ ls, thing d = true) (ho : y7 (.tup ls) = true) : pIn .non (.tup ls) = some (.bl (ls.any T6)) ∧ N7 .non (.tup ls) = some (.bl (!ls.any T6)) := by
 have h1 : y7 .non = true := rfl
 constructor
 ·simp only [pIn, V5, h1, ho, Bool.and_self, if_true, id, a4a ls h]
 ·simp only [N7, V5, h1, ho, Bool.and_self, if_true, a4a ls h]
theorem a8e (mLP mLL mPc mLe mEx : DFn) (Ln : D) (ws ls : List D) (b : Bool) (k : Int) (fs : Option FS) (s1 s2 s3 s4 : Str) (x0 x1 x4 x5 x6 : Sl)
  (h1 : mLP [Ln] fs = some (.tup ws, fs)) (h2 : ∀ x6, E1 [] (C1 (dV 5)) w6 (d5 mLL (a0 (dV 0) (a0 (dV 1) b0))) ⟨[x0, x1, .val (.int k), .val Ln, .val (.str s1), .val (.tup ws), x6], fs⟩ = some (ls, ⟨[x0, x1, .val (.int k), .val Ln, .val (.str s1), .val (.tup ws), x6], fs⟩))
  (h3 : mPc [Ln] fs = some (.tup ws, fs)) (h4 : mLe [Ln] fs = some (.tup ls, fs)) (h5 : mEx [Ln] fs = some (.bl (!b), fs)) (n1 : N7 .non (.tup ls) = some (.bl (!b))) (n2 : pIn .non (.tup ls) = some (.bl b))
  (r1 : w9 Ln = some (.str s1)) (r2 : w9 (.tup ws) = some (.str s2)) (r3 : w9 (.tup ls) = some (.str s3)) (r4 : w9 (.bl (!b)) = some (.str s4)) (hb : k.fmod 3 < 2 → b = false) :
  (d7 (g6 (dCB (one w9) (a0 (dL 3) b0)) (d8 4)) (d7 (g6 (d5 mLP (a0 (dV 3) b0)) (d8 5)) (d7 (g6 (dCB (one C7) (a0 (l0 (E1 [] (C1 (dV 5)) w6 (d5 mLL (a0 (dV 0) (a0 (dV 1) b0))))) b0)) (d8 6)) (d7 (j6 (dOr (dB (dOp pNe (dCB (one w9) (a0 (d5 mPc (a0 (dV 3) b0)) b0)) (dCB (one w9) (a0 (dL 5) b0)))) (dB (dOp pNe (dCB (one w9) (a0 (d5 mLe (a0 (dV 3) b0)) b0)) (dCB (one w9) (a0 (dL 6) b0))))) (i3 (dC (.bl false))) j9) (j6 (dOr (dB (dOp pNe (dCB (one w9) (a0 (d5 mEx (a0 (dV 3) b0)) b0)) (dCB (one w9) (a0 (dOp N7 (dC .non) (dL 6)) b0)))) (dOr (o7 (dB (dOp (j5 (fun i j => decide (i < j))) (dOp A5 (dL 2) (dC (.int 3))) (dC (.int 2)))) (dB (dOp pIn (dC .non) (dL 6)))) (dB (dOp pNe (dCB (one w9) (a0 (dL 3) b0)) (dL 4))))) (i3 (dC (.bl false))) j9)))))
   ⟨[x0, x1, .val (.int k), .val Ln, x4, x5, x6], fs⟩ = some (.next, ⟨[x0, x1, .val (.int k), .val Ln, .val (.str s1), .val (.tup ws), .val (.tup ls)], fs⟩) := by
 rw [j7 (s1 := ⟨[x0, x1, .val (.int k), .val Ln, .val (.str s1), x5, x6], fs⟩) (u6 (D8 rfl r1) rfl)]
 rw [j7 (s1 := ⟨[x0, x1, .val (.int k), .val Ln, .val (.str s1), .val (.tup ws), x6], fs⟩) (u6 (w4 rfl h1) rfl)]
 rw [j7 (s1 := ⟨[x0, x1, .val (.int k), .val Ln, .val (.str s1), .val (.tup ws), .val (.tup ls)], fs⟩) (u6 (D8 (p := C7) (P4 (h2 x6)) rfl) rfl)]
 have z1 := a1X s1
 have z2 := a1X s2
 have z3 := a1X s3
 have z4 := a1X s4
 have mm : A5 (.int k) (.int 3) = some (.int (k.fmod 3)) := by simp [A5]
 rw [j7 (s1 := ⟨[x0, x1, .val (.int k), .val Ln, .val (.str s1), .val (.tup ws), .val (.tup ls)], fs⟩) (N8 (N6 (B4 (e8 (D8 (w4 rfl h3) r2) (D8 rfl r2) z2)) (B4 (e8 (D8 (w4 rfl h4) r3) (D8 rfl r3) z3))))]
 refine N8 (N6 (B4 (e8 (D8 (w4 rfl h5) r4) (D8 (e8 rfl rfl n1) r4) z4)) (N6 (s1 := ⟨[x0, x1, .val (.int k), .val Ln, .val (.str s1), .val (.tup ws), .val (.tup ls)], fs⟩) ?_ (B4 (e8 (s1 := ⟨[x0, x1, .val (.int k), .val Ln, .val (.str s1), .val (.tup ws), .val (.tup ls)], fs⟩) (D8 rfl r1) rfl z1))))
 by_cases hk : k.fmod 3 < 2
 ·rw [hb hk] at n2
  exact a5b (B4 (e8 (e8 rfl rfl mm) rfl (congrArg (fun z => some (D.bl z)) (decide_eq_true hk)))) (B4 (e8 rfl rfl n2))
 ·exact a65 (B4 (e8 (e8 rfl rfl mm) rfl (congrArg (fun z => some (D.bl z)) (decide_eq_false hk))))
theorem b0A {n : Nat} : ∀ (m : Nat) (lo : Nat) {f : FS}, Fd n f → n + 8 * m < 2 ^ 27 → ∀ us : List D, us.length = m → ∃ (ps : List Pt) (f' : FS), A9 (fun d => some (.val d :: [.val .feed])) w6 (d5 LPl (a0 (dV 1) b0)) us (some f) = some (ps.map pt, some f') ∧ ps.length = m ∧ (∀ p ∈ ps, PtS 5 p) ∧ Fd (n + 8 * m) f' := by
 intro m
 induction m generalizing n with
 | zero =>
  intro lo f h hn us hu
  have : us = [] := List.eq_nil_of_length_eq_zero hu
  subst this
  exact ⟨[], f, rfl, rfl, fun p hp => (by cases hp), h.mono (by first | decide | omega)⟩
 | succ m ih =>
  intro lo f h hn us hu
  match us, hu with
  | d :: r, hu =>
   obtain ⟨a, f1, e1, s1, h1⟩ := a3Q h (by first | decide | omega)
   obtain ⟨ps, f2, e2, l2, s2, h2⟩ := ih (n := n + 8) lo h1 (by first | decide | omega) r (by simpa using hu)
   refine ⟨a :: ps, f2, ?_, by simp [l2], fun p hp => ?_, h2.mono (by first | decide | omega)⟩
   ·have el : d5 LPl (a0 (dV 1) b0) ⟨[.val d, .val .feed], some f⟩ = some (pt a, ⟨[.val d, .val .feed], some f1⟩) := D7 rfl e1
    rw [A9, Option.bind_some, show w6 ⟨[.val d, .val .feed], some f⟩ = some (true, ⟨[.val d, .val .feed], some f⟩) from rfl, Option.bind_some, if_pos rfl, el, Option.bind_some, e2]
    rfl
   ·rcases List.mem_cons.mp hp with z | z
    ·subst z; exact s1
    ·exact s2 p z
end T

namespace T
open PySem L2 DL
noncomputable abbrev FEx : DFn := a3e FLg
noncomputable def Lv (c : Bool) (ps : List Pt) : D := .tup [.bl c, .tup (ps.map pt)]
theorem a6x : ∀ ps : List Pt, bks (ps.map pt) = 4 * ps.length
 | [] => rfl
 | p :: r => by rw [List.map_cons, a05, a8O, a6x r, List.length_cons]; omega
theorem b2L (c : Bool) (ps : List Pt) : bk (Lv c ps) = 4 * ps.length + 2 := by
 unfold Lv
 rw [X3, a05, a05, a7L, b0y, X3, a6x]; omega
theorem b0q {c : Bool} {ps : List Pt} (h : ∀ p ∈ ps, PtS 200 p) : Th 400 3 (Lv c ps) := by
 have hp : Th 400 2 (.tup (ps.map pt)) := by
  unfold Th
  exact Ths.of fun d hd => by
   obtain ⟨p, hp, rfl⟩ := List.mem_map.mp hd
   exact b2q (Ps.of (h p hp).1 (h p hp).2) (by decide)
 unfold Lv
 have hb : Th 400 2 (.bl c) := by unfold Th; trivial
 unfold Th
 exact Ths.of fun d hd => by
  simp only [List.mem_cons, List.not_mem_nil, or_false] at hd
  rcases hd with rfl | rfl
  ·exact hb
  ·exact hp
theorem b3M {f : DA} {fe : DE} {s : DS} {U R : List D} {idx : List Nat} (h : f s = some (U, s)) (hz : U.length ≤ sizeLine) (cm : A9 (mk2 idx s.sl) w6 fe U s.fs = some (R, s.fs)) : E1 idx f w6 fe s = some (R, s) := by
 unfold E1
 rw [h, Option.bind_some]
 simp only [if_pos hz, cm, Option.map_some]
theorem a2Z {c : Bool} {ps : List Pt} (h : ∀ p ∈ ps, PtS 200 p) : ∀ d ∈ E4 c ps, Ok 1 2 d ∧ thing d = true := by
 intro d hd
 unfold E4 at hd
 obtain ⟨p, hp, rfl⟩ := List.mem_map.mp hd
 obtain ⟨m1, m2⟩ := P2 hp
 exact b3W (a4f _ _) ((a4L (h _ m1) (h _ m2)).mono (by decide))
theorem a4B {c : Bool} {ps : List Pt} (h : ∀ p ∈ ps, PtS 200 p) (hl : ps.length ≤ 9) : Ok 2 27 (.tup (E4 c ps)) := by
 have h1 := Ok.tup (OkL.all (k := 1) (n := 2) (ds := E4 c ps) fun d hd => (a2Z h d hd).1)
 have h2 : (E4 c ps).length ≤ 9 := by
  unfold E4
  rw [List.length_map]; have := V3 c ps; omega
 exact h1.mono (by decide) (by first | decide | omega)
theorem b0k {c : Bool} {ps : List Pt} (h : ∀ q ∈ nbs c ps, ∃ r : Rat, dsq q.1 q.2 = r * r) : (E4 c ps).any T6 = false := by
 rw [List.any_eq_false]
 intro d hd
 unfold E4 at hd
 obtain ⟨p, hp, rfl⟩ := List.mem_map.mp hd
 obtain ⟨r, hr⟩ := h p hp
 rw [b3i hr]; simp
theorem b0h (ps : List Pt) (c : Bool) (fs : Option FS) (hp : ∀ p ∈ ps, PtS 200 p) (hl : ps.length ≤ 9) : FEx [Lv c ps] fs = some (.bl (!(E4 c ps).any T6), fs) := by
 refine v0 (s := ⟨[.val (Lv c ps)], fs⟩) ?_
 show a7m FLg ⟨[.val (Lv c ps)], fs⟩ = _
 have e : FLg [Lv c ps] fs = some (.tup (E4 c ps), fs) := a6n ps c fs hp hl
 have n := (a6P (fun d hd => (a2Z (c := c) hp d hd).2) ((a4B (c := c) hp hl).eq)).2
 exact A8 (e8 rfl (w4 rfl e) n)
theorem a7T {c : Bool} {ps : List Pt} (h : ∀ p ∈ ps, PtS 200 p) (hl : ps.length ≤ 9) : Ok 3 81 (.tup ((nbs c (ps.map pt)).map pr2)) := by
 have h1 := Ok.tup (OkL.all (k := 2) (n := 8) (ds := (nbs c (ps.map pt)).map pr2) fun d hd => by
  obtain ⟨q, hq, rfl⟩ := List.mem_map.mp hd
  rw [O5] at hq
  obtain ⟨p, hp, rfl⟩ := List.mem_map.mp hq
  obtain ⟨m1, m2⟩ := P2 hp
  have o1 := Ok.pt (Ps.of (h _ m1).1 (h _ m1).2) (by decide)
  have o2 := Ok.pt (Ps.of (h _ m2).1 (h _ m2).2) (by decide)
  exact (Ok.tup (OkL.cons o1 (OkL.cons o2 OkL.nil))).mono (by decide) (by decide))
 have h2 : ((nbs c (ps.map pt)).map pr2).length ≤ 9 := by
  rw [List.length_map]
  have := V3 c (ps.map pt)
  rw [List.length_map] at this; omega
 exact h1.mono (by decide) (by first | decide | omega)
theorem a94 {c : Bool} {ps : List Pt} (h : ∀ p ∈ ps, PtS 200 p) (hl : ps.length ≤ 9) : Ok 3 100 (Lv c ps) := by
 have h1 := Ok.tup (OkL.all (k := 1) (n := 3) (ds := ps.map pt) fun d hd => by
  obtain ⟨p, hp, rfl⟩ := List.mem_map.mp hd
  exact Ok.pt (Ps.of (h _ hp).1 (h _ hp).2) (by decide))
 have h2 : Ok 2 36 (.tup (ps.map pt)) := h1.mono (by decide) (by rw [List.length_map]; omega)
 exact (Ok.tup (OkL.cons (Ok.bl c) (OkL.cons h2 OkL.nil))).mono (by decide) (by decide)
theorem b2h (ps : List Pt) (c : Bool) (x0 x1 x2 x3 x4 x6 : Sl) (fs : Option FS) (hp : ∀ p ∈ ps, PtS 200 p) (hl : ps.length ≤ 9) :
  E1 [] (C1 (dV 5)) w6 (d5 LLg (a0 (dV 0) (a0 (dV 1) b0))) ⟨[x0, x1, x2, x3, x4, .val (.tup ((nbs c (ps.map pt)).map pr2)), x6], fs⟩ = some (E4 c ps, ⟨[x0, x1, x2, x3, x4, .val (.tup ((nbs c (ps.map pt)).map pr2)), x6], fs⟩) := by
 obtain ⟨hl2, _⟩ := a3x (c := c) hl
 have cm := a1v (idx := []) (sl := [x0, x1, x2, x3, x4, .val (.tup ((nbs c (ps.map pt)).map pr2)), x6]) (fe := d5 LLg (a0 (dV 0) (a0 (dV 1) b0))) (g := fun q => rtD (dsq (B9 q.1) (B9 q.2))) fs (nbs c (ps.map pt)) (by
  intro q hq
  rw [O5] at hq
  obtain ⟨p, hp', rfl⟩ := List.mem_map.mp hq
  obtain ⟨m1, m2⟩ := P2 hp'
  have ll := a8E p.1 p.2 fs (hp _ m1) (hp _ m2)
  refine ⟨⟨.val (pt p.1) :: .val (pt p.2) :: C6 [] [x0, x1, x2, x3, x4, .val (.tup ((nbs c (ps.map pt)).map pr2)), x6], fs⟩, ?_, rfl⟩
  simp only [a0j]
  exact w4 (n0 rfl (n0 rfl rfl)) ll)
 have al : (nbs c (ps.map pt)).map (fun q => rtD (dsq (B9 q.1) (B9 q.2))) = E4 c ps := by
  unfold E4
  rw [O5, List.map_map]
  exact List.map_congr_left fun p _ => by simp [a0j]
 rw [al] at cm
 exact b3M (s := ⟨[x0, x1, x2, x3, x4, .val (.tup ((nbs c (ps.map pt)).map pr2)), x6], fs⟩) rfl hl2 cm
theorem a9z (ps : List Pt) (c : Bool) (k : Int) (x0 x4 x5 x6 : Sl) (fs : Option FS) (hp : ∀ p ∈ ps, PtS 200 p) (h1 : 1 ≤ ps.length) (hl : ps.length ≤ 9) (hx : k.fmod 3 < 2 → ∀ q ∈ nbs c ps, ∃ r : Rat, dsq q.1 q.2 = r * r) (inr : DM)
  (hi : ∀ (s1 s2 s3 s4 : Str) (ws ls : List D) (b : Bool), Q2 [Lv c ps] fs = some (.tup ws, fs) → (∀ x6, E1 [] (C1 (dV 5)) w6 (d5 LLg (a0 (dV 0) (a0 (dV 1) b0))) ⟨[x0, .val .feed, .val (.int k), .val (Lv c ps), .val (.str s1), .val (.tup ws), x6], fs⟩ = some (ls, ⟨[x0, .val .feed, .val (.int k), .val (Lv c ps), .val (.str s1), .val (.tup ws), x6], fs⟩)) →
   FPc [Lv c ps] fs = some (.tup ws, fs) → FLg [Lv c ps] fs = some (.tup ls, fs) → FEx [Lv c ps] fs = some (.bl (!b), fs) → N7 .non (.tup ls) = some (.bl (!b)) → pIn .non (.tup ls) = some (.bl b) → w9 (Lv c ps) = some (.str s1) → w9 (.tup ws) = some (.str s2) → w9 (.tup ls) = some (.str s3) → w9 (.bl (!b)) = some (.str s4) → (k.fmod 3 < 2 → b = false) →
   inr ⟨[x0, .val .feed, .val (.int k), .val (Lv c ps), x4, x5, x6], fs⟩ = some (.next, ⟨[x0, .val .feed, .val (.int k), .val (Lv c ps), .val (.str s1), .val (.tup ws), .val (.tup ls)], fs⟩)) :
  ∃ y4 y5 y6, j6 (dTr (d5 FLn (a0 (dV 3) b0))) inr j9 ⟨[x0, .val .feed, .val (.int k), .val (Lv c ps), x4, x5, x6], fs⟩ = some (.next, ⟨[x0, .val .feed, .val (.int k), .val (Lv c ps), y4, y5, y6], fs⟩) := by
 have pl := b3T (Lv c ps) fs (b0q hp) (by decide) (by rw [b2L]; omega)
 cases hb : M5 (Lv c ps)
 ·refine ⟨x4, x5, x6, ?_⟩
  rw [hb] at pl
  exact V1 (s1 := ⟨[x0, .val .feed, .val (.int k), .val (Lv c ps), x4, x5, x6], fs⟩) (a2c (w4 rfl pl))
 ·rw [hb] at pl
  obtain ⟨n2, n1⟩ := a6P (fun d hd => (a2Z hp d hd).2) ((a4B (c := c) hp hl).eq)
  have hlm : 1 ≤ (ps.map pt).length ∧ (ps.map pt).length ≤ 9 := by rw [List.length_map]; exact ⟨h1, hl⟩
  have hz := (a3x (c := c) hl).2
  have e := hi _ _ _ _ _ _ _ (a9w (ps.map pt) c fs hlm.1 hlm.2) (fun x6 => b2h ps c x0 (.val .feed) (.val (.int k)) (.val (Lv c ps)) _ x6 fs hp hl) (a2f (ps.map pt) c fs hz) (a6n ps c fs hp hl) (b0h ps c fs hp hl) n1 n2 (a94 hp hl).repr (a7T hp hl).repr (a4B hp hl).repr (a5C (a90 _)) (fun z => b0k (hx z))
  exact ⟨_, _, _, by
   rw [J7 (s1 := ⟨[x0, .val .feed, .val (.int k), .val (Lv c ps), x4, x5, x6], fs⟩) (a2c (w4 rfl pl))]
   exact e⟩
end T

namespace T
open PySem L2 DL
noncomputable abbrev C06 : DM := W3 FLn FEx FLg FPc LLg Q2 z9 LPl LLn a0Q
noncomputable abbrev a5T : DM := (d7 (g6 (dCB (one w9) (a0 (dL 3) b0)) (d8 4)) (d7 (g6 (d5 Q2 (a0 (dV 3) b0)) (d8 5)) (d7 (g6 (dCB (one C7) (a0 (l0 (E1 [] (C1 (dV 5)) w6 (d5 LLg (a0 (dV 0) (a0 (dV 1) b0))))) b0)) (d8 6)) (d7 (j6 (dOr (dB (dOp pNe (dCB (one w9) (a0 (d5 FPc (a0 (dV 3) b0)) b0)) (dCB (one w9) (a0 (dL 5) b0)))) (dB (dOp pNe (dCB (one w9) (a0 (d5 FLg (a0 (dV 3) b0)) b0)) (dCB (one w9) (a0 (dL 6) b0))))) (i3 (dC (.bl false))) j9) (j6 (dOr (dB (dOp pNe (dCB (one w9) (a0 (d5 FEx (a0 (dV 3) b0)) b0)) (dCB (one w9) (a0 (dOp N7 (dC .non) (dL 6)) b0)))) (dOr (o7 (dB (dOp (j5 (fun i j => decide (i < j))) (dOp A5 (dL 2) (dC (.int 3))) (dC (.int 2)))) (dB (dOp pIn (dC .non) (dL 6)))) (dB (dOp pNe (dCB (one w9) (a0 (dL 3) b0)) (dL 4))))) (i3 (dC (.bl false))) j9)))))
theorem a7t (ps : List Pt) (c : Bool) (k : Int) (x0 x4 x5 x6 : Sl) (fs : Option FS) (hp : ∀ p ∈ ps, PtS 200 p) (h1 : 1 ≤ ps.length) (hl : ps.length ≤ 9) (hx : k.fmod 3 < 2 → ∀ q ∈ nbs c ps, ∃ r : Rat, dsq q.1 q.2 = r * r) :
  ∃ y4 y5 y6, j6 (dTr (d5 FLn (a0 (dV 3) b0))) a5T j9 ⟨[x0, .val .feed, .val (.int k), .val (Lv c ps), x4, x5, x6], fs⟩ = some (.next, ⟨[x0, .val .feed, .val (.int k), .val (Lv c ps), y4, y5, y6], fs⟩) :=
 a9z ps c k x0 x4 x5 x6 fs hp h1 hl hx a5T fun s1 s2 s3 s4 ws ls b a1 a2 a3 a4 a5 a6 a7 a8 a9 a10 a11 a12 => a8e Q2 LLg FPc FLg FEx (Lv c ps) ws ls b k fs s1 s2 s3 s4 x0 (.val .feed) x4 x5 x6 a1 a2 a3 a4 a5 a6 a7 a8 a9 a10 a11 a12
theorem b1L {n : Nat} {f : FS} (h : Fd n f) (hn : n < 2 ^ 25) (x0 x2 x3 x4 x5 x6 : Sl) :
  ∃ ps f', g6 (i7 (a0 (dC (.bl false)) (a0 (dCB (one C7) (a0 (l0 (B5 [1] (M6 (a0 (dOp k0 (dC (.int 2)) (d5 z9 (a0 (dV 1) (a0 (dC (.int 5)) b0)))) b0)) w6 (d5 LPl (a0 (dV 1) b0)))) b0)) b0))) (d8 3) ⟨[x0, .val .feed, x2, x3, x4, x5, x6], some f⟩ =
   some (.next, ⟨[x0, .val .feed, x2, .val (Lv false ps), x4, x5, x6], some f'⟩) ∧ 1 ≤ ps.length ∧ ps.length ≤ 9 ∧ (∀ p ∈ ps, PtS 200 p) ∧ Fd (n + 100) f' := by
 obtain ⟨r, f1, e1, r1, r2, h1⟩ := D0 5 h
 obtain ⟨m, hm⟩ : ∃ m : Nat, 2 + r = (m : Int) := ⟨(2 + r).toNat, by omega⟩
 obtain ⟨ps, f2, e2, l2, s2, h2⟩ := b0A m 0 h1 (by first | decide | omega) (ups 0 m) (by unfold ups; rw [List.length_map, List.length_range])
 have rg : J0 [.int (m : Int)] = some (ups 0 m) := a1r (by first | decide | omega)
 have hz : (ups 0 m).length ≤ sizeLine := by unfold ups; rw [List.length_map, List.length_range, sizeLine_eq]; omega
 have ha : a0 (dOp k0 (dC (.int 2)) (d5 z9 (a0 (dV 1) (a0 (dC (.int 5)) b0)))) b0 ⟨[x0, .val .feed, x2, x3, x4, x5, x6], some f⟩ = some ([.int (m : Int)], ⟨[x0, .val .feed, x2, x3, x4, x5, x6], some f1⟩) := by
  rw [← hm]
  exact n0 (e8 rfl (D7 rfl e1) rfl) rfl
 have hr : M6 (a0 (dOp k0 (dC (.int 2)) (d5 z9 (a0 (dV 1) (a0 (dC (.int 5)) b0)))) b0) ⟨[x0, .val .feed, x2, x3, x4, x5, x6], some f⟩ = some (ups 0 m, ⟨[x0, .val .feed, x2, x3, x4, x5, x6], some f1⟩) := by
  unfold M6
  rw [ha, Option.bind_some]
  show (J0 [.int (m : Int)]).map _ = _
  rw [rg]
  rfl
 have hc : B5 [1] (M6 (a0 (dOp k0 (dC (.int 2)) (d5 z9 (a0 (dV 1) (a0 (dC (.int 5)) b0)))) b0)) w6 (d5 LPl (a0 (dV 1) b0)) ⟨[x0, .val .feed, x2, x3, x4, x5, x6], some f⟩ = some (ps.map pt, ⟨[x0, .val .feed, x2, x3, x4, x5, x6], some f2⟩) := by
  unfold B5
  rw [hr, Option.bind_some]
  simp only [if_pos hz]
  have cp : C6 [1] [x0, Sl.val .feed, x2, x3, x4, x5, x6] = [.val .feed] := rfl
  rw [cp, e2]
  rfl
 refine ⟨ps, f2, ?_, by omega, by omega, fun p hp => (s2 p hp).mono (by decide), h2.mono (by first | decide | omega)⟩
 exact u6 (V4 rfl (D8 (P4 hc) rfl)) rfl
theorem a8t {n : Nat} {f : FS} (k : Int) (h : Fd n f) (hn : n < 2 ^ 24) (x0 x3 x4 x5 x6 : Sl) :
  ∃ y3 y4 y5 y6 f', C06 ⟨[x0, .val .feed, .val (.int k), x3, x4, x5, x6], some f⟩ = some (.next, ⟨[x0, .val .feed, .val (.int k), y3, y4, y5, y6], some f'⟩) ∧ Fd (n + 300) f' := by
 obtain ⟨c, ps, f1, e1, hl, h1⟩ := b3G 7 (by decide) h (by first | decide | omega)
 have mm : A5 (.int k) (.int 3) = some (.int (k.fmod 3)) := by simp [A5]
 have lo1 : 1 ≤ ps.length := by have := hl.lo; cases c <;> simp [lo] at this <;> omega
 have hi9 : ps.length ≤ 9 := by have := hl.hi; cases c <;> simp [hi] at this <;> omega
 have st1 : g6 (d5 LLn (a0 (dV 1) (a0 (dC (.int 7)) b0))) (d8 3) ⟨[x0, .val .feed, .val (.int k), x3, x4, x5, x6], some f⟩ = some (.next, ⟨[x0, .val .feed, .val (.int k), .val (Lv c ps), x4, x5, x6], some f1⟩) := by
  have e1' : LLn [.feed, .int 7] (some f) = some (Lv c ps, some f1) := e1
  exact u6 (D7 rfl e1') rfl
 by_cases hk : k.fmod 3 = 2
 ·obtain ⟨qs, f2, e2, l1, l2, s2, h2⟩ := b1L h1 (by first | decide | omega) x0 (.val (.int k)) (.val (Lv c ps)) x4 x5 x6
  obtain ⟨y4, y5, y6, e3⟩ := a7t qs false k x0 x4 x5 x6 (some f2) s2 l1 l2 (fun z => by omega)
  refine ⟨.val (Lv false qs), y4, y5, y6, f2, ?_, h2.mono (by first | decide | omega)⟩
  ·show W3 _ _ _ _ _ _ _ _ _ _ _ = _
   unfold W3
   rw [j7 st1, j7 (s1 := ⟨[x0, .val .feed, .val (.int k), .val (Lv false qs), x4, x5, x6], some f2⟩) (by
    rw [J7 (s1 := ⟨[x0, .val .feed, .val (.int k), .val (Lv c ps), x4, x5, x6], some f1⟩) (B4 (e8 (e8 rfl rfl mm) rfl ((E2 _ 2).trans (by rw [decide_eq_true hk]))))]
    exact e2)]
   exact e3
 ·obtain ⟨y4, y5, y6, e3⟩ := a7t ps c k x0 x4 x5 x6 (some f1) hl.sz lo1 hi9 (fun _ => hl.ex)
  refine ⟨.val (Lv c ps), y4, y5, y6, f1, ?_, h1.mono (by first | decide | omega)⟩
  ·show W3 _ _ _ _ _ _ _ _ _ _ _ = _
   unfold W3
   rw [j7 st1, j7 (s1 := ⟨[x0, .val .feed, .val (.int k), .val (Lv c ps), x4, x5, x6], some f1⟩) (by
    rw [V1 (s1 := ⟨[x0, .val .feed, .val (.int k), .val (Lv c ps), x4, x5, x6], some f1⟩) (B4 (e8 (e8 rfl rfl mm) rfl ((E2 _ 2).trans (by rw [decide_eq_false hk]))))]
    rfl)]
   exact e3
theorem math (ns : List Int) (hl : ns.length ≤ 63) : ∃ fs', a2Q FLn FEx FLg FPc LLg Q2 z9 LPl LLn a0Q [.scr ns] none = some (.bl true, fs') := by
 obtain ⟨s', e, x2, x3, x4, x5, x6, f', rfl, hf⟩ := a3l (t := d8 2) (b := C06) (fun i s => ∃ x2 x3 x4 x5 x6 f, s = ⟨[.val (.scr ns), .val .feed, x2, x3, x4, x5, x6], some f⟩ ∧ Fd (300 * i) f) (ups 0 8) 0
  ⟨[.val (.scr ns), .val .feed, .no, .no, .no, .no, .no], some ⟨ns, 0, 0, 0, 0⟩⟩ ⟨_, _, _, _, _, _, rfl, Fd.zero ns⟩ (by
   rintro i d s hd ⟨x2, x3, x4, x5, x6, f, rfl, hf⟩
   obtain ⟨rfl, hi⟩ := a3C hd
   obtain ⟨y3, y4, y5, y6, f', e, h'⟩ := a8t (0 + (i : Int)) hf (by first | decide | omega) (.val (.scr ns)) x3 x4 x5 x6
   exact ⟨_, _, rfl, .inl e, _, _, _, _, _, f', rfl, h'.mono (by first | decide | omega)⟩)
 have r8 : J0 [.int 8] = some (ups 0 8) := a1r (n := 8) (by decide)
 refine ⟨_, v0 (s := ⟨[.val (.scr ns), .val .feed, x2, x3, x4, x5, x6], some f'⟩) ?_⟩
 show a4i _ _ _ _ _ _ _ _ _ _ ⟨[.val (.scr ns), .no, .no, .no, .no, .no, .no], none⟩ = _
 unfold a4i
 rw [j7 (s1 := ⟨[.val (.scr ns), .val .feed, .no, .no, .no, .no, .no], some ⟨ns, 0, 0, 0, 0⟩⟩) (u6 (D7 rfl (a9p ns hl)) rfl)]
 rw [j7 (s1 := ⟨[.val (.scr ns), .val .feed, x2, x3, x4, x5, x6], some f'⟩) (by rw [a64 (xs := [.int 8]) rfl r8]; exact e)]
 exact A8 rfl
end T

namespace T
open PySem PySem.Spec L2 DL
noncomputable def top (i : Nat) : Stmt := PySem.Challenge.pw_widelines_k06_pieces_and_lengths.main.body.getD i (.Pass ⟨0, 0, 0, 0⟩)
noncomputable abbrev a0t : Stmt := top 28
theorem sc_law_feed : FnScope ["_law_script"] ["_law_script"] (j8 a0t) := ⟨rfl, rfl, rfl, by decide +kernel, rfl, by decide +kernel, by decide +kernel⟩
set_option maxHeartbeats 4000000 in
section
variable {P : Program} {w : World} {K : PySem.W.Frag} {mg : Str → Option Value} {base : Heap}
theorem b1e {f : Addr} {fd : FuncData} (B : Blt mg) (F : Fun K "_law_feed" "_law_feed" a0t f fd) (hm : mg "_law_feed" = some (.ref f)) (hb : Binds K fd ["_law_script"] []) : Cal P w K mg base 1 "_law_feed" ["_law_script"] (a0Q) :=
 v8 F hm hb sc_law_feed fun cdv A outer s H E g hr =>
  have nd := sc_law_feed.nd
  (m8 (t7 (b0V (pv 0))))
noncomputable abbrev a0v : Stmt := top 30
theorem sc_law_fraction : FnScope ["_law_top", "_law_bottom", "_law_one", "_law_other"] ["_law_top", "_law_bottom"] (j8 a0v) := ⟨rfl, rfl, rfl, by decide +kernel, rfl, by decide +kernel, by decide +kernel⟩
set_option maxHeartbeats 4000000 in
theorem b3N {f : Addr} {fd : FuncData} (B : Blt mg) (F : Fun K "_law_fraction" "_law_fraction" a0v f fd) (hm : mg "_law_fraction" = some (.ref f)) (hb : Binds K fd ["_law_top", "_law_bottom"] []) : Cal P w K mg base 1 "_law_fraction" ["_law_top", "_law_bottom"] (B6) :=
 v8 F hm hb sc_law_fraction fun cdv A outer s H E g hr =>
  have nd := sc_law_fraction.nd
  (j4 (n9 (i := 2) nd rfl (by first | exact Or.inl rfl | exact Or.inr rfl) (C3 a2r a2m (by rfl) B.abs a1D (bc (d6 (pv 0)) y8))) (j4 (n9 (i := 3) nd rfl (by first | exact Or.inl rfl | exact Or.inr rfl) (C3 a2r a2m (by rfl) B.abs a1D (bc (d6 (pv 1)) y8))) (j4 (Z4 PassesOwn.never (w8 R0 (C5 (fun i j => decide (j < i))) (d6 (pv 3)) (EO.b d0) (v6 _)) (m8 (a3K (i := 2) (j := 3) rfl nd rfl rfl (by decide) rfl rfl (ac (i0 (pv 3)) (ac (j3 L1 L8 (d6 (pv 2)) (d6 (pv 3))) g9)) rfl))) (j4 (B2 (w8 P1 (C5 (fun i j => decide (i < j))) (d6 (pv 1)) (EO.b d0) (v6 _)) (m8 (n9 (i := 2) nd rfl (by first | exact Or.inl rfl | exact Or.inr rfl) (j3 G8 G4 (EO.b d0) (d6 (pv 2))))) B3) (m8 (t7 (A1 (ac (j3 E8 G1 (d6 (pv 0)) (d6 (pv 2))) (ac (j3 E8 G1 (d6 (pv 1)) (d6 (pv 2))) g9)))))))))
noncomputable abbrev Z7 : Stmt := top 29
theorem sc_law_draw : FnScope ["_law_feed_here", "_law_many", "_law_count", "_law_digit", "_law_cells", "_law_cell", "_law_mixed"] ["_law_feed_here", "_law_many"] (j8 Z7) := ⟨rfl, rfl, rfl, by decide +kernel, rfl, by decide +kernel, by decide +kernel⟩
set_option maxHeartbeats 4000000 in
theorem a9r {f : Addr} {fd : FuncData} (B : Blt mg) (F : Fun K "_law_draw" "_law_draw" Z7 f fd) (hm : mg "_law_draw" = some (.ref f)) (hb : Binds K fd ["_law_feed_here", "_law_many"] []) : Cal P w K mg base 1 "_law_draw" ["_law_feed_here", "_law_many"] (z9) :=
 v8 F hm hb sc_law_draw fun cdv A outer s H E g hr =>
  have nd := sc_law_draw.nd
  (j4 (n9 (i := 2) nd rfl (by first | exact Or.inl rfl | exact Or.inr rfl) (j3 D3 D1 (EO.b (S8 (K5 hr) (pv 0))) (EO.b d0))) (j4 (a1p (K5 hr) (pv 0) (i0 (pv 2))) (j4 (B2 (w8 R0 (C5 (fun i j => decide (j < i))) (EO.b (S8 (K5 hr) (pv 0))) (EO.b d0) (v6 _)) (j4 (n9 (i := 3) nd rfl (by first | exact Or.inl rfl | exact Or.inr rfl) (j3 L1 L8 (EO.b (S8 (K5 hr) (pv 0))) (d6 (pv 1)))) (j4 (a1p (K5 hr) (pv 0) (j3 E8 G1 (EO.b (S8 (K5 hr) (pv 0))) (d6 (pv 1)))) (m8 (t7 (i0 (pv 3)))))) B3) (j4 (n9 (i := 4) nd rfl (by first | exact Or.inl rfl | exact Or.inr rfl) (S8 (K5 hr) (pv 0))) (j4 (n9 (i := 5) nd rfl (by first | exact Or.inl rfl | exact Or.inr rfl) (a0m (w8 R0 (C5 (fun i j => decide (j < i))) (EO.b (C3 T1 T0 (by rfl) B.len S9 (bc (d6 (pv 4)) y8))) (EO.b d0) (v6 _)) (i6 i5 i4 (d6 (pv 4)) (EO.b (j3 L1 L8 (EO.b (S8 (K5 hr) (pv 0))) (EO.b (C3 T1 T0 (by rfl) B.len S9 (bc (d6 (pv 4)) y8))))) (fun _ _ => rfl)) d0)) (j4 (a1p (K5 hr) (pv 0) (j3 D3 D1 (EO.b (S8 (K5 hr) (pv 0))) (EO.b d0))) (j4 (B2 (WO.t (a3W (w8 a5X (C5 (fun i j => decide (j ≤ i))) (d6 (pv 5)) (EO.b (j3 a7Y b0w (EO.b d0) (EO.b d0))) (v6 _)) (a3H (w8 a3G (C5 (fun i j => decide (i ≤ j))) (EO.b (S8 (K5 hr) (pv 0))) (EO.b (C3 T1 T0 (by rfl) B.len S9 (bc (d6 (pv 4)) y8))) (v6 _))))) (j4 (a1p (K5 hr) (pv 0) (j3 E8 G1 (d6 (pv 5)) (d6 (pv 1)))) (m8 (t7 (j3 L1 L8 (d6 (pv 5)) (d6 (pv 1)))))) B3) (j4 (n9 (i := 6) nd rfl (by first | exact Or.inl rfl | exact Or.inr rfl) (j3 L1 L8 (EO.b (j3 u8 u7 (EO.b (j3 D3 D1 (EO.b (j3 D3 D1 (EO.b (j3 D3 D1 (EO.b (j3 L1 L8 (d6 (pv 5)) (EO.b d0))) (EO.b (j3 u8 u7 (EO.b (j3 u8 u7 (EO.b d0) (d6 (pv 2)))) (d6 (pv 2)))))) (EO.b (j3 u8 u7 (EO.b d0) (d6 (pv 2)))))) (EO.b d0))) (EO.b d0))) (EO.b d0))) (j4 (n9 (i := 6) nd rfl (by first | exact Or.inl rfl | exact Or.inr rfl) (j3 L1 L8 (EO.b (j3 D3 D1 (EO.b (j3 u8 u7 (EO.b (j3 E8 G1 (d6 (pv 6)) (EO.b d0))) (EO.b d0))) (EO.b (j3 u8 u7 (EO.b d0) (d6 (pv 2)))))) (EO.b d0))) (m8 (t7 (j3 L1 L8 (EO.b (j3 E8 G1 (d6 (pv 6)) (EO.b d0))) (d6 (pv 1))))))))))))))
noncomputable abbrev a0i : Stmt := top 32
theorem sc_law_product : FnScope ["_law_one", "_law_other"] ["_law_one", "_law_other"] (j8 a0i) := ⟨rfl, rfl, rfl, by decide +kernel, rfl, by decide +kernel, by decide +kernel⟩
set_option maxHeartbeats 4000000 in
theorem b0t {m_law_fraction : DFn} (C_law_fraction : Cal P w K mg base 1 "_law_fraction" ["_law_top", "_law_bottom"] m_law_fraction) {f : Addr} {fd : FuncData} (B : Blt mg) (F : Fun K "_law_product" "_law_product" a0i f fd) (hm : mg "_law_product" = some (.ref f)) (hb : Binds K fd ["_law_one", "_law_other"] []) : Cal P w K mg base 2 "_law_product" ["_law_one", "_law_other"] (U8 m_law_fraction) :=
 v8 F hm hb sc_law_product fun cdv A outer s H E g hr =>
  have nd := sc_law_product.nd
  (m8 (t7 (i8 C_law_fraction _ hr (by decide) (by rfl) (ac (j3 u8 u7 (EO.b (i6 i5 i4 (d6 (pv 0)) (EO.b d0) (fun _ _ => rfl))) (EO.b (i6 i5 i4 (d6 (pv 1)) (EO.b d0) (fun _ _ => rfl)))) (ac (j3 u8 u7 (EO.b (i6 i5 i4 (d6 (pv 0)) (EO.b d0) (fun _ _ => rfl))) (EO.b (i6 i5 i4 (d6 (pv 1)) (EO.b d0) (fun _ _ => rfl)))) g9)) (d9 (d9 i9)))))
noncomputable abbrev a0w : Stmt := top 40
theorem sc_law_way : FnScope ["_law_feed_here", "_law_p", "_law_q", "_law_h", "_law_share"] ["_law_feed_here"] (j8 a0w) := ⟨rfl, rfl, rfl, by decide +kernel, rfl, by decide +kernel, by decide +kernel⟩
set_option maxHeartbeats 4000000 in
theorem b09 {m_law_product : DFn} {m_law_fraction : DFn} {m_law_draw : DFn} (C_law_product : Cal P w K mg base 2 "_law_product" ["_law_one", "_law_other"] m_law_product) (C_law_fraction : Cal P w K mg base 1 "_law_fraction" ["_law_top", "_law_bottom"] m_law_fraction) (C_law_draw : Cal P w K mg base 1 "_law_draw" ["_law_feed_here", "_law_many"] m_law_draw) {f : Addr} {fd : FuncData} (B : Blt mg) (F : Fun K "_law_way" "_law_way" a0w f fd) (hm : mg "_law_way" = some (.ref f)) (hb : Binds K fd ["_law_feed_here"] []) : Cal P w K mg base 3 "_law_way" ["_law_feed_here"] (a0J m_law_product m_law_fraction m_law_draw) :=
 v8 F hm hb sc_law_way fun cdv A outer s H E g hr =>
  have nd := sc_law_way.nd
  (j4 (a1T (i6 i5 i4 (EO.b (FO.v (J6 (ac (A1 (ac d0 (ac d0 (ac d0 g9)))) (ac (A1 (ac d0 (ac d0 (ac d0 g9)))) (ac (A1 (ac d0 (ac d0 (ac d0 g9)))) (ac (A1 (ac d0 (ac d0 (ac d0 g9)))) (ac (A1 (ac d0 (ac d0 (ac d0 g9)))) (ac (A1 (ac d0 (ac d0 (ac d0 g9)))) g9))))))))) (EO.b (i8 C_law_draw _ hr (by decide) (by rfl) (ac (i0 (pv 0)) (ac d0 g9)) (d9 (d9 i9)))) (fun _ _ => rfl)) (a0S rfl (K8 (G6 (C2 (i := 1) nd rfl (by first | exact Or.inl rfl | exact Or.inr rfl))) (K8 (G6 (C2 (i := 2) nd rfl (by first | exact Or.inl rfl | exact Or.inr rfl))) (K8 (G6 (C2 (i := 3) nd rfl (by first | exact Or.inl rfl | exact Or.inr rfl))) a0P))))) (j4 (B2 (w8 (K2 (u64 hr)) K3 (EO.b (i8 C_law_draw _ hr (by decide) (by rfl) (ac (i0 (pv 0)) (ac d0 g9)) (d9 (d9 i9)))) (EO.b d0) (v6 _)) (m8 (a3K (i := 1) (j := 2) rfl nd rfl rfl (by decide) rfl rfl (ac (i0 (pv 2)) (ac (i0 (pv 1)) g9)) rfl)) B3) (j4 (n9 (i := 1) nd rfl (by first | exact Or.inl rfl | exact Or.inr rfl) (j3 u8 u7 (d6 (pv 1)) (EO.b (j3 G8 G4 (EO.b d0) (EO.b (j3 u8 u7 (EO.b d0) (EO.b (i8 C_law_draw _ hr (by decide) (by rfl) (ac (i0 (pv 0)) (ac d0 g9)) (d9 (d9 i9)))))))))) (j4 (n9 (i := 2) nd rfl (by first | exact Or.inl rfl | exact Or.inr rfl) (j3 u8 u7 (d6 (pv 2)) (EO.b (j3 G8 G4 (EO.b d0) (EO.b (j3 u8 u7 (EO.b d0) (EO.b (i8 C_law_draw _ hr (by decide) (by rfl) (ac (i0 (pv 0)) (ac d0 g9)) (d9 (d9 i9)))))))))) (j4 (n9 (i := 4) nd rfl (by first | exact Or.inl rfl | exact Or.inr rfl) (j3 u8 u7 (EO.b (i6 i5 i4 (EO.b (FO.v (J6 (ac d0 (ac d0 (ac d0 (ac d0 (ac d0 g9)))))))) (EO.b (i8 C_law_draw _ hr (by decide) (by rfl) (ac (i0 (pv 0)) (ac d0 g9)) (d9 (d9 i9)))) (fun _ _ => rfl))) (EO.b (i6 i5 i4 (EO.b (FO.v (J6 (ac d0 (ac (i0 (pv 3)) g9))))) (EO.b (i8 C_law_draw _ hr (by decide) (by rfl) (ac (i0 (pv 0)) (ac d0 g9)) (d9 (d9 i9)))) (fun _ _ => rfl))))) (j4 (n9 (i := 4) nd rfl (by first | exact Or.inl rfl | exact Or.inr rfl) (i8 C_law_fraction _ hr (by decide) (by rfl) (ac (i0 (pv 4)) (ac (i6 i5 i4 (EO.b (FO.v (J6 (ac d0 (ac (i0 (pv 3)) (ac (j3 u8 u7 (EO.b d0) (d6 (pv 3))) g9)))))) (EO.b (i8 C_law_draw _ hr (by decide) (by rfl) (ac (i0 (pv 0)) (ac d0 g9)) (d9 (d9 i9)))) (fun _ _ => rfl)) g9)) (d9 (d9 i9)))) (m8 (t7 (FO.v (U4 (N' := ["_law_one", "_law_share"]) (idx := [4]) rfl (T3 (by rfl) (.cons rfl .nil) (by decide +kernel) rfl (by decide +kernel) (by rfl) (.cons rfl (by first | exact Or.inl rfl | exact Or.inr rfl) (by first | exact Or.inl rfl | exact Or.inr rfl) .nil)) (S7 (A1 (ac (i0 (pv 1)) (ac (i0 (pv 2)) (ac (i0 (pv 3)) g9))))) (fun _ _ _ _ => C2 (i := 0) (show List.Nodup (["_law_one", "_law_share"] : List Str) by decide +kernel) rfl (Or.inl rfl)) (fun _ _ _ _ _ => N2) (fun _ _ _ _ _ => (i8 C_law_product _ hr (by decide) (by rfl) (ac (A1 (ac (i0 (pv 0)) (ac d0 g9))) (ac (i0 (pv 1)) g9)) (d9 (d9 i9))))))))))))))
noncomputable abbrev Y9 : Stmt := top 34
theorem sc_law_at : FnScope ["_law_x", "_law_y", "_law_bottom", "_law_top", "_law_other", "_law_part_of_both"] ["_law_x", "_law_y"] (j8 Y9) := ⟨rfl, rfl, rfl, by decide +kernel, rfl, by decide +kernel, by decide +kernel⟩
set_option maxHeartbeats 4000000 in
theorem b01 {m_law_fraction : DFn} (C_law_fraction : Cal P w K mg base 1 "_law_fraction" ["_law_top", "_law_bottom"] m_law_fraction) {f : Addr} {fd : FuncData} (B : Blt mg) (F : Fun K "_law_at" "_law_at" Y9 f fd) (hm : mg "_law_at" = some (.ref f)) (hb : Binds K fd ["_law_x", "_law_y"] []) : Cal P w K mg base 2 "_law_at" ["_law_x", "_law_y"] (T4 m_law_fraction) :=
 v8 F hm hb sc_law_at fun cdv A outer s H E g hr =>
  have nd := sc_law_at.nd
  (j4 (n9 (i := 2) nd rfl (by first | exact Or.inl rfl | exact Or.inr rfl) (j3 u8 u7 (EO.b (i6 i5 i4 (d6 (pv 0)) (EO.b d0) (fun _ _ => rfl))) (EO.b (i6 i5 i4 (d6 (pv 1)) (EO.b d0) (fun _ _ => rfl))))) (j4 (n9 (i := 3) nd rfl (by first | exact Or.inl rfl | exact Or.inr rfl) (i8 C_law_fraction _ hr (by decide) (by rfl) (ac (j3 u8 u7 (EO.b (i6 i5 i4 (d6 (pv 0)) (EO.b d0) (fun _ _ => rfl))) (EO.b (i6 i5 i4 (d6 (pv 1)) (EO.b d0) (fun _ _ => rfl)))) (ac (i0 (pv 2)) g9)) (d9 (d9 i9)))) (j4 (n9 (i := 4) nd rfl (by first | exact Or.inl rfl | exact Or.inr rfl) (i8 C_law_fraction _ hr (by decide) (by rfl) (ac (j3 u8 u7 (EO.b (i6 i5 i4 (d6 (pv 1)) (EO.b d0) (fun _ _ => rfl))) (EO.b (i6 i5 i4 (d6 (pv 0)) (EO.b d0) (fun _ _ => rfl)))) (ac (i0 (pv 2)) g9)) (d9 (d9 i9)))) (j4 (n9 (i := 5) nd rfl (by first | exact Or.inl rfl | exact Or.inr rfl) (i8 C_law_fraction _ hr (by decide) (by rfl) (ac (i6 i5 i4 (d6 (pv 3)) (EO.b d0) (fun _ _ => rfl)) (ac (i6 i5 i4 (d6 (pv 4)) (EO.b d0) (fun _ _ => rfl)) g9)) (d9 (d9 i9)))) (j4 (n9 (i := 2) nd rfl (by first | exact Or.inl rfl | exact Or.inr rfl) (j3 u8 u7 (EO.b (i6 i5 i4 (d6 (pv 3)) (EO.b d0) (fun _ _ => rfl))) (EO.b (i6 i5 i4 (d6 (pv 5)) (EO.b d0) (fun _ _ => rfl))))) (m8 (t7 (A1 (ac (j3 u8 u7 (EO.b (i6 i5 i4 (d6 (pv 3)) (EO.b d0) (fun _ _ => rfl))) (EO.b (j3 E8 G1 (d6 (pv 2)) (EO.b (i6 i5 i4 (d6 (pv 3)) (EO.b d0) (fun _ _ => rfl)))))) (ac (j3 u8 u7 (EO.b (i6 i5 i4 (d6 (pv 4)) (EO.b d0) (fun _ _ => rfl))) (EO.b (j3 E8 G1 (d6 (pv 2)) (EO.b (i6 i5 i4 (d6 (pv 4)) (EO.b d0) (fun _ _ => rfl)))))) (ac (i0 (pv 2)) g9)))))))))))
noncomputable abbrev W9 : Stmt := top 38
theorem sc_law_number : FnScope ["_law_feed_here", "_law_top", "_law_bottom"] ["_law_feed_here"] (j8 W9) := ⟨rfl, rfl, rfl, by decide +kernel, rfl, by decide +kernel, by decide +kernel⟩
set_option maxHeartbeats 4000000 in
theorem a9X {m_law_fraction : DFn} {m_law_draw : DFn} (C_law_fraction : Cal P w K mg base 1 "_law_fraction" ["_law_top", "_law_bottom"] m_law_fraction) (C_law_draw : Cal P w K mg base 1 "_law_draw" ["_law_feed_here", "_law_many"] m_law_draw) {f : Addr} {fd : FuncData} (B : Blt mg) (F : Fun K "_law_number" "_law_number" W9 f fd) (hm : mg "_law_number" = some (.ref f)) (hb : Binds K fd ["_law_feed_here"] []) : Cal P w K mg base 2 "_law_number" ["_law_feed_here"] (a1f m_law_fraction m_law_draw) :=
 v8 F hm hb sc_law_number fun cdv A outer s H E g hr =>
  have nd := sc_law_number.nd
  (j4 (n9 (i := 1) nd rfl (by first | exact Or.inl rfl | exact Or.inr rfl) (i8 C_law_draw _ hr (by decide) (by rfl) (ac (i0 (pv 0)) (ac (i6 i5 i4 (EO.b (FO.v (J6 (ac d0 (ac d0 (ac d0 g9)))))) (EO.b (i8 C_law_draw _ hr (by decide) (by rfl) (ac (i0 (pv 0)) (ac d0 g9)) (d9 (d9 i9)))) (fun _ _ => rfl)) g9)) (d9 (d9 i9)))) (j4 (n9 (i := 2) nd rfl (by first | exact Or.inl rfl | exact Or.inr rfl) (i6 i5 i4 (EO.b (FO.v (J6 (ac d0 (ac d0 (ac d0 (ac d0 (ac d0 (ac d0 g9))))))))) (EO.b (i8 C_law_draw _ hr (by decide) (by rfl) (ac (i0 (pv 0)) (ac d0 g9)) (d9 (d9 i9)))) (fun _ _ => rfl))) (m8 (t7 (i8 C_law_fraction _ hr (by decide) (by rfl) (ac (j3 u8 u7 (d6 (pv 1)) (EO.b (j3 G8 G4 (EO.b d0) (EO.b (j3 u8 u7 (EO.b d0) (EO.b (i8 C_law_draw _ hr (by decide) (by rfl) (ac (i0 (pv 0)) (ac d0 g9)) (d9 (d9 i9))))))))) (ac (i0 (pv 2)) g9)) (d9 (d9 i9)))))))
noncomputable abbrev a0h : Stmt := top 39
theorem sc_law_place : FnScope ["_law_feed_here"] ["_law_feed_here"] (j8 a0h) := ⟨rfl, rfl, rfl, by decide +kernel, rfl, by decide +kernel, by decide +kernel⟩
set_option maxHeartbeats 4000000 in
theorem b3X {m_law_at : DFn} {m_law_number : DFn} (C_law_at : Cal P w K mg base 2 "_law_at" ["_law_x", "_law_y"] m_law_at) (C_law_number : Cal P w K mg base 2 "_law_number" ["_law_feed_here"] m_law_number) {f : Addr} {fd : FuncData} (B : Blt mg) (F : Fun K "_law_place" "_law_place" a0h f fd) (hm : mg "_law_place" = some (.ref f)) (hb : Binds K fd ["_law_feed_here"] []) : Cal P w K mg base 3 "_law_place" ["_law_feed_here"] (a0O m_law_at m_law_number) :=
 v8 F hm hb sc_law_place fun cdv A outer s H E g hr =>
  have nd := sc_law_place.nd
  (m8 (t7 (i8 C_law_at _ hr (by decide) (by rfl) (ac (i8 C_law_number _ hr (by decide) (by rfl) (ac (i0 (pv 0)) g9) (d9 i9)) (ac (i8 C_law_number _ hr (by decide) (by rfl) (ac (i0 (pv 0)) g9) (d9 i9)) g9)) (d9 (d9 i9)))))
noncomputable abbrev a0z : Stmt := top 35
theorem sc_law_xy : FnScope ["_law_one"] ["_law_one"] (j8 a0z) := ⟨rfl, rfl, rfl, by decide +kernel, rfl, by decide +kernel, by decide +kernel⟩
set_option maxHeartbeats 4000000 in
theorem b3U {m_law_fraction : DFn} (C_law_fraction : Cal P w K mg base 1 "_law_fraction" ["_law_top", "_law_bottom"] m_law_fraction) {f : Addr} {fd : FuncData} (B : Blt mg) (F : Fun K "_law_xy" "_law_xy" a0z f fd) (hm : mg "_law_xy" = some (.ref f)) (hb : Binds K fd ["_law_one"] []) : Cal P w K mg base 2 "_law_xy" ["_law_one"] (a0V m_law_fraction) :=
 v8 F hm hb sc_law_xy fun cdv A outer s H E g hr =>
  have nd := sc_law_xy.nd
  (m8 (t7 (A1 (ac (i8 C_law_fraction _ hr (by decide) (by rfl) (ac (i6 i5 i4 (d6 (pv 0)) (EO.b d0) (fun _ _ => rfl)) (ac (i6 i5 i4 (d6 (pv 0)) (EO.b d0) (fun _ _ => rfl)) g9)) (d9 (d9 i9))) (ac (i8 C_law_fraction _ hr (by decide) (by rfl) (ac (i6 i5 i4 (d6 (pv 0)) (EO.b d0) (fun _ _ => rfl)) (ac (i6 i5 i4 (d6 (pv 0)) (EO.b d0) (fun _ _ => rfl)) g9)) (d9 (d9 i9))) g9)))))
noncomputable abbrev X5 : Stmt := top 31
theorem sc_law_sum : FnScope ["_law_one", "_law_other", "_law_top"] ["_law_one", "_law_other"] (j8 X5) := ⟨rfl, rfl, rfl, by decide +kernel, rfl, by decide +kernel, by decide +kernel⟩
set_option maxHeartbeats 4000000 in
theorem a7O {m_law_fraction : DFn} (C_law_fraction : Cal P w K mg base 1 "_law_fraction" ["_law_top", "_law_bottom"] m_law_fraction) {f : Addr} {fd : FuncData} (B : Blt mg) (F : Fun K "_law_sum" "_law_sum" X5 f fd) (hm : mg "_law_sum" = some (.ref f)) (hb : Binds K fd ["_law_one", "_law_other"] []) : Cal P w K mg base 2 "_law_sum" ["_law_one", "_law_other"] (a0d m_law_fraction) :=
 v8 F hm hb sc_law_sum fun cdv A outer s H E g hr =>
  have nd := sc_law_sum.nd
  (j4 (n9 (i := 2) nd rfl (by first | exact Or.inl rfl | exact Or.inr rfl) (j3 D3 D1 (EO.b (j3 u8 u7 (EO.b (i6 i5 i4 (d6 (pv 0)) (EO.b d0) (fun _ _ => rfl))) (EO.b (i6 i5 i4 (d6 (pv 1)) (EO.b d0) (fun _ _ => rfl))))) (EO.b (j3 u8 u7 (EO.b (i6 i5 i4 (d6 (pv 1)) (EO.b d0) (fun _ _ => rfl))) (EO.b (i6 i5 i4 (d6 (pv 0)) (EO.b d0) (fun _ _ => rfl))))))) (m8 (t7 (i8 C_law_fraction _ hr (by decide) (by rfl) (ac (i0 (pv 2)) (ac (j3 u8 u7 (EO.b (i6 i5 i4 (d6 (pv 0)) (EO.b d0) (fun _ _ => rfl))) (EO.b (i6 i5 i4 (d6 (pv 1)) (EO.b d0) (fun _ _ => rfl)))) g9)) (d9 (d9 i9))))))
noncomputable abbrev a0n : Stmt := top 36
theorem sc_law_gone : FnScope ["_law_one", "_law_x", "_law_y", "_law_first", "_law_second"] ["_law_one", "_law_x", "_law_y"] (j8 a0n) := ⟨rfl, rfl, rfl, by decide +kernel, rfl, by decide +kernel, by decide +kernel⟩
set_option maxHeartbeats 4000000 in
theorem a8z {m_law_at : DFn} {m_law_sum : DFn} {m_law_xy : DFn} (C_law_at : Cal P w K mg base 2 "_law_at" ["_law_x", "_law_y"] m_law_at) (C_law_sum : Cal P w K mg base 2 "_law_sum" ["_law_one", "_law_other"] m_law_sum) (C_law_xy : Cal P w K mg base 2 "_law_xy" ["_law_one"] m_law_xy) {f : Addr} {fd : FuncData} (B : Blt mg) (F : Fun K "_law_gone" "_law_gone" a0n f fd) (hm : mg "_law_gone" = some (.ref f)) (hb : Binds K fd ["_law_one", "_law_x", "_law_y"] []) : Cal P w K mg base 3 "_law_gone" ["_law_one", "_law_x", "_law_y"] (a1A m_law_at m_law_sum m_law_xy) :=
 v8 F hm hb sc_law_gone fun cdv A outer s H E g hr =>
  have nd := sc_law_gone.nd
  (j4 (a1T (i8 C_law_xy _ hr (by decide) (by rfl) (ac (i0 (pv 0)) g9) (d9 i9)) (a0S rfl (K8 (G6 (C2 (i := 3) nd rfl (by first | exact Or.inl rfl | exact Or.inr rfl))) (K8 (G6 (C2 (i := 4) nd rfl (by first | exact Or.inl rfl | exact Or.inr rfl))) a0P)))) (m8 (t7 (i8 C_law_at _ hr (by decide) (by rfl) (ac (i8 C_law_sum _ hr (by decide) (by rfl) (ac (i0 (pv 3)) (ac (i0 (pv 1)) g9)) (d9 (d9 i9))) (ac (i8 C_law_sum _ hr (by decide) (by rfl) (ac (i0 (pv 4)) (ac (i0 (pv 2)) g9)) (d9 (d9 i9))) g9)) (d9 (d9 i9))))))
noncomputable abbrev a0x : Stmt := top 43
theorem sc_law_closed_line : FnScope ["_law_feed_here", "_law_first", "_law_start", "_law_second", "_law_knee", "_law_last", "_law_side", "_law_three", "_law_four", "_law_some", "_law_order"] ["_law_feed_here"] (j8 a0x) := ⟨rfl, rfl, rfl, by decide +kernel, rfl, by decide +kernel, by decide +kernel⟩
set_option maxHeartbeats 4000000 in
theorem b3x {m_law_draw : DFn} {m_law_gone : DFn} {m_law_product : DFn} {m_law_fraction : DFn} {m_law_way : DFn} {m_law_place : DFn} (C_law_draw : Cal P w K mg base 1 "_law_draw" ["_law_feed_here", "_law_many"] m_law_draw) (C_law_gone : Cal P w K mg base 3 "_law_gone" ["_law_one", "_law_x", "_law_y"] m_law_gone) (C_law_product : Cal P w K mg base 2 "_law_product" ["_law_one", "_law_other"] m_law_product) (C_law_fraction : Cal P w K mg base 1 "_law_fraction" ["_law_top", "_law_bottom"] m_law_fraction) (C_law_way : Cal P w K mg base 3 "_law_way" ["_law_feed_here"] m_law_way) (C_law_place : Cal P w K mg base 3 "_law_place" ["_law_feed_here"] m_law_place) {f : Addr} {fd : FuncData} (B : Blt mg) (F : Fun K "_law_closed_line" "_law_closed_line" a0x f fd) (hm : mg "_law_closed_line" = some (.ref f)) (hb : Binds K fd ["_law_feed_here"] []) : Cal P w K mg base 4 "_law_closed_line" ["_law_feed_here"] (a4n m_law_draw m_law_gone m_law_product m_law_fraction m_law_way m_law_place) :=
 v8 F hm hb sc_law_closed_line fun cdv A outer s H E g hr =>
  have nd := sc_law_closed_line.nd
  (j4 (n9 (i := 1) nd rfl (by first | exact Or.inl rfl | exact Or.inr rfl) (i8 C_law_way _ hr (by decide) (by rfl) (ac (i0 (pv 0)) g9) (d9 i9))) (j4 (n9 (i := 2) nd rfl (by first | exact Or.inl rfl | exact Or.inr rfl) (i8 C_law_place _ hr (by decide) (by rfl) (ac (i0 (pv 0)) g9) (d9 i9))) (j4 (B2 (w8 (K2 (u64 hr)) K3 (EO.b (i8 C_law_draw _ hr (by decide) (by rfl) (ac (i0 (pv 0)) (ac d0 g9)) (d9 (d9 i9)))) (EO.b d0) (v6 _)) (j4 (n9 (i := 3) nd rfl (by first | exact Or.inl rfl | exact Or.inr rfl) (i8 C_law_way _ hr (by decide) (by rfl) (ac (i0 (pv 0)) g9) (d9 i9))) (m8 (B2 (w8 (G9 (u64 hr)) J5 (EO.b (i8 C_law_product _ hr (by decide) (by rfl) (ac (i6 i5 i4 (d6 (pv 1)) (EO.b d0) (fun _ _ => rfl)) (ac (i6 i5 i4 (d6 (pv 3)) (EO.b d0) (fun _ _ => rfl)) g9)) (d9 (d9 i9)))) (EO.b (i8 C_law_product _ hr (by decide) (by rfl) (ac (i6 i5 i4 (d6 (pv 1)) (EO.b d0) (fun _ _ => rfl)) (ac (i6 i5 i4 (d6 (pv 3)) (EO.b d0) (fun _ _ => rfl)) g9)) (d9 (d9 i9)))) (v6 _)) (j4 (n9 (i := 4) nd rfl (by first | exact Or.inl rfl | exact Or.inr rfl) (i8 C_law_gone _ hr (by decide) (by rfl) (ac (i0 (pv 2)) (ac (i6 i5 i4 (d6 (pv 1)) (EO.b d0) (fun _ _ => rfl)) (ac (i6 i5 i4 (d6 (pv 1)) (EO.b d0) (fun _ _ => rfl)) g9))) (d9 (d9 (d9 i9))))) (j4 (n9 (i := 5) nd rfl (by first | exact Or.inl rfl | exact Or.inr rfl) (i8 C_law_gone _ hr (by decide) (by rfl) (ac (i0 (pv 2)) (ac (i6 i5 i4 (d6 (pv 3)) (EO.b d0) (fun _ _ => rfl)) (ac (i6 i5 i4 (d6 (pv 3)) (EO.b d0) (fun _ _ => rfl)) g9))) (d9 (d9 (d9 i9))))) (m8 (t7 (A1 (ac G7 (ac (A1 (ac (i0 (pv 2)) (ac (i0 (pv 4)) (ac (i8 C_law_gone _ hr (by decide) (by rfl) (ac (i0 (pv 4)) (ac (i6 i5 i4 (d6 (pv 3)) (EO.b d0) (fun _ _ => rfl)) (ac (i6 i5 i4 (d6 (pv 3)) (EO.b d0) (fun _ _ => rfl)) g9))) (d9 (d9 (d9 i9)))) (ac (i0 (pv 5)) g9))))) g9))))))) B3))) B3) (j4 (n9 (i := 6) nd rfl (by first | exact Or.inl rfl | exact Or.inr rfl) (i8 C_law_fraction _ hr (by decide) (by rfl) (ac (j3 D3 D1 (EO.b d0) (EO.b (i8 C_law_draw _ hr (by decide) (by rfl) (ac (i0 (pv 0)) (ac d0 g9)) (d9 (d9 i9))))) (ac (j3 D3 D1 (EO.b d0) (EO.b (i8 C_law_draw _ hr (by decide) (by rfl) (ac (i0 (pv 0)) (ac d0 g9)) (d9 (d9 i9))))) g9)) (d9 (d9 i9)))) (j4 (a3K (i := 7) (j := 8) rfl nd rfl rfl (by decide) rfl rfl (ac (i8 C_law_product _ hr (by decide) (by rfl) (ac (i0 (pv 6)) (ac (A1 (ac d0 (ac d0 g9))) g9)) (d9 (d9 i9))) (ac (i8 C_law_product _ hr (by decide) (by rfl) (ac (i0 (pv 6)) (ac (A1 (ac d0 (ac d0 g9))) g9)) (d9 (d9 i9))) g9)) rfl) (j4 (a1S (i := 9) nd rfl (by first | exact Or.inl rfl | exact Or.inr rfl) (J6 (ac (i0 (pv 2)) (ac (i8 C_law_gone _ hr (by decide) (by rfl) (ac (i0 (pv 2)) (ac (i0 (pv 7)) (ac (A1 (ac d0 (ac d0 g9))) g9))) (d9 (d9 (d9 i9)))) (ac (i8 C_law_gone _ hr (by decide) (by rfl) (ac (i0 (pv 2)) (ac (i0 (pv 7)) (ac (i0 (pv 8)) g9))) (d9 (d9 (d9 i9)))) (ac (i8 C_law_gone _ hr (by decide) (by rfl) (ac (i0 (pv 2)) (ac (A1 (ac d0 (ac d0 g9))) (ac (i0 (pv 8)) g9))) (d9 (d9 (d9 i9)))) g9)))))) (j4 (n9 (i := 10) nd rfl (by first | exact Or.inl rfl | exact Or.inr rfl) (i6 i5 i4 (EO.b (FO.v (J6 (ac (A1 (ac d0 (ac d0 (ac d0 g9)))) (ac (A1 (ac d0 (ac d0 (ac d0 g9)))) (ac (A1 (ac d0 (ac d0 (ac d0 (ac d0 g9))))) (ac (A1 (ac d0 (ac d0 (ac d0 (ac d0 g9))))) (ac (A1 (ac d0 (ac d0 (ac d0 g9)))) g9)))))))) (EO.b (i8 C_law_draw _ hr (by decide) (by rfl) (ac (i0 (pv 0)) (ac d0 g9)) (d9 (d9 i9)))) (fun _ _ => rfl))) (m8 (t7 (A1 (ac G7 (ac (O0 R7 Q7 (by rfl) B.tuple L7 (bc (EO.b (FO.v (b0i [9] (U4 (N' := ["_law_at_here", "_law_some"]) (idx := [9]) rfl (T3 (by rfl) (.cons rfl .nil) (by decide +kernel) rfl (by decide +kernel) (by rfl) (.cons rfl (by first | exact Or.inl rfl | exact Or.inr rfl) (by first | exact Or.inl rfl | exact Or.inr rfl) .nil)) (S7 (i0 (pv 10))) (fun _ _ _ _ => C2 (i := 0) (show List.Nodup (["_law_at_here", "_law_some"] : List Str) by decide +kernel) rfl (Or.inl rfl)) (fun _ _ _ _ _ => N2) (fun _ _ _ _ _ => (i6 i5 i4 (d6 (pv 1)) (d6 (pv 0)) (fun _ _ => rfl))))))) y8)) g9))))))))))))
noncomputable abbrev a0l : Stmt := top 33
theorem sc_law_minus : FnScope ["_law_one"] ["_law_one"] (j8 a0l) := ⟨rfl, rfl, rfl, by decide +kernel, rfl, by decide +kernel, by decide +kernel⟩
set_option maxHeartbeats 4000000 in
theorem b1M {f : Addr} {fd : FuncData} (B : Blt mg) (F : Fun K "_law_minus" "_law_minus" a0l f fd) (hm : mg "_law_minus" = some (.ref f)) (hb : Binds K fd ["_law_one"] []) : Cal P w K mg base 1 "_law_minus" ["_law_one"] (L4) :=
 v8 F hm hb sc_law_minus fun cdv A outer s H E g hr =>
  have nd := sc_law_minus.nd
  (m8 (t7 (A1 (ac (j3 G8 G4 (EO.b d0) (EO.b (i6 i5 i4 (d6 (pv 0)) (EO.b d0) (fun _ _ => rfl)))) (ac (i6 i5 i4 (d6 (pv 0)) (EO.b d0) (fun _ _ => rfl)) g9)))))
noncomputable abbrev X4 : Stmt := top 41
theorem sc_law_goes_on : FnScope ["_law_first", "_law_second", "_law_one", "_law_other", "_law_with_it"] ["_law_first", "_law_second"] (j8 X4) := ⟨rfl, rfl, rfl, by decide +kernel, rfl, by decide +kernel, by decide +kernel⟩
set_option maxHeartbeats 4000000 in
theorem b2A {m_law_sum : DFn} {m_law_product : DFn} (C_law_sum : Cal P w K mg base 2 "_law_sum" ["_law_one", "_law_other"] m_law_sum) (C_law_product : Cal P w K mg base 2 "_law_product" ["_law_one", "_law_other"] m_law_product) {f : Addr} {fd : FuncData} (B : Blt mg) (F : Fun K "_law_goes_on" "_law_goes_on" X4 f fd) (hm : mg "_law_goes_on" = some (.ref f)) (hb : Binds K fd ["_law_first", "_law_second"] []) : Cal P w K mg base 3 "_law_goes_on" ["_law_first", "_law_second"] (a2E m_law_sum m_law_product) :=
 v8 F hm hb sc_law_goes_on fun cdv A outer s H E g hr =>
  have nd := sc_law_goes_on.nd
  (j4 (n9 (i := 2) nd rfl (by first | exact Or.inl rfl | exact Or.inr rfl) (i8 C_law_product _ hr (by decide) (by rfl) (ac (i6 i5 i4 (d6 (pv 0)) (EO.b d0) (fun _ _ => rfl)) (ac (i6 i5 i4 (d6 (pv 1)) (EO.b d0) (fun _ _ => rfl)) g9)) (d9 (d9 i9)))) (j4 (n9 (i := 3) nd rfl (by first | exact Or.inl rfl | exact Or.inr rfl) (i8 C_law_product _ hr (by decide) (by rfl) (ac (i6 i5 i4 (d6 (pv 0)) (EO.b d0) (fun _ _ => rfl)) (ac (i6 i5 i4 (d6 (pv 1)) (EO.b d0) (fun _ _ => rfl)) g9)) (d9 (d9 i9)))) (j4 (n9 (i := 4) nd rfl (by first | exact Or.inl rfl | exact Or.inr rfl) (i8 C_law_sum _ hr (by decide) (by rfl) (ac (i8 C_law_product _ hr (by decide) (by rfl) (ac (i6 i5 i4 (d6 (pv 0)) (EO.b d0) (fun _ _ => rfl)) (ac (i6 i5 i4 (d6 (pv 1)) (EO.b d0) (fun _ _ => rfl)) g9)) (d9 (d9 i9))) (ac (i8 C_law_product _ hr (by decide) (by rfl) (ac (i6 i5 i4 (d6 (pv 0)) (EO.b d0) (fun _ _ => rfl)) (ac (i6 i5 i4 (d6 (pv 1)) (EO.b d0) (fun _ _ => rfl)) g9)) (d9 (d9 i9))) g9)) (d9 (d9 i9)))) (m8 (t7 (X2 (L5 (K2 (u64 hr)) K3 (d6 (pv 2)) (d6 (pv 3)) (v6 _)) (a0N (L5 R0 (C5 (fun i j => decide (j < i))) (EO.b (i6 i5 i4 (d6 (pv 4)) (EO.b d0) (fun _ _ => rfl))) (EO.b d0) (v6 _)))))))))
noncomputable abbrev Z2 : Stmt := top 42
theorem sc_law_open_line : FnScope ["_law_feed_here", "_law_most", "_law_found", "_law_ways", "_law_k", "_law_way_here"] ["_law_feed_here", "_law_most"] (j8 Z2) := ⟨rfl, rfl, rfl, by decide +kernel, rfl, by decide +kernel, by decide +kernel⟩
set_option maxHeartbeats 4000000 in
theorem b4u {m_law_goes_on : DFn} {m_law_gone : DFn} {m_law_draw : DFn} {m_law_minus : DFn} {m_law_way : DFn} {m_law_place : DFn} (C_law_goes_on : Cal P w K mg base 3 "_law_goes_on" ["_law_first", "_law_second"] m_law_goes_on) (C_law_gone : Cal P w K mg base 3 "_law_gone" ["_law_one", "_law_x", "_law_y"] m_law_gone) (C_law_draw : Cal P w K mg base 1 "_law_draw" ["_law_feed_here", "_law_many"] m_law_draw) (C_law_minus : Cal P w K mg base 1 "_law_minus" ["_law_one"] m_law_minus) (C_law_way : Cal P w K mg base 3 "_law_way" ["_law_feed_here"] m_law_way) (C_law_place : Cal P w K mg base 3 "_law_place" ["_law_feed_here"] m_law_place) {f : Addr} {fd : FuncData} (B : Blt mg) (F : Fun K "_law_open_line" "_law_open_line" Z2 f fd) (hm : mg "_law_open_line" = some (.ref f)) (hb : Binds K fd ["_law_feed_here", "_law_most"] []) : Cal P w K mg base 4 "_law_open_line" ["_law_feed_here", "_law_most"] (a4r m_law_goes_on m_law_gone m_law_draw m_law_minus m_law_way m_law_place) :=
 v8 F hm hb sc_law_open_line fun cdv A outer s H E g hr =>
  have nd := sc_law_open_line.nd
  (j4 (a1S (i := 2) nd rfl (by first | exact Or.inl rfl | exact Or.inr rfl) (J6 (ac (i8 C_law_place _ hr (by decide) (by rfl) (ac (i0 (pv 0)) g9) (d9 i9)) g9))) (j4 (a1S (i := 3) nd rfl (by first | exact Or.inl rfl | exact Or.inr rfl) (J6 g9)) (j4 (a5F PassesOwn.never rfl (by rfl) B.range (j3 D3 D1 (EO.b d0) (EO.b (i8 C_law_draw _ hr (by decide) (by rfl) (ac (i0 (pv 0)) (ac (j3 G8 G4 (d6 (pv 1)) (EO.b d0)) g9)) (d9 (d9 i9))))) (G6 (C2 (i := 4) nd rfl (by first | exact Or.inl rfl | exact Or.inr rfl))) (j4 (n9 (i := 5) nd rfl (by first | exact Or.inl rfl | exact Or.inr rfl) (i8 C_law_way _ hr (by decide) (by rfl) (ac (i0 (pv 0)) g9) (d9 i9))) (j4 (B2 (WO.t (a3W (w8 (G9 (u64 hr)) J5 (d6 (pv 3)) (EO.b (FO.v (J6 g9))) (v6 _)) (a3H (w8 (K2 (u64 hr)) K3 (EO.b (i8 C_law_draw _ hr (by decide) (by rfl) (ac (i0 (pv 0)) (ac d0 g9)) (d9 (d9 i9)))) (EO.b d0) (v6 _))))) (m8 (a1S (i := 5) nd rfl (by first | exact Or.inl rfl | exact Or.inr rfl) (J6 (ac (i8 C_law_minus _ hr (by decide) (by rfl) (ac (i6 i5 i4 (EO.b (i6 i5 i4 (d6 (pv 3)) (EO.b (P7 O9 P9 (EO.b d0))) (fun _ _ => rfl))) (EO.b d0) (fun _ _ => rfl)) g9) (d9 i9)) (ac (i8 C_law_minus _ hr (by decide) (by rfl) (ac (i6 i5 i4 (EO.b (i6 i5 i4 (d6 (pv 3)) (EO.b (P7 O9 P9 (EO.b d0))) (fun _ _ => rfl))) (EO.b d0) (fun _ _ => rfl)) g9) (d9 i9)) (ac (i6 i5 i4 (EO.b (i6 i5 i4 (d6 (pv 3)) (EO.b (P7 O9 P9 (EO.b d0))) (fun _ _ => rfl))) (EO.b d0) (fun _ _ => rfl)) g9)))))) B3) (m8 (B2 (WO.t (P6 (w8 (K2 (u64 hr)) K3 (d6 (pv 3)) (EO.b (FO.v (J6 g9))) (v6 _)) (T5 (X9 (K7 (EO.b (i8 C_law_goes_on _ hr (by decide) (by rfl) (ac (i6 i5 i4 (d6 (pv 3)) (EO.b (P7 O9 P9 (EO.b d0))) (fun _ _ => rfl)) (ac (i0 (pv 5)) g9)) (d9 (d9 i9))))))))) (j4 (a7b (pv 3) (i0 (pv 5))) (m8 (a7b (pv 2) (i8 C_law_gone _ hr (by decide) (by rfl) (ac (i6 i5 i4 (d6 (pv 2)) (EO.b (P7 O9 P9 (EO.b d0))) (fun _ _ => rfl)) (ac (i6 i5 i4 (d6 (pv 5)) (EO.b d0) (fun _ _ => rfl)) (ac (i6 i5 i4 (d6 (pv 5)) (EO.b d0) (fun _ _ => rfl)) g9))) (d9 (d9 (d9 i9))))))) B3))))) (m8 (t7 (A1 (ac G7 (ac (O0 R7 Q7 (by rfl) B.tuple L7 (bc (d6 (pv 2)) y8)) g9))))))))
noncomputable abbrev Y1 : Stmt := top 44
theorem sc_law_line : FnScope ["_law_feed_here", "_law_most"] ["_law_feed_here", "_law_most"] (j8 Y1) := ⟨rfl, rfl, rfl, by decide +kernel, rfl, by decide +kernel, by decide +kernel⟩
set_option maxHeartbeats 4000000 in
theorem a8U {m_law_draw : DFn} {m_law_closed_line : DFn} {m_law_open_line : DFn} (C_law_draw : Cal P w K mg base 1 "_law_draw" ["_law_feed_here", "_law_many"] m_law_draw) (C_law_closed_line : Cal P w K mg base 4 "_law_closed_line" ["_law_feed_here"] m_law_closed_line) (C_law_open_line : Cal P w K mg base 4 "_law_open_line" ["_law_feed_here", "_law_most"] m_law_open_line) {f : Addr} {fd : FuncData} (B : Blt mg) (F : Fun K "_law_line" "_law_line" Y1 f fd) (hm : mg "_law_line" = some (.ref f)) (hb : Binds K fd ["_law_feed_here", "_law_most"] []) : Cal P w K mg base 5 "_law_line" ["_law_feed_here", "_law_most"] (a3m m_law_draw m_law_closed_line m_law_open_line) :=
 v8 F hm hb sc_law_line fun cdv A outer s H E g hr =>
  have nd := sc_law_line.nd
  (m8 (t7 (a0m (w8 (K2 (u64 hr)) K3 (EO.b (i8 C_law_draw _ hr (by decide) (by rfl) (ac (i0 (pv 0)) (ac d0 g9)) (d9 (d9 i9)))) (EO.b d0) (v6 _)) (i8 C_law_closed_line _ hr (by decide) (by rfl) (ac (i0 (pv 0)) g9) (d9 i9)) (i8 C_law_open_line _ hr (by decide) (by rfl) (ac (i0 (pv 0)) (ac (i0 (pv 1)) g9)) (d9 (d9 i9))))))
noncomputable abbrev a0q : Stmt := top 2
theorem sc_divisor_of_two : FnScope ["one", "other", "greater", "rest", "left_over"] ["one", "other"] (j8 a0q) := ⟨rfl, rfl, rfl, by decide +kernel, rfl, by decide +kernel, by decide +kernel⟩
set_option maxHeartbeats 4000000 in
theorem b0f {f : Addr} {fd : FuncData} (B : Blt mg) (F : Fun K "divisor_of_two" "divisor_of_two" a0q f fd) (hm : mg "divisor_of_two" = some (.ref f)) (hb : Binds K fd ["one", "other"] []) : Cal P w K mg base 1 "divisor_of_two" ["one", "other"] (J2) :=
 v8 F hm hb sc_divisor_of_two fun cdv A outer s H E g hr =>
  have nd := sc_divisor_of_two.nd
  (j4 (n9 (i := 2) nd rfl (by first | exact Or.inl rfl | exact Or.inr rfl) (C3 a2r a2m (by rfl) B.abs a1D (bc (d6 (pv 0)) y8))) (j4 (n9 (i := 3) nd rfl (by first | exact Or.inl rfl | exact Or.inr rfl) (C3 a2r a2m (by rfl) B.abs a1D (bc (d6 (pv 1)) y8))) (j4 (Z4 PassesOwn.never (w8 (G9 (u64 hr)) J5 (d6 (pv 3)) (EO.b d0) (v6 _)) (j4 (n9 (i := 4) nd rfl (by first | exact Or.inl rfl | exact Or.inr rfl) (j3 L1 L8 (d6 (pv 2)) (d6 (pv 3)))) (j4 (n9 (i := 2) nd rfl (by first | exact Or.inl rfl | exact Or.inr rfl) (i0 (pv 3))) (m8 (n9 (i := 3) nd rfl (by first | exact Or.inl rfl | exact Or.inr rfl) (i0 (pv 4))))))) (m8 (t7 (i0 (pv 2)))))))
noncomputable abbrev W0 : Stmt := top 3
theorem sc_divisor : FnScope ["parts", "shared", "part"] ["parts"] (j8 W0) := ⟨rfl, rfl, rfl, by decide +kernel, rfl, by decide +kernel, by decide +kernel⟩
set_option maxHeartbeats 4000000 in
theorem b3r {m_divisor_of_two : DFn} (C_divisor_of_two : Cal P w K mg base 1 "divisor_of_two" ["one", "other"] m_divisor_of_two) {f : Addr} {fd : FuncData} (B : Blt mg) (F : Fun K "divisor" "divisor" W0 f fd) (hm : mg "divisor" = some (.ref f)) (hb : Binds K fd ["parts"] []) : Cal P w K mg base 2 "divisor" ["parts"] (N0 m_divisor_of_two) :=
 v8 F hm hb sc_divisor fun cdv A outer s H E g hr =>
  have nd := sc_divisor.nd
  (j4 (n9 (i := 1) nd rfl (by first | exact Or.inl rfl | exact Or.inr rfl) d0) (j4 (a6u PassesOwn.never rfl (i0 (pv 0)) (G6 (C2 (i := 2) nd rfl (by first | exact Or.inl rfl | exact Or.inr rfl))) (m8 (n9 (i := 1) nd rfl (by first | exact Or.inl rfl | exact Or.inr rfl) (i8 C_divisor_of_two _ hr (by decide) (by rfl) (ac (i0 (pv 1)) (ac (i0 (pv 2)) g9)) (d9 (d9 i9)))))) (m8 (t7 (i0 (pv 1))))))
noncomputable abbrev Z9 : Stmt := top 1
theorem sc_is_whole : FnScope ["thing"] ["thing"] (j8 Z9) := ⟨rfl, rfl, rfl, by decide +kernel, rfl, by decide +kernel, by decide +kernel⟩
set_option maxHeartbeats 4000000 in
theorem b1C {f : Addr} {fd : FuncData} (B : Blt mg) (F : Fun K "is_whole" "is_whole" Z9 f fd) (hm : mg "is_whole" = some (.ref f)) (hb : Binds K fd ["thing"] []) : Cal P w K mg base 1 "is_whole" ["thing"] (U1) :=
 v8 F hm hb sc_is_whole fun cdv A outer s H E g hr =>
  have nd := sc_is_whole.nd
  (m8 (t7 (X2 (X8 a8g (by rfl) B.isinstance (by rfl) B.int a5p (d6 (pv 0))) (a0N (a8a (X8 a5a (by rfl) B.isinstance (by rfl) B.bool a6f (d6 (pv 0))))))))
noncomputable abbrev Y6 : Stmt := top 4
theorem sc_is_lowest : FnScope ["thing", "size"] ["thing", "size"] (j8 Y6) := ⟨rfl, rfl, rfl, by decide +kernel, rfl, by decide +kernel, by decide +kernel⟩
set_option maxHeartbeats 4000000 in
theorem b1O {m_divisor : DFn} {m_is_whole : DFn} (C_divisor : Cal P w K mg base 2 "divisor" ["parts"] m_divisor) (C_is_whole : Cal P w K mg base 1 "is_whole" ["thing"] m_is_whole) {f : Addr} {fd : FuncData} (B : Blt mg) (F : Fun K "is_lowest" "is_lowest" Y6 f fd) (hm : mg "is_lowest" = some (.ref f)) (hb : Binds K fd ["thing", "size"] []) : Cal P w K mg base 3 "is_lowest" ["thing", "size"] (a4o m_divisor m_is_whole) :=
 v8 F hm hb sc_is_lowest fun cdv A outer s H E g hr =>
  have nd := sc_is_lowest.nd
  (j4 (B2 (WO.t (P6 (X9 (K7 (EO.b (X8 a2N (by rfl) B.isinstance (by rfl) B.tuple L7 (d6 (pv 0)))))) (T5 (w8 (G9 (u64 hr)) J5 (EO.b (C3 T1 T0 (by rfl) B.len S9 (bc (d6 (pv 0)) y8))) (d6 (pv 1)) (v6 _))))) (m8 (t7 G7)) B3) (j4 (B2 (X9 (K7 (EO.b (C3 (a3T rfl) a3c (by rfl) B.all a4N (bc (EO.b (FO.v (U4 (N' := ["part"]) (idx := []) rfl (T3 (by rfl) .nil (by decide +kernel) rfl (by decide +kernel) (by rfl) .nil) (S7 (i0 (pv 0))) (fun _ _ _ _ => C2 (i := 0) (show List.Nodup (["part"] : List Str) by decide +kernel) rfl (Or.inl rfl)) (fun _ _ _ _ _ => N2) (fun _ _ _ _ _ => (i8 C_is_whole _ hr (by decide) (by rfl) (ac (i0 (pv 0)) g9) (d9 i9)))))) y8))))) (m8 (t7 G7)) B3) (m8 (t7 (X2 (L5 a5X (C5 (fun i j => decide (j ≤ i))) (EO.b (i6 i5 i4 (d6 (pv 0)) (EO.b (P7 O9 P9 (EO.b d0))) (fun _ _ => rfl))) (EO.b d0) (v6 _)) (a0N (L5 (K2 (u64 hr)) K3 (EO.b (i8 C_divisor _ hr (by decide) (by rfl) (ac (i0 (pv 0)) g9) (d9 i9))) (EO.b d0) (v6 _))))))))
noncomputable abbrev X0 : Stmt := top 11
theorem sc_is_place : FnScope ["thing"] ["thing"] (j8 X0) := ⟨rfl, rfl, rfl, by decide +kernel, rfl, by decide +kernel, by decide +kernel⟩
set_option maxHeartbeats 4000000 in
theorem b3d {m_is_lowest : DFn} (C_is_lowest : Cal P w K mg base 3 "is_lowest" ["thing", "size"] m_is_lowest) {f : Addr} {fd : FuncData} (B : Blt mg) (F : Fun K "is_place" "is_place" X0 f fd) (hm : mg "is_place" = some (.ref f)) (hb : Binds K fd ["thing"] []) : Cal P w K mg base 4 "is_place" ["thing"] (a3X m_is_lowest) :=
 v8 F hm hb sc_is_place fun cdv A outer s H E g hr =>
  have nd := sc_is_place.nd
  (m8 (t7 (i8 C_is_lowest _ hr (by decide) (by rfl) (ac (i0 (pv 0)) (ac d0 g9)) (d9 (d9 i9)))))
noncomputable abbrev W8 : Stmt := top 21
theorem sc_are_places : FnScope ["thing", "fewest", "most"] ["thing"] (j8 W8) := ⟨rfl, rfl, rfl, by decide +kernel, rfl, by decide +kernel, by decide +kernel⟩
set_option maxHeartbeats 4000000 in
theorem b1I {m_is_place : DFn} (C_is_place : Cal P w K mg base 4 "is_place" ["thing"] m_is_place) {f : Addr} {fd : FuncData} (B : Blt mg) (F : Fun K "are_places" "are_places" W8 f fd) (hm : mg "are_places" = some (.ref f)) (hb : Binds K fd ["thing"] []) : Cal P w K mg base 5 "are_places" ["thing"] (a4q m_is_place) :=
 v8 F hm hb sc_are_places fun cdv A outer s H E g hr =>
  have nd := sc_are_places.nd
  (j4 (B2 (X9 (K7 (EO.b (X8 a2N (by rfl) B.isinstance (by rfl) B.tuple L7 (EO.b (i6 i5 i4 (d6 (pv 0)) (EO.b d0) (fun _ _ => rfl))))))) (m8 (t7 G7)) B3) (j4 (n9 (i := 1) nd rfl (by first | exact Or.inl rfl | exact Or.inr rfl) (a0m (K7 (EO.b (i6 i5 i4 (d6 (pv 0)) (EO.b d0) (fun _ _ => rfl)))) d0 d0)) (j4 (n9 (i := 2) nd rfl (by first | exact Or.inl rfl | exact Or.inr rfl) (a0m (K7 (EO.b (i6 i5 i4 (d6 (pv 0)) (EO.b d0) (fun _ _ => rfl)))) d0 d0)) (j4 (B2 (WO.t (P6 (w8 P1 (C5 (fun i j => decide (i < j))) (EO.b (C3 T1 T0 (by rfl) B.len S9 (bc (EO.b (i6 i5 i4 (d6 (pv 0)) (EO.b d0) (fun _ _ => rfl))) y8))) (d6 (pv 1)) (v6 _)) (T5 (w8 R0 (C5 (fun i j => decide (j < i))) (EO.b (C3 T1 T0 (by rfl) B.len S9 (bc (EO.b (i6 i5 i4 (d6 (pv 0)) (EO.b d0) (fun _ _ => rfl))) y8))) (d6 (pv 2)) (v6 _))))) (m8 (t7 G7)) B3) (m8 (t7 (C3 (a3T rfl) a3c (by rfl) B.all a4N (bc (EO.b (FO.v (U4 (N' := ["one"]) (idx := []) rfl (T3 (by rfl) .nil (by decide +kernel) rfl (by decide +kernel) (by rfl) .nil) (S7 (i6 i5 i4 (d6 (pv 0)) (EO.b d0) (fun _ _ => rfl))) (fun _ _ _ _ => C2 (i := 0) (show List.Nodup (["one"] : List Str) by decide +kernel) rfl (Or.inl rfl)) (fun _ _ _ _ _ => N2) (fun _ _ _ _ _ => (i8 C_is_place _ hr (by decide) (by rfl) (ac (i0 (pv 0)) g9) (d9 i9)))))) y8))))))))
noncomputable abbrev Z0 : Stmt := top 17
theorem sc_neighbours : FnScope ["row", "closed"] ["row", "closed"] (j8 Z0) := ⟨rfl, rfl, rfl, by decide +kernel, rfl, by decide +kernel, by decide +kernel⟩
set_option maxHeartbeats 4000000 in
theorem a9A {f : Addr} {fd : FuncData} (B : Blt mg) (F : Fun K "neighbours" "neighbours" Z0 f fd) (hm : mg "neighbours" = some (.ref f)) (hb : Binds K fd ["row", "closed"] []) : Cal P w K mg base 1 "neighbours" ["row", "closed"] (E7) :=
 v8 F hm hb sc_neighbours fun cdv A outer s H E g hr =>
  have nd := sc_neighbours.nd
  (j4 (B2 (K7 (d6 (pv 1))) (m8 (t7 (FO.v (a5o rfl (by rfl) B.list (by rfl) B.zip (bc (d6 (pv 0)) (bc (EO.b (j3 D3 D1 (EO.b (a2u (d6 (pv 0)) (a1t (EO.b d0)) a2a)) (EO.b (a2u (d6 (pv 0)) a2a (a1t (EO.b d0)))))) y8)))))) B3) (m8 (t7 (FO.v (a5o rfl (by rfl) B.list (by rfl) B.zip (bc (d6 (pv 0)) (bc (EO.b (a2u (d6 (pv 0)) (a1t (EO.b d0)) a2a)) y8)))))))
noncomputable abbrev Y4 : Stmt := top 24
theorem sc_pieces : FnScope ["line"] ["line"] (j8 Y4) := ⟨rfl, rfl, rfl, by decide +kernel, rfl, by decide +kernel, by decide +kernel⟩
set_option maxHeartbeats 4000000 in
theorem b3q {m_neighbours : DFn} (C_neighbours : Cal P w K mg base 1 "neighbours" ["row", "closed"] m_neighbours) {f : Addr} {fd : FuncData} (B : Blt mg) (F : Fun K "pieces" "pieces" Y4 f fd) (hm : mg "pieces" = some (.ref f)) (hb : Binds K fd ["line"] []) : Cal P w K mg base 2 "pieces" ["line"] (V2 m_neighbours) :=
 v8 F hm hb sc_pieces fun cdv A outer s H E g hr =>
  have nd := sc_pieces.nd
  (m8 (t7 (O0 R7 Q7 (by rfl) B.tuple L7 (bc (EO.b (i8 C_neighbours _ hr (by decide) (by rfl) (ac (i6 i5 i4 (d6 (pv 0)) (EO.b d0) (fun _ _ => rfl)) (ac (i6 i5 i4 (d6 (pv 0)) (EO.b d0) (fun _ _ => rfl)) g9)) (d9 (d9 i9)))) y8))))
noncomputable abbrev X7 : Stmt := top 22
theorem sc_goes_somewhere : FnScope ["line"] ["line"] (j8 X7) := ⟨rfl, rfl, rfl, by decide +kernel, rfl, by decide +kernel, by decide +kernel⟩
set_option maxHeartbeats 4000000 in
theorem b4q {m_pieces : DFn} (C_pieces : Cal P w K mg base 2 "pieces" ["line"] m_pieces) {f : Addr} {fd : FuncData} (B : Blt mg) (F : Fun K "goes_somewhere" "goes_somewhere" X7 f fd) (hm : mg "goes_somewhere" = some (.ref f)) (hb : Binds K fd ["line"] []) : Cal P w K mg base 3 "goes_somewhere" ["line"] (a4F m_pieces) :=
 v8 F hm hb sc_goes_somewhere fun cdv A outer s H E g hr =>
  have nd := sc_goes_somewhere.nd
  (m8 (t7 (C3 (a3T rfl) a3c (by rfl) B.all a4N (bc (EO.b (FO.v (a3Y (caps := []) (idx := []) rfl (a3o (by rfl) .nil (by decide +kernel) rfl (by decide +kernel) (by rfl) .nil) (S7 (i8 C_pieces _ hr (by decide) (by rfl) (ac (i0 (pv 0)) g9) (d9 i9))) (show List.Nodup (["a", "b"] : List Str) by decide +kernel) (fun _ _ _ _ => rfl) (fun _ _ _ _ => rfl) (fun _ _ _ _ _ => N2) (fun _ _ _ _ _ => (L5 (G9 (u64 hr)) J5 (d6 (pv 0)) (d6 (pv 1)) (v6 _)))))) y8))))
noncomputable abbrev a0b : Stmt := top 13
theorem sc_sign : FnScope ["number"] ["number"] (j8 a0b) := ⟨rfl, rfl, rfl, by decide +kernel, rfl, by decide +kernel, by decide +kernel⟩
set_option maxHeartbeats 4000000 in
theorem a8y {f : Addr} {fd : FuncData} (B : Blt mg) (F : Fun K "sign" "sign" a0b f fd) (hm : mg "sign" = some (.ref f)) (hb : Binds K fd ["number"] []) : Cal P w K mg base 1 "sign" ["number"] (a07) :=
 v8 F hm hb sc_sign fun cdv A outer s H E g hr =>
  have nd := sc_sign.nd
  (j4 (B2 (w8 R0 (C5 (fun i j => decide (j < i))) (d6 (pv 0)) (EO.b d0) (v6 _)) (m8 (t7 d0)) B3) (j4 (B2 (w8 P1 (C5 (fun i j => decide (i < j))) (d6 (pv 0)) (EO.b d0) (v6 _)) (m8 (t7 (P7 O9 P9 (EO.b d0)))) B3) (m8 (t7 d0))))
noncomputable abbrev a0A : Stmt := top 14
theorem sc_turn : FnScope ["a", "b", "c", "spread"] ["a", "b", "c"] (j8 a0A) := ⟨rfl, rfl, rfl, by decide +kernel, rfl, by decide +kernel, by decide +kernel⟩
set_option maxHeartbeats 4000000 in
theorem a7H {m_sign : DFn} (C_sign : Cal P w K mg base 1 "sign" ["number"] m_sign) {f : Addr} {fd : FuncData} (B : Blt mg) (F : Fun K "turn" "turn" a0A f fd) (hm : mg "turn" = some (.ref f)) (hb : Binds K fd ["a", "b", "c"] []) : Cal P w K mg base 2 "turn" ["a", "b", "c"] (a3N m_sign) :=
 v8 F hm hb sc_turn fun cdv A outer s H E g hr =>
  have nd := sc_turn.nd
  (j4 (n9 (i := 3) nd rfl (by first | exact Or.inl rfl | exact Or.inr rfl) (j3 u8 u7 (EO.b (i6 i5 i4 (d6 (pv 0)) (EO.b d0) (fun _ _ => rfl))) (EO.b (j3 G8 G4 (EO.b (j3 u8 u7 (EO.b (i6 i5 i4 (d6 (pv 1)) (EO.b d0) (fun _ _ => rfl))) (EO.b (i6 i5 i4 (d6 (pv 2)) (EO.b d0) (fun _ _ => rfl))))) (EO.b (j3 u8 u7 (EO.b (i6 i5 i4 (d6 (pv 2)) (EO.b d0) (fun _ _ => rfl))) (EO.b (i6 i5 i4 (d6 (pv 1)) (EO.b d0) (fun _ _ => rfl))))))))) (j4 (n9 (i := 3) nd rfl (by first | exact Or.inl rfl | exact Or.inr rfl) (j3 G8 G4 (d6 (pv 3)) (EO.b (j3 u8 u7 (EO.b (i6 i5 i4 (d6 (pv 0)) (EO.b d0) (fun _ _ => rfl))) (EO.b (j3 G8 G4 (EO.b (j3 u8 u7 (EO.b (i6 i5 i4 (d6 (pv 1)) (EO.b d0) (fun _ _ => rfl))) (EO.b (i6 i5 i4 (d6 (pv 2)) (EO.b d0) (fun _ _ => rfl))))) (EO.b (j3 u8 u7 (EO.b (i6 i5 i4 (d6 (pv 2)) (EO.b d0) (fun _ _ => rfl))) (EO.b (i6 i5 i4 (d6 (pv 1)) (EO.b d0) (fun _ _ => rfl))))))))))) (j4 (n9 (i := 3) nd rfl (by first | exact Or.inl rfl | exact Or.inr rfl) (j3 D3 D1 (d6 (pv 3)) (EO.b (j3 u8 u7 (EO.b (i6 i5 i4 (d6 (pv 0)) (EO.b d0) (fun _ _ => rfl))) (EO.b (j3 G8 G4 (EO.b (j3 u8 u7 (EO.b (i6 i5 i4 (d6 (pv 1)) (EO.b d0) (fun _ _ => rfl))) (EO.b (i6 i5 i4 (d6 (pv 2)) (EO.b d0) (fun _ _ => rfl))))) (EO.b (j3 u8 u7 (EO.b (i6 i5 i4 (d6 (pv 2)) (EO.b d0) (fun _ _ => rfl))) (EO.b (i6 i5 i4 (d6 (pv 1)) (EO.b d0) (fun _ _ => rfl))))))))))) (m8 (t7 (i8 C_sign _ hr (by decide) (by rfl) (ac (i0 (pv 3)) g9) (d9 i9)))))))
noncomputable abbrev a0p : Stmt := top 12
theorem sc_is_lesser : FnScope ["one", "other", "here", "there"] ["one", "other"] (j8 a0p) := ⟨rfl, rfl, rfl, by decide +kernel, rfl, by decide +kernel, by decide +kernel⟩
set_option maxHeartbeats 4000000 in
theorem b4s {f : Addr} {fd : FuncData} (B : Blt mg) (F : Fun K "is_lesser" "is_lesser" a0p f fd) (hm : mg "is_lesser" = some (.ref f)) (hb : Binds K fd ["one", "other"] []) : Cal P w K mg base 1 "is_lesser" ["one", "other"] (a1d) :=
 v8 F hm hb sc_is_lesser fun cdv A outer s H E g hr =>
  have nd := sc_is_lesser.nd
  (j4 (n9 (i := 2) nd rfl (by first | exact Or.inl rfl | exact Or.inr rfl) (j3 u8 u7 (EO.b (i6 i5 i4 (d6 (pv 0)) (EO.b d0) (fun _ _ => rfl))) (EO.b (i6 i5 i4 (d6 (pv 1)) (EO.b d0) (fun _ _ => rfl))))) (j4 (n9 (i := 3) nd rfl (by first | exact Or.inl rfl | exact Or.inr rfl) (j3 u8 u7 (EO.b (i6 i5 i4 (d6 (pv 1)) (EO.b d0) (fun _ _ => rfl))) (EO.b (i6 i5 i4 (d6 (pv 0)) (EO.b d0) (fun _ _ => rfl))))) (j4 (B2 (w8 (G9 (u64 hr)) J5 (d6 (pv 2)) (d6 (pv 3)) (v6 _)) (m8 (t7 (L5 P1 (C5 (fun i j => decide (i < j))) (d6 (pv 2)) (d6 (pv 3)) (v6 _)))) B3) (m8 (t7 (L5 P1 (C5 (fun i j => decide (i < j))) (EO.b (j3 u8 u7 (EO.b (i6 i5 i4 (d6 (pv 0)) (EO.b d0) (fun _ _ => rfl))) (EO.b (i6 i5 i4 (d6 (pv 1)) (EO.b d0) (fun _ _ => rfl))))) (EO.b (j3 u8 u7 (EO.b (i6 i5 i4 (d6 (pv 1)) (EO.b d0) (fun _ _ => rfl))) (EO.b (i6 i5 i4 (d6 (pv 0)) (EO.b d0) (fun _ _ => rfl))))) (v6 _)))))))
noncomputable abbrev W1 : Stmt := top 18
theorem sc_goes_on : FnScope ["a", "b", "c"] ["a", "b", "c"] (j8 W1) := ⟨rfl, rfl, rfl, by decide +kernel, rfl, by decide +kernel, by decide +kernel⟩
set_option maxHeartbeats 4000000 in
theorem a8v {m_is_lesser : DFn} {m_turn : DFn} (C_is_lesser : Cal P w K mg base 1 "is_lesser" ["one", "other"] m_is_lesser) (C_turn : Cal P w K mg base 2 "turn" ["a", "b", "c"] m_turn) {f : Addr} {fd : FuncData} (B : Blt mg) (F : Fun K "goes_on" "goes_on" W1 f fd) (hm : mg "goes_on" = some (.ref f)) (hb : Binds K fd ["a", "b", "c"] []) : Cal P w K mg base 3 "goes_on" ["a", "b", "c"] (a4m m_is_lesser m_turn) :=
 v8 F hm hb sc_goes_on fun cdv A outer s H E g hr =>
  have nd := sc_goes_on.nd
  (m8 (t7 (X2 (L5 (K2 (u64 hr)) K3 (EO.b (i8 C_turn _ hr (by decide) (by rfl) (ac (i0 (pv 0)) (ac (i0 (pv 1)) (ac (i0 (pv 2)) g9))) (d9 (d9 (d9 i9))))) (EO.b d0) (v6 _)) (a0N (L5 (K2 (u64 hr)) K3 (EO.b (i8 C_is_lesser _ hr (by decide) (by rfl) (ac (i0 (pv 0)) (ac (i0 (pv 1)) g9)) (d9 (d9 i9)))) (EO.b (i8 C_is_lesser _ hr (by decide) (by rfl) (ac (i0 (pv 1)) (ac (i0 (pv 2)) g9)) (d9 (d9 i9)))) (v6 _))))))
noncomputable abbrev X6 : Stmt := top 23
theorem sc_turns_everywhere : FnScope ["line", "one", "other"] ["line"] (j8 X6) := ⟨rfl, rfl, rfl, by decide +kernel, rfl, by decide +kernel, by decide +kernel⟩
set_option maxHeartbeats 4000000 in
theorem b3L {m_goes_on : DFn} {m_neighbours : DFn} {m_pieces : DFn} (C_goes_on : Cal P w K mg base 3 "goes_on" ["a", "b", "c"] m_goes_on) (C_neighbours : Cal P w K mg base 1 "neighbours" ["row", "closed"] m_neighbours) (C_pieces : Cal P w K mg base 2 "pieces" ["line"] m_pieces) {f : Addr} {fd : FuncData} (B : Blt mg) (F : Fun K "turns_everywhere" "turns_everywhere" X6 f fd) (hm : mg "turns_everywhere" = some (.ref f)) (hb : Binds K fd ["line"] []) : Cal P w K mg base 4 "turns_everywhere" ["line"] (a4b m_goes_on m_neighbours m_pieces) :=
 v8 F hm hb sc_turns_everywhere fun cdv A outer s H E g hr =>
  have nd := sc_turns_everywhere.nd
  (j4 (a6u PassesOwn.never rfl (i8 C_neighbours _ hr (by decide) (by rfl) (ac (i8 C_pieces _ hr (by decide) (by rfl) (ac (i0 (pv 0)) g9) (d9 i9)) (ac (i6 i5 i4 (d6 (pv 0)) (EO.b d0) (fun _ _ => rfl)) g9)) (d9 (d9 i9))) (a0S rfl (K8 (G6 (C2 (i := 1) nd rfl (by first | exact Or.inl rfl | exact Or.inr rfl))) (K8 (G6 (C2 (i := 2) nd rfl (by first | exact Or.inl rfl | exact Or.inr rfl))) a0P))) (m8 (B2 (K7 (EO.b (i8 C_goes_on _ hr (by decide) (by rfl) (ac (i6 i5 i4 (d6 (pv 1)) (EO.b d0) (fun _ _ => rfl)) (ac (i6 i5 i4 (d6 (pv 1)) (EO.b d0) (fun _ _ => rfl)) (ac (i6 i5 i4 (d6 (pv 2)) (EO.b d0) (fun _ _ => rfl)) g9))) (d9 (d9 (d9 i9)))))) (m8 (t7 G7)) B3))) (m8 (t7 G7)))
noncomputable abbrev a0u : Stmt := top 20
theorem sc_is_line : FnScope ["thing"] ["thing"] (j8 a0u) := ⟨rfl, rfl, rfl, by decide +kernel, rfl, by decide +kernel, by decide +kernel⟩
set_option maxHeartbeats 4000000 in
theorem b05 {m_turns_everywhere : DFn} {m_goes_somewhere : DFn} {m_are_places : DFn} (C_turns_everywhere : Cal P w K mg base 4 "turns_everywhere" ["line"] m_turns_everywhere) (C_goes_somewhere : Cal P w K mg base 3 "goes_somewhere" ["line"] m_goes_somewhere) (C_are_places : Cal P w K mg base 5 "are_places" ["thing"] m_are_places) {f : Addr} {fd : FuncData} (B : Blt mg) (F : Fun K "is_line" "is_line" a0u f fd) (hm : mg "is_line" = some (.ref f)) (hb : Binds K fd ["thing"] []) : Cal P w K mg base 6 "is_line" ["thing"] (a4g m_turns_everywhere m_goes_somewhere m_are_places) :=
 v8 F hm hb sc_is_line fun cdv A outer s H E g hr =>
  have nd := sc_is_line.nd
  (j4 (B2 (WO.t (P6 (X9 (K7 (EO.b (X8 a2N (by rfl) B.isinstance (by rfl) B.tuple L7 (d6 (pv 0)))))) (P6 (w8 (G9 (u64 hr)) J5 (EO.b (C3 T1 T0 (by rfl) B.len S9 (bc (d6 (pv 0)) y8))) (EO.b d0) (v6 _)) (T5 (X9 (K7 (EO.b (X8 a5a (by rfl) B.isinstance (by rfl) B.bool a6f (EO.b (i6 i5 i4 (d6 (pv 0)) (EO.b d0) (fun _ _ => rfl))))))))))) (m8 (t7 G7)) B3) (m8 (t7 (X2 (i8 C_are_places _ hr (by decide) (by rfl) (ac (i0 (pv 0)) g9) (d9 i9)) (X2 (i8 C_goes_somewhere _ hr (by decide) (by rfl) (ac (i0 (pv 0)) g9) (d9 i9)) (a0N (i8 C_turns_everywhere _ hr (by decide) (by rfl) (ac (i0 (pv 0)) g9) (d9 i9))))))))
noncomputable abbrev a0r : Stmt := top 48
theorem sc_law_pieces : FnScope ["_law_line_here", "_law_some"] ["_law_line_here"] (j8 a0r) := ⟨rfl, rfl, rfl, by decide +kernel, rfl, by decide +kernel, by decide +kernel⟩
set_option maxHeartbeats 4000000 in
theorem b2M {f : Addr} {fd : FuncData} (B : Blt mg) (F : Fun K "_law_pieces" "_law_pieces" a0r f fd) (hm : mg "_law_pieces" = some (.ref f)) (hb : Binds K fd ["_law_line_here"] []) : Cal P w K mg base 1 "_law_pieces" ["_law_line_here"] (Q2) :=
 v8 F hm hb sc_law_pieces fun cdv A outer s H E g hr =>
  have nd := sc_law_pieces.nd
  (j4 (n9 (i := 1) nd rfl (by first | exact Or.inl rfl | exact Or.inr rfl) (j3 D3 D1 (EO.b (i6 i5 i4 (d6 (pv 0)) (EO.b d0) (fun _ _ => rfl))) (EO.b (a2u (EO.b (i6 i5 i4 (d6 (pv 0)) (EO.b d0) (fun _ _ => rfl))) a2a (a1t (EO.b (O0 b2I a8N (by rfl) B.int a5p (bc (EO.b (i6 i5 i4 (d6 (pv 0)) (EO.b d0) (fun _ _ => rfl))) y8)))))))) (m8 (t7 (O0 R7 Q7 (by rfl) B.tuple L7 (bc (EO.b (FO.v (U4 (N' := ["_law_k", "_law_some"]) (idx := [1]) rfl (T3 (by rfl) (.cons rfl .nil) (by decide +kernel) rfl (by decide +kernel) (by rfl) (.cons rfl (by first | exact Or.inl rfl | exact Or.inr rfl) (by first | exact Or.inl rfl | exact Or.inr rfl) .nil)) (a7s (by rfl) B.range (j3 G8 G4 (EO.b (C3 T1 T0 (by rfl) B.len S9 (bc (d6 (pv 1)) y8))) (EO.b d0))) (fun _ _ _ _ => C2 (i := 0) (show List.Nodup (["_law_k", "_law_some"] : List Str) by decide +kernel) rfl (Or.inl rfl)) (fun _ _ _ _ _ => N2) (fun _ _ _ _ _ => (A1 (ac (i6 i5 i4 (d6 (pv 1)) (d6 (pv 0)) (fun _ _ => rfl)) (ac (i6 i5 i4 (d6 (pv 1)) (EO.b (j3 D3 D1 (d6 (pv 0)) (EO.b d0))) (fun _ _ => rfl)) g9))))))) y8)))))
noncomputable abbrev a0g : Stmt := top 46
theorem sc_law_root : FnScope ["_law_number_here", "_law_low", "_law_high", "_law_half"] ["_law_number_here"] (j8 a0g) := ⟨rfl, rfl, rfl, by decide +kernel, rfl, by decide +kernel, by decide +kernel⟩
set_option maxHeartbeats 4000000 in
theorem a8P {f : Addr} {fd : FuncData} (B : Blt mg) (F : Fun K "_law_root" "_law_root" a0g f fd) (hm : mg "_law_root" = some (.ref f)) (hb : Binds K fd ["_law_number_here"] []) : Cal P w K mg base 1 "_law_root" ["_law_number_here"] (W2) :=
 v8 F hm hb sc_law_root fun cdv A outer s H E g hr =>
  have nd := sc_law_root.nd
  (j4 (a1T (A1 (ac d0 (ac d0 g9))) (a0S rfl (K8 (G6 (C2 (i := 1) nd rfl (by first | exact Or.inl rfl | exact Or.inr rfl))) (K8 (G6 (C2 (i := 2) nd rfl (by first | exact Or.inl rfl | exact Or.inr rfl))) a0P)))) (j4 (Z4 PassesOwn.never (w8 a3G (C5 (fun i j => decide (i ≤ j))) (EO.b (j3 u8 u7 (d6 (pv 2)) (d6 (pv 2)))) (d6 (pv 0)) (v6 _)) (m8 (n9 (i := 2) nd rfl (by first | exact Or.inl rfl | exact Or.inr rfl) (j3 u8 u7 (d6 (pv 2)) (EO.b d0))))) (j4 (Z4 PassesOwn.never (w8 R0 (C5 (fun i j => decide (j < i))) (EO.b (j3 G8 G4 (d6 (pv 2)) (d6 (pv 1)))) (EO.b d0) (v6 _)) (j4 (n9 (i := 3) nd rfl (by first | exact Or.inl rfl | exact Or.inr rfl) (j3 E8 G1 (EO.b (j3 D3 D1 (d6 (pv 1)) (d6 (pv 2)))) (EO.b d0))) (m8 (a1T (a0m (w8 a3G (C5 (fun i j => decide (i ≤ j))) (EO.b (j3 u8 u7 (d6 (pv 3)) (d6 (pv 3)))) (d6 (pv 0)) (v6 _)) (A1 (ac (i0 (pv 3)) (ac (i0 (pv 2)) g9))) (A1 (ac (i0 (pv 1)) (ac (i0 (pv 3)) g9)))) (a0S rfl (K8 (G6 (C2 (i := 1) nd rfl (by first | exact Or.inl rfl | exact Or.inr rfl))) (K8 (G6 (C2 (i := 2) nd rfl (by first | exact Or.inl rfl | exact Or.inr rfl))) a0P))))))) (m8 (t7 (i0 (pv 1)))))))
noncomputable abbrev X1 : Stmt := top 47
theorem sc_law_length : FnScope ["_law_a", "_law_b", "_law_x", "_law_y", "_law_square", "_law_found"] ["_law_a", "_law_b"] (j8 X1) := ⟨rfl, rfl, rfl, by decide +kernel, rfl, by decide +kernel, by decide +kernel⟩
set_option maxHeartbeats 4000000 in
theorem a9B {m_law_product : DFn} {m_law_root : DFn} {m_law_sum : DFn} {m_law_minus : DFn} {m_law_xy : DFn} (C_law_product : Cal P w K mg base 2 "_law_product" ["_law_one", "_law_other"] m_law_product) (C_law_root : Cal P w K mg base 1 "_law_root" ["_law_number_here"] m_law_root) (C_law_sum : Cal P w K mg base 2 "_law_sum" ["_law_one", "_law_other"] m_law_sum) (C_law_minus : Cal P w K mg base 1 "_law_minus" ["_law_one"] m_law_minus) (C_law_xy : Cal P w K mg base 2 "_law_xy" ["_law_one"] m_law_xy) {f : Addr} {fd : FuncData} (B : Blt mg) (F : Fun K "_law_length" "_law_length" X1 f fd) (hm : mg "_law_length" = some (.ref f)) (hb : Binds K fd ["_law_a", "_law_b"] []) : Cal P w K mg base 3 "_law_length" ["_law_a", "_law_b"] (a2W m_law_product m_law_root m_law_sum m_law_minus m_law_xy) :=
 v8 F hm hb sc_law_length fun cdv A outer s H E g hr =>
  have nd := sc_law_length.nd
  (j4 (n9 (i := 2) nd rfl (by first | exact Or.inl rfl | exact Or.inr rfl) (i8 C_law_sum _ hr (by decide) (by rfl) (ac (i6 i5 i4 (EO.b (i8 C_law_xy _ hr (by decide) (by rfl) (ac (i0 (pv 1)) g9) (d9 i9))) (EO.b d0) (fun _ _ => rfl)) (ac (i8 C_law_minus _ hr (by decide) (by rfl) (ac (i6 i5 i4 (EO.b (i8 C_law_xy _ hr (by decide) (by rfl) (ac (i0 (pv 0)) g9) (d9 i9))) (EO.b d0) (fun _ _ => rfl)) g9) (d9 i9)) g9)) (d9 (d9 i9)))) (j4 (n9 (i := 3) nd rfl (by first | exact Or.inl rfl | exact Or.inr rfl) (i8 C_law_sum _ hr (by decide) (by rfl) (ac (i6 i5 i4 (EO.b (i8 C_law_xy _ hr (by decide) (by rfl) (ac (i0 (pv 1)) g9) (d9 i9))) (EO.b d0) (fun _ _ => rfl)) (ac (i8 C_law_minus _ hr (by decide) (by rfl) (ac (i6 i5 i4 (EO.b (i8 C_law_xy _ hr (by decide) (by rfl) (ac (i0 (pv 0)) g9) (d9 i9))) (EO.b d0) (fun _ _ => rfl)) g9) (d9 i9)) g9)) (d9 (d9 i9)))) (j4 (n9 (i := 4) nd rfl (by first | exact Or.inl rfl | exact Or.inr rfl) (i8 C_law_sum _ hr (by decide) (by rfl) (ac (i8 C_law_product _ hr (by decide) (by rfl) (ac (i0 (pv 2)) (ac (i0 (pv 2)) g9)) (d9 (d9 i9))) (ac (i8 C_law_product _ hr (by decide) (by rfl) (ac (i0 (pv 3)) (ac (i0 (pv 3)) g9)) (d9 (d9 i9))) g9)) (d9 (d9 i9)))) (j4 (n9 (i := 5) nd rfl (by first | exact Or.inl rfl | exact Or.inr rfl) (A1 (ac (i8 C_law_root _ hr (by decide) (by rfl) (ac (i6 i5 i4 (d6 (pv 4)) (EO.b d0) (fun _ _ => rfl)) g9) (d9 i9)) (ac (i8 C_law_root _ hr (by decide) (by rfl) (ac (i6 i5 i4 (d6 (pv 4)) (EO.b d0) (fun _ _ => rfl)) g9) (d9 i9)) g9)))) (m8 (t7 (a0m (w8 (K2 (u64 hr)) K3 (EO.b (i8 C_law_product _ hr (by decide) (by rfl) (ac (i0 (pv 5)) (ac (i0 (pv 5)) g9)) (d9 (d9 i9)))) (d6 (pv 4)) (v6 _)) (i0 (pv 5)) Y5)))))))
noncomputable abbrev a0B : Stmt := top 7
theorem sc_above_root : FnScope ["number", "guess", "rest"] ["number"] (j8 a0B) := ⟨rfl, rfl, rfl, by decide +kernel, rfl, by decide +kernel, by decide +kernel⟩
set_option maxHeartbeats 4000000 in
theorem b2g {f : Addr} {fd : FuncData} (B : Blt mg) (F : Fun K "above_root" "above_root" a0B f fd) (hm : mg "above_root" = some (.ref f)) (hb : Binds K fd ["number"] []) : Cal P w K mg base 1 "above_root" ["number"] (M8) :=
 v8 F hm hb sc_above_root fun cdv A outer s H E g hr =>
  have nd := sc_above_root.nd
  (j4 (n9 (i := 1) nd rfl (by first | exact Or.inl rfl | exact Or.inr rfl) d0) (j4 (n9 (i := 2) nd rfl (by first | exact Or.inl rfl | exact Or.inr rfl) (i0 (pv 0))) (j4 (Z4 PassesOwn.never (w8 R0 (C5 (fun i j => decide (j < i))) (d6 (pv 2)) (EO.b d0) (v6 _)) (j4 (n9 (i := 1) nd rfl (by first | exact Or.inl rfl | exact Or.inr rfl) (j3 u8 u7 (d6 (pv 1)) (EO.b d0))) (m8 (n9 (i := 2) nd rfl (by first | exact Or.inl rfl | exact Or.inr rfl) (j3 E8 G1 (d6 (pv 2)) (EO.b d0)))))) (m8 (t7 (i0 (pv 1)))))))
noncomputable abbrev a0y : Stmt := top 8
theorem sc_root_below : FnScope ["number", "guess", "better"] ["number"] (j8 a0y) := ⟨rfl, rfl, rfl, by decide +kernel, rfl, by decide +kernel, by decide +kernel⟩
set_option maxHeartbeats 4000000 in
theorem b2R {m_above_root : DFn} (C_above_root : Cal P w K mg base 1 "above_root" ["number"] m_above_root) {f : Addr} {fd : FuncData} (B : Blt mg) (F : Fun K "root_below" "root_below" a0y f fd) (hm : mg "root_below" = some (.ref f)) (hb : Binds K fd ["number"] []) : Cal P w K mg base 2 "root_below" ["number"] (T9 m_above_root) :=
 v8 F hm hb sc_root_below fun cdv A outer s H E g hr =>
  have nd := sc_root_below.nd
  (j4 (B2 (w8 (K2 (u64 hr)) K3 (d6 (pv 0)) (EO.b d0) (v6 _)) (m8 (t7 d0)) B3) (j4 (n9 (i := 1) nd rfl (by first | exact Or.inl rfl | exact Or.inr rfl) (i8 C_above_root _ hr (by decide) (by rfl) (ac (i0 (pv 0)) g9) (d9 i9))) (j4 (n9 (i := 2) nd rfl (by first | exact Or.inl rfl | exact Or.inr rfl) (j3 E8 G1 (EO.b (j3 D3 D1 (d6 (pv 1)) (EO.b (j3 E8 G1 (d6 (pv 0)) (d6 (pv 1)))))) (EO.b d0))) (j4 (Z4 PassesOwn.never (w8 P1 (C5 (fun i j => decide (i < j))) (d6 (pv 2)) (d6 (pv 1)) (v6 _)) (j4 (n9 (i := 1) nd rfl (by first | exact Or.inl rfl | exact Or.inr rfl) (i0 (pv 2))) (m8 (n9 (i := 2) nd rfl (by first | exact Or.inl rfl | exact Or.inr rfl) (j3 E8 G1 (EO.b (j3 D3 D1 (d6 (pv 1)) (EO.b (j3 E8 G1 (d6 (pv 0)) (d6 (pv 1)))))) (EO.b d0)))))) (m8 (t7 (i0 (pv 1))))))))
noncomputable abbrev Y8 : Stmt := top 9
theorem sc_root : FnScope ["one", "top", "bottom"] ["one"] (j8 Y8) := ⟨rfl, rfl, rfl, by decide +kernel, rfl, by decide +kernel, by decide +kernel⟩
set_option maxHeartbeats 4000000 in
theorem a8M {m_root_below : DFn} (C_root_below : Cal P w K mg base 2 "root_below" ["number"] m_root_below) {f : Addr} {fd : FuncData} (B : Blt mg) (F : Fun K "root" "root" Y8 f fd) (hm : mg "root" = some (.ref f)) (hb : Binds K fd ["one"] []) : Cal P w K mg base 3 "root" ["one"] (a0R m_root_below) :=
 v8 F hm hb sc_root fun cdv A outer s H E g hr =>
  have nd := sc_root.nd
  (j4 (B2 (w8 P1 (C5 (fun i j => decide (i < j))) (EO.b (i6 i5 i4 (d6 (pv 0)) (EO.b d0) (fun _ _ => rfl))) (EO.b d0) (v6 _)) (m8 (t7 Y5)) B3) (j4 (n9 (i := 1) nd rfl (by first | exact Or.inl rfl | exact Or.inr rfl) (i8 C_root_below _ hr (by decide) (by rfl) (ac (i6 i5 i4 (d6 (pv 0)) (EO.b d0) (fun _ _ => rfl)) g9) (d9 i9))) (j4 (n9 (i := 2) nd rfl (by first | exact Or.inl rfl | exact Or.inr rfl) (i8 C_root_below _ hr (by decide) (by rfl) (ac (i6 i5 i4 (d6 (pv 0)) (EO.b d0) (fun _ _ => rfl)) g9) (d9 i9))) (j4 (B2 (WO.t (P6 (w8 (G9 (u64 hr)) J5 (EO.b (j3 u8 u7 (d6 (pv 1)) (d6 (pv 1)))) (EO.b (i6 i5 i4 (d6 (pv 0)) (EO.b d0) (fun _ _ => rfl))) (v6 _)) (T5 (w8 (G9 (u64 hr)) J5 (EO.b (j3 u8 u7 (d6 (pv 2)) (d6 (pv 2)))) (EO.b (i6 i5 i4 (d6 (pv 0)) (EO.b d0) (fun _ _ => rfl))) (v6 _))))) (m8 (t7 Y5)) B3) (m8 (t7 (A1 (ac (i0 (pv 1)) (ac (i0 (pv 2)) g9)))))))))
noncomputable abbrev a0a : Stmt := top 5
theorem sc_lowest : FnScope ["parts", "shared"] ["parts"] (j8 a0a) := ⟨rfl, rfl, rfl, by decide +kernel, rfl, by decide +kernel, by decide +kernel⟩
set_option maxHeartbeats 4000000 in
theorem b4j {m_divisor : DFn} (C_divisor : Cal P w K mg base 2 "divisor" ["parts"] m_divisor) {f : Addr} {fd : FuncData} (B : Blt mg) (F : Fun K "lowest" "lowest" a0a f fd) (hm : mg "lowest" = some (.ref f)) (hb : Binds K fd ["parts"] []) : Cal P w K mg base 3 "lowest" ["parts"] (a1J m_divisor) :=
 v8 F hm hb sc_lowest fun cdv A outer s H E g hr =>
  have nd := sc_lowest.nd
  (j4 (n9 (i := 1) nd rfl (by first | exact Or.inl rfl | exact Or.inr rfl) (i8 C_divisor _ hr (by decide) (by rfl) (ac (i0 (pv 0)) g9) (d9 i9))) (j4 (B2 (w8 P1 (C5 (fun i j => decide (i < j))) (EO.b (i6 i5 i4 (d6 (pv 0)) (EO.b (P7 O9 P9 (EO.b d0))) (fun _ _ => rfl))) (EO.b d0) (v6 _)) (m8 (n9 (i := 1) nd rfl (by first | exact Or.inl rfl | exact Or.inr rfl) (P7 O9 P9 (d6 (pv 1))))) B3) (m8 (t7 (O0 R7 Q7 (by rfl) B.tuple L7 (bc (EO.b (FO.v (U4 (N' := ["part", "shared"]) (idx := [1]) rfl (T3 (by rfl) (.cons rfl .nil) (by decide +kernel) rfl (by decide +kernel) (by rfl) (.cons rfl (by first | exact Or.inl rfl | exact Or.inr rfl) (by first | exact Or.inl rfl | exact Or.inr rfl) .nil)) (S7 (i0 (pv 0))) (fun _ _ _ _ => C2 (i := 0) (show List.Nodup (["part", "shared"] : List Str) by decide +kernel) rfl (Or.inl rfl)) (fun _ _ _ _ _ => N2) (fun _ _ _ _ _ => (j3 E8 G1 (d6 (pv 0)) (d6 (pv 1))))))) y8))))))
noncomputable abbrev Y3 : Stmt := top 6
theorem sc_fraction : FnScope ["top", "bottom"] ["top", "bottom"] (j8 Y3) := ⟨rfl, rfl, rfl, by decide +kernel, rfl, by decide +kernel, by decide +kernel⟩
set_option maxHeartbeats 4000000 in
theorem b3S {m_lowest : DFn} (C_lowest : Cal P w K mg base 3 "lowest" ["parts"] m_lowest) {f : Addr} {fd : FuncData} (B : Blt mg) (F : Fun K "fraction" "fraction" Y3 f fd) (hm : mg "fraction" = some (.ref f)) (hb : Binds K fd ["top", "bottom"] []) : Cal P w K mg base 4 "fraction" ["top", "bottom"] (a1M m_lowest) :=
 v8 F hm hb sc_fraction fun cdv A outer s H E g hr =>
  have nd := sc_fraction.nd
  (m8 (t7 (i8 C_lowest _ hr (by decide) (by rfl) (ac (A1 (ac (i0 (pv 0)) (ac (i0 (pv 1)) g9))) g9) (d9 i9))))
noncomputable abbrev W6 : Stmt := top 15
theorem sc_squared : FnScope ["one", "other", "wide", "high", "bottom"] ["one", "other"] (j8 W6) := ⟨rfl, rfl, rfl, by decide +kernel, rfl, by decide +kernel, by decide +kernel⟩
set_option maxHeartbeats 4000000 in
theorem b0Y {m_fraction : DFn} (C_fraction : Cal P w K mg base 4 "fraction" ["top", "bottom"] m_fraction) {f : Addr} {fd : FuncData} (B : Blt mg) (F : Fun K "squared" "squared" W6 f fd) (hm : mg "squared" = some (.ref f)) (hb : Binds K fd ["one", "other"] []) : Cal P w K mg base 5 "squared" ["one", "other"] (V0 m_fraction) :=
 v8 F hm hb sc_squared fun cdv A outer s H E g hr =>
  have nd := sc_squared.nd
  (j4 (n9 (i := 2) nd rfl (by first | exact Or.inl rfl | exact Or.inr rfl) (j3 G8 G4 (EO.b (j3 u8 u7 (EO.b (i6 i5 i4 (d6 (pv 0)) (EO.b d0) (fun _ _ => rfl))) (EO.b (i6 i5 i4 (d6 (pv 1)) (EO.b d0) (fun _ _ => rfl))))) (EO.b (j3 u8 u7 (EO.b (i6 i5 i4 (d6 (pv 1)) (EO.b d0) (fun _ _ => rfl))) (EO.b (i6 i5 i4 (d6 (pv 0)) (EO.b d0) (fun _ _ => rfl))))))) (j4 (n9 (i := 3) nd rfl (by first | exact Or.inl rfl | exact Or.inr rfl) (j3 G8 G4 (EO.b (j3 u8 u7 (EO.b (i6 i5 i4 (d6 (pv 0)) (EO.b d0) (fun _ _ => rfl))) (EO.b (i6 i5 i4 (d6 (pv 1)) (EO.b d0) (fun _ _ => rfl))))) (EO.b (j3 u8 u7 (EO.b (i6 i5 i4 (d6 (pv 1)) (EO.b d0) (fun _ _ => rfl))) (EO.b (i6 i5 i4 (d6 (pv 0)) (EO.b d0) (fun _ _ => rfl))))))) (j4 (n9 (i := 4) nd rfl (by first | exact Or.inl rfl | exact Or.inr rfl) (j3 u8 u7 (EO.b (i6 i5 i4 (d6 (pv 0)) (EO.b d0) (fun _ _ => rfl))) (EO.b (i6 i5 i4 (d6 (pv 1)) (EO.b d0) (fun _ _ => rfl))))) (m8 (t7 (i8 C_fraction _ hr (by decide) (by rfl) (ac (j3 D3 D1 (EO.b (j3 u8 u7 (d6 (pv 2)) (d6 (pv 2)))) (EO.b (j3 u8 u7 (d6 (pv 3)) (d6 (pv 3))))) (ac (j3 u8 u7 (d6 (pv 4)) (d6 (pv 4))) g9)) (d9 (d9 i9))))))))
noncomputable abbrev Z6 : Stmt := top 25
theorem sc_lengths : FnScope ["line"] ["line"] (j8 Z6) := ⟨rfl, rfl, rfl, by decide +kernel, rfl, by decide +kernel, by decide +kernel⟩
set_option maxHeartbeats 4000000 in
theorem b2W {m_pieces : DFn} {m_root : DFn} {m_squared : DFn} (C_pieces : Cal P w K mg base 2 "pieces" ["line"] m_pieces) (C_root : Cal P w K mg base 3 "root" ["one"] m_root) (C_squared : Cal P w K mg base 5 "squared" ["one", "other"] m_squared) {f : Addr} {fd : FuncData} (B : Blt mg) (F : Fun K "lengths" "lengths" Z6 f fd) (hm : mg "lengths" = some (.ref f)) (hb : Binds K fd ["line"] []) : Cal P w K mg base 6 "lengths" ["line"] (a1R m_pieces m_root m_squared) :=
 v8 F hm hb sc_lengths fun cdv A outer s H E g hr =>
  have nd := sc_lengths.nd
  (m8 (t7 (O0 R7 Q7 (by rfl) B.tuple L7 (bc (EO.b (FO.v (a3Y (caps := []) (idx := []) rfl (a3o (by rfl) .nil (by decide +kernel) rfl (by decide +kernel) (by rfl) .nil) (S7 (i8 C_pieces _ hr (by decide) (by rfl) (ac (i0 (pv 0)) g9) (d9 i9))) (show List.Nodup (["a", "b"] : List Str) by decide +kernel) (fun _ _ _ _ => rfl) (fun _ _ _ _ => rfl) (fun _ _ _ _ _ => N2) (fun _ _ _ _ _ => (i8 C_root _ hr (by decide) (by rfl) (ac (i8 C_squared _ hr (by decide) (by rfl) (ac (i0 (pv 0)) (ac (i0 (pv 1)) g9)) (d9 (d9 i9))) g9) (d9 i9)))))) y8))))
noncomputable abbrev Y2 : Stmt := top 26
theorem sc_is_exact : FnScope ["line"] ["line"] (j8 Y2) := ⟨rfl, rfl, rfl, by decide +kernel, rfl, by decide +kernel, by decide +kernel⟩
set_option maxHeartbeats 4000000 in
theorem b0c {m_lengths : DFn} (C_lengths : Cal P w K mg base 6 "lengths" ["line"] m_lengths) {f : Addr} {fd : FuncData} (B : Blt mg) (F : Fun K "is_exact" "is_exact" Y2 f fd) (hm : mg "is_exact" = some (.ref f)) (hb : Binds K fd ["line"] []) : Cal P w K mg base 7 "is_exact" ["line"] (a3e m_lengths) :=
 v8 F hm hb sc_is_exact fun cdv A outer s H E g hr =>
  have nd := sc_is_exact.nd
  (m8 (t7 (L5 (a5i (u64 hr)) a6s (EO.b Y5) (EO.b (i8 C_lengths _ hr (by decide) (by rfl) (ac (i0 (pv 0)) g9) (d9 i9))) (by rfl))))
noncomputable abbrev N9 : Stmt := top 49
theorem sc_law : FnScope ["_law_script", "_law_feed_here", "_law_k", "_law_line_here", "_law_kept", "_law_due", "_law_long"] ["_law_script"] (j8 N9) := ⟨rfl, rfl, rfl, by decide +kernel, rfl, by decide +kernel, by decide +kernel⟩
set_option maxHeartbeats 4000000 in
theorem b3H {m_is_line : DFn} {m_is_exact : DFn} {m_lengths : DFn} {m_pieces : DFn} {m_law_length : DFn} {m_law_pieces : DFn} {m_law_draw : DFn} {m_law_place : DFn} {m_law_line : DFn} {m_law_feed : DFn} (C_is_line : Cal P w K mg base 6 "is_line" ["thing"] m_is_line) (C_is_exact : Cal P w K mg base 7 "is_exact" ["line"] m_is_exact) (C_lengths : Cal P w K mg base 6 "lengths" ["line"] m_lengths) (C_pieces : Cal P w K mg base 2 "pieces" ["line"] m_pieces) (C_law_length : Cal P w K mg base 3 "_law_length" ["_law_a", "_law_b"] m_law_length) (C_law_pieces : Cal P w K mg base 1 "_law_pieces" ["_law_line_here"] m_law_pieces) (C_law_draw : Cal P w K mg base 1 "_law_draw" ["_law_feed_here", "_law_many"] m_law_draw) (C_law_place : Cal P w K mg base 3 "_law_place" ["_law_feed_here"] m_law_place) (C_law_line : Cal P w K mg base 5 "_law_line" ["_law_feed_here", "_law_most"] m_law_line) (C_law_feed : Cal P w K mg base 1 "_law_feed" ["_law_script"] m_law_feed) {f : Addr} {fd : FuncData} (B : Blt mg) (F : Fun K "law" "law" N9 f fd) : FnD P w K mg base 8 f fd ["_law_script"] (a2Q m_is_line m_is_exact m_lengths m_pieces m_law_length m_law_pieces m_law_draw m_law_place m_law_line m_law_feed) :=
 a6Q F sc_law fun cdv A outer s H E g hr =>
  have nd := sc_law.nd
  (j4 (n9 (i := 1) nd rfl (by first | exact Or.inl rfl | exact Or.inr rfl) (i8 C_law_feed _ hr (by decide) (by rfl) (ac (i0 (pv 0)) g9) (d9 i9))) (j4 (a5F PassesOwn.never rfl (by rfl) B.range d0 (G6 (C2 (i := 2) nd rfl (by first | exact Or.inl rfl | exact Or.inr rfl))) (j4 (n9 (i := 3) nd rfl (by first | exact Or.inl rfl | exact Or.inr rfl) (i8 C_law_line _ hr (by decide) (by rfl) (ac (i0 (pv 1)) (ac d0 g9)) (d9 (d9 i9)))) (j4 (B2 (w8 (K2 (u64 hr)) K3 (EO.b (j3 L1 L8 (d6 (pv 2)) (EO.b d0))) (EO.b d0) (v6 _)) (m8 (n9 (i := 3) nd rfl (by first | exact Or.inl rfl | exact Or.inr rfl) (A1 (ac G7 (ac (O0 R7 Q7 (by rfl) B.tuple L7 (bc (EO.b (FO.v (U4 (N' := ["_law_j", "_law_feed_here"]) (idx := [1]) rfl (T3 (by rfl) (.cons rfl .nil) (by decide +kernel) rfl (by decide +kernel) (by rfl) (.cons rfl (by first | exact Or.inl rfl | exact Or.inr rfl) (by first | exact Or.inl rfl | exact Or.inr rfl) .nil)) (a7s (by rfl) B.range (j3 D3 D1 (EO.b d0) (EO.b (i8 C_law_draw _ hr (by decide) (by rfl) (ac (i0 (pv 1)) (ac d0 g9)) (d9 (d9 i9)))))) (fun _ _ _ _ => C2 (i := 0) (show List.Nodup (["_law_j", "_law_feed_here"] : List Str) by decide +kernel) rfl (Or.inl rfl)) (fun _ _ _ _ _ => N2) (fun _ _ _ _ _ => (i8 C_law_place _ hr (by decide) (by rfl) (ac (i0 (pv 1)) g9) (d9 i9)))))) y8)) g9))))) B3) (m8 (B2 (K7 (EO.b (i8 C_is_line _ hr (by decide) (by rfl) (ac (i0 (pv 3)) g9) (d9 i9)))) (j4 (n9 (i := 4) nd rfl (by first | exact Or.inl rfl | exact Or.inr rfl) (C3 (R9 (u66 hr) hr.gd) R3 (by rfl) B.repr Q0 (bc (d6 (pv 3)) y8))) (j4 (n9 (i := 5) nd rfl (by first | exact Or.inl rfl | exact Or.inr rfl) (i8 C_law_pieces _ hr (by decide) (by rfl) (ac (i0 (pv 3)) g9) (d9 i9))) (j4 (n9 (i := 6) nd rfl (by first | exact Or.inl rfl | exact Or.inr rfl) (O0 R7 Q7 (by rfl) B.tuple L7 (bc (EO.b (FO.v (a3Y (caps := []) (idx := []) rfl (a3o (by rfl) .nil (by decide +kernel) rfl (by decide +kernel) (by rfl) .nil) (S7 (i0 (pv 5))) (show List.Nodup (["_law_a", "_law_b"] : List Str) by decide +kernel) (fun _ _ _ _ => rfl) (fun _ _ _ _ => rfl) (fun _ _ _ _ _ => N2) (fun _ _ _ _ _ => (i8 C_law_length _ hr (by decide) (by rfl) (ac (i0 (pv 0)) (ac (i0 (pv 1)) g9)) (d9 (d9 i9))))))) y8))) (j4 (B2 (WO.t (P6 (w8 (G9 (u64 hr)) J5 (EO.b (C3 (R9 (u66 hr) hr.gd) R3 (by rfl) B.repr Q0 (bc (EO.b (i8 C_pieces _ hr (by decide) (by rfl) (ac (i0 (pv 3)) g9) (d9 i9))) y8))) (EO.b (C3 (R9 (u66 hr) hr.gd) R3 (by rfl) B.repr Q0 (bc (d6 (pv 5)) y8))) (v6 _)) (T5 (w8 (G9 (u64 hr)) J5 (EO.b (C3 (R9 (u66 hr) hr.gd) R3 (by rfl) B.repr Q0 (bc (EO.b (i8 C_lengths _ hr (by decide) (by rfl) (ac (i0 (pv 3)) g9) (d9 i9))) y8))) (EO.b (C3 (R9 (u66 hr) hr.gd) R3 (by rfl) B.repr Q0 (bc (d6 (pv 6)) y8))) (v6 _))))) (m8 (t7 G7)) B3) (m8 (B2 (WO.t (P6 (w8 (G9 (u64 hr)) J5 (EO.b (C3 (R9 (u66 hr) hr.gd) R3 (by rfl) B.repr Q0 (bc (EO.b (i8 C_is_exact _ hr (by decide) (by rfl) (ac (i0 (pv 3)) g9) (d9 i9))) y8))) (EO.b (C3 (R9 (u66 hr) hr.gd) R3 (by rfl) B.repr Q0 (bc (EO.b (L5 (a5i (u64 hr)) a6s (EO.b Y5) (d6 (pv 6)) (by rfl))) y8))) (v6 _)) (P6 (WO.t (a3W (w8 P1 (C5 (fun i j => decide (i < j))) (EO.b (j3 L1 L8 (d6 (pv 2)) (EO.b d0))) (EO.b d0) (v6 _)) (a3H (w8 (b2H (u64 hr)) b2D (EO.b Y5) (d6 (pv 6)) (by rfl))))) (T5 (w8 (G9 (u64 hr)) J5 (EO.b (C3 (R9 (u66 hr) hr.gd) R3 (by rfl) B.repr Q0 (bc (d6 (pv 3)) y8))) (d6 (pv 4)) (v6 _)))))) (m8 (t7 G7)) B3)))))) B3))))) (m8 (t7 G7))))
end
end T

namespace T
open PySem PySem.Spec L2 DL
noncomputable abbrev whole : DFn := (a2Q (a4g (a4b (a4m a1d (a3N a07)) E7 (V2 E7)) (a4F (V2 E7)) (a4q (a3X (a4o (N0 J2) U1)))) (a3e (a1R (V2 E7) (a0R (T9 M8)) (V0 (a1M (a1J (N0 J2)))))) (a1R (V2 E7) (a0R (T9 M8)) (V0 (a1M (a1J (N0 J2))))) (V2 E7) (a2W (U8 B6) W2 (a0d B6) L4 (a0V B6)) Q2 z9 (a0O (T4 B6) (a1f B6 z9)) (a3m z9 (a4n z9 (a1A (T4 B6) (a0d B6) (a0V B6)) (U8 B6) B6 (a0J (U8 B6) B6 z9) (a0O (T4 B6) (a1f B6 z9))) (a4r (a2E (a0d B6) (U8 B6)) (a1A (T4 B6) (a0d B6) (a0V B6)) z9 L4 (a0J (U8 B6) B6 z9) (a0O (T4 B6) (a1f B6 z9)))) a0Q)
theorem on1 {α : Type _} {P : List α → Prop} (h : ∀ a1 : α, P [a1]) : ∀ us : List α, us.length = 1 → P us := by
 intro us e
 match us, e with | [a1], _ => exact h a1
theorem on2 {α : Type _} {P : List α → Prop} (h : ∀ a1 a2 : α, P [a1, a2]) : ∀ us : List α, us.length = 2 → P us := by
 intro us e
 match us, e with | [a1, a2], _ => exact h a1 a2
theorem on3 {α : Type _} {P : List α → Prop} (h : ∀ a1 a2 a3 : α, P [a1, a2, a3]) : ∀ us : List α, us.length = 3 → P us := by
 intro us e
 match us, e with | [a1, a2, a3], _ => exact h a1 a2 a3
set_option maxHeartbeats 4000000 in
theorem all_mk {l : PySem.W.OpenLaw} {w : World} {K : PySem.W.Frag} {h : Heap} {mg : Str → Option Value} {fa : Addr} (X : K.In h) (G : h.Ns mainGlobals mg) (hfa : mg "law" = some (.ref fa)) {f1 f2 f3 f4 f5 f6 f7 f8 f9 f10 f11 f12 f13 f14 f15 f16 f17 f18 f19 f20 f21 f22 f23 f24 f25 f26 f27 f28 f29 f30 f31 f32 f33 f34 f35 f36 f37 f38 f39 f40 f41 f42 f43 : Addr} {od1 an1 od2 an2 od3 an3 od4 an4 od5 an5 od6 an6 od7 an7 od8 an8 od9 an9 od10 an10 od11 an11 od12 an12 od13 an13 od14 an14 od15 an15 od16 an16 od17 an17 od18 an18 od19 an19 od20 an20 od21 an21 od22 an22 od23 an23 od24 an24 od25 an25 od26 an26 od27 an27 od28 an28 od29 an29 od30 an30 od31 an31 od32 an32 od33 an33 od34 an34 od35 an35 od36 an36 od37 an37 od38 an38 od39 an39 od40 an40 od41 an41 od42 an42 od43 an43 : Option Addr} {sl1 sl2 sl3 sl4 sl5 sl6 sl7 sl8 sl9 sl10 sl11 sl12 sl13 sl14 sl15 sl16 sl17 sl18 sl19 sl20 sl21 sl22 sl23 sl24 sl25 sl26 sl27 sl28 sl29 sl30 sl31 sl32 sl33 sl34 sl35 sl36 sl37 sl38 sl39 sl40 sl41 sl42 sl43 : Array (Option Value)} {oc1 kV1 dc1 pm1 cd1 ct1 oc2 kV2 dc2 pm2 cd2 ct2 oc3 kV3 dc3 pm3 cd3 ct3 oc4 kV4 dc4 pm4 cd4 ct4 oc5 kV5 dc5 pm5 cd5 ct5 oc6 kV6 dc6 pm6 cd6 ct6 oc7 kV7 dc7 pm7 cd7 ct7 oc8 kV8 dc8 pm8 cd8 ct8 oc9 kV9 dc9 pm9 cd9 ct9 oc10 kV10 dc10 pm10 cd10 ct10 oc11 kV11 dc11 pm11 cd11 ct11 oc12 kV12 dc12 pm12 cd12 ct12 oc13 kV13 dc13 pm13 cd13 ct13 oc14 kV14 dc14 pm14 cd14 ct14 oc15 kV15 dc15 pm15 cd15 ct15 oc16 kV16 dc16 pm16 cd16 ct16 oc17 kV17 dc17 pm17 cd17 ct17 oc18 kV18 dc18 pm18 cd18 ct18 oc19 kV19 dc19 pm19 cd19 ct19 oc20 kV20 dc20 pm20 cd20 ct20 oc21 kV21 dc21 pm21 cd21 ct21 oc22 kV22 dc22 pm22 cd22 ct22 oc23 kV23 dc23 pm23 cd23 ct23 oc24 kV24 dc24 pm24 cd24 ct24 oc25 kV25 dc25 pm25 cd25 ct25 oc26 kV26 dc26 pm26 cd26 ct26 oc27 kV27 dc27 pm27 cd27 ct27 oc28 kV28 dc28 pm28 cd28 ct28 oc29 kV29 dc29 pm29 cd29 ct29 oc30 kV30 dc30 pm30 cd30 ct30 oc31 kV31 dc31 pm31 cd31 ct31 oc32 kV32 dc32 pm32 cd32 ct32 oc33 kV33 dc33 pm33 cd33 ct33 oc34 kV34 dc34 pm34 cd34 ct34 oc35 kV35 dc35 pm35 cd35 ct35 oc36 kV36 dc36 pm36 cd36 ct36 oc37 kV37 dc37 pm37 cd37 ct37 oc38 kV38 dc38 pm38 cd38 ct38 oc39 kV39 dc39 pm39 cd39 ct39 oc40 kV40 dc40 pm40 cd40 ct40 oc41 kV41 dc41 pm41 cd41 ct41 oc42 kV42 dc42 pm42 cd42 ct42 oc43 kV43 dc43 pm43 cd43 ct43 : Value} 
  (a1 : PySem.W.nsIn K mainGlobals "_law_feed" = some (some (.ref f1))) (l1 : K.lookup f1 = some ⟨oc1, od1, .func (PySem.W.fnOf "_law_feed" "_law_feed" (v5 a0t) (u9 a0t) (j8 a0t) .none kV1 dc1 pm1 an1 cd1 ct1), sl1⟩) (c1 : PySem.W.codeIn K cd1 "_law_feed" = true) (k1 : PySem.W.keepIn K (.ref f1) = true)
  (a2 : PySem.W.nsIn K mainGlobals "_law_fraction" = some (some (.ref f2))) (l2 : K.lookup f2 = some ⟨oc2, od2, .func (PySem.W.fnOf "_law_fraction" "_law_fraction" (v5 a0v) (u9 a0v) (j8 a0v) .none kV2 dc2 pm2 an2 cd2 ct2), sl2⟩) (c2 : PySem.W.codeIn K cd2 "_law_fraction" = true) (k2 : PySem.W.keepIn K (.ref f2) = true)
  (a3 : PySem.W.nsIn K mainGlobals "_law_draw" = some (some (.ref f3))) (l3 : K.lookup f3 = some ⟨oc3, od3, .func (PySem.W.fnOf "_law_draw" "_law_draw" (v5 Z7) (u9 Z7) (j8 Z7) .none kV3 dc3 pm3 an3 cd3 ct3), sl3⟩) (c3 : PySem.W.codeIn K cd3 "_law_draw" = true) (k3 : PySem.W.keepIn K (.ref f3) = true)
  (a4 : PySem.W.nsIn K mainGlobals "_law_product" = some (some (.ref f4))) (l4 : K.lookup f4 = some ⟨oc4, od4, .func (PySem.W.fnOf "_law_product" "_law_product" (v5 a0i) (u9 a0i) (j8 a0i) .none kV4 dc4 pm4 an4 cd4 ct4), sl4⟩) (c4 : PySem.W.codeIn K cd4 "_law_product" = true) (k4 : PySem.W.keepIn K (.ref f4) = true)
  (a5 : PySem.W.nsIn K mainGlobals "_law_way" = some (some (.ref f5))) (l5 : K.lookup f5 = some ⟨oc5, od5, .func (PySem.W.fnOf "_law_way" "_law_way" (v5 a0w) (u9 a0w) (j8 a0w) .none kV5 dc5 pm5 an5 cd5 ct5), sl5⟩) (c5 : PySem.W.codeIn K cd5 "_law_way" = true) (k5 : PySem.W.keepIn K (.ref f5) = true)
  (a6 : PySem.W.nsIn K mainGlobals "_law_at" = some (some (.ref f6))) (l6 : K.lookup f6 = some ⟨oc6, od6, .func (PySem.W.fnOf "_law_at" "_law_at" (v5 Y9) (u9 Y9) (j8 Y9) .none kV6 dc6 pm6 an6 cd6 ct6), sl6⟩) (c6 : PySem.W.codeIn K cd6 "_law_at" = true) (k6 : PySem.W.keepIn K (.ref f6) = true)
  (a7 : PySem.W.nsIn K mainGlobals "_law_number" = some (some (.ref f7))) (l7 : K.lookup f7 = some ⟨oc7, od7, .func (PySem.W.fnOf "_law_number" "_law_number" (v5 W9) (u9 W9) (j8 W9) .none kV7 dc7 pm7 an7 cd7 ct7), sl7⟩) (c7 : PySem.W.codeIn K cd7 "_law_number" = true) (k7 : PySem.W.keepIn K (.ref f7) = true)
  (a8 : PySem.W.nsIn K mainGlobals "_law_place" = some (some (.ref f8))) (l8 : K.lookup f8 = some ⟨oc8, od8, .func (PySem.W.fnOf "_law_place" "_law_place" (v5 a0h) (u9 a0h) (j8 a0h) .none kV8 dc8 pm8 an8 cd8 ct8), sl8⟩) (c8 : PySem.W.codeIn K cd8 "_law_place" = true) (k8 : PySem.W.keepIn K (.ref f8) = true)
  (a9 : PySem.W.nsIn K mainGlobals "_law_xy" = some (some (.ref f9))) (l9 : K.lookup f9 = some ⟨oc9, od9, .func (PySem.W.fnOf "_law_xy" "_law_xy" (v5 a0z) (u9 a0z) (j8 a0z) .none kV9 dc9 pm9 an9 cd9 ct9), sl9⟩) (c9 : PySem.W.codeIn K cd9 "_law_xy" = true) (k9 : PySem.W.keepIn K (.ref f9) = true)
  (a10 : PySem.W.nsIn K mainGlobals "_law_sum" = some (some (.ref f10))) (l10 : K.lookup f10 = some ⟨oc10, od10, .func (PySem.W.fnOf "_law_sum" "_law_sum" (v5 X5) (u9 X5) (j8 X5) .none kV10 dc10 pm10 an10 cd10 ct10), sl10⟩) (c10 : PySem.W.codeIn K cd10 "_law_sum" = true) (k10 : PySem.W.keepIn K (.ref f10) = true)
  (a11 : PySem.W.nsIn K mainGlobals "_law_gone" = some (some (.ref f11))) (l11 : K.lookup f11 = some ⟨oc11, od11, .func (PySem.W.fnOf "_law_gone" "_law_gone" (v5 a0n) (u9 a0n) (j8 a0n) .none kV11 dc11 pm11 an11 cd11 ct11), sl11⟩) (c11 : PySem.W.codeIn K cd11 "_law_gone" = true) (k11 : PySem.W.keepIn K (.ref f11) = true)
  (a12 : PySem.W.nsIn K mainGlobals "_law_closed_line" = some (some (.ref f12))) (l12 : K.lookup f12 = some ⟨oc12, od12, .func (PySem.W.fnOf "_law_closed_line" "_law_closed_line" (v5 a0x) (u9 a0x) (j8 a0x) .none kV12 dc12 pm12 an12 cd12 ct12), sl12⟩) (c12 : PySem.W.codeIn K cd12 "_law_closed_line" = true) (k12 : PySem.W.keepIn K (.ref f12) = true)
  (a13 : PySem.W.nsIn K mainGlobals "_law_minus" = some (some (.ref f13))) (l13 : K.lookup f13 = some ⟨oc13, od13, .func (PySem.W.fnOf "_law_minus" "_law_minus" (v5 a0l) (u9 a0l) (j8 a0l) .none kV13 dc13 pm13 an13 cd13 ct13), sl13⟩) (c13 : PySem.W.codeIn K cd13 "_law_minus" = true) (k13 : PySem.W.keepIn K (.ref f13) = true)
  (a14 : PySem.W.nsIn K mainGlobals "_law_goes_on" = some (some (.ref f14))) (l14 : K.lookup f14 = some ⟨oc14, od14, .func (PySem.W.fnOf "_law_goes_on" "_law_goes_on" (v5 X4) (u9 X4) (j8 X4) .none kV14 dc14 pm14 an14 cd14 ct14), sl14⟩) (c14 : PySem.W.codeIn K cd14 "_law_goes_on" = true) (k14 : PySem.W.keepIn K (.ref f14) = true)
  (a15 : PySem.W.nsIn K mainGlobals "_law_open_line" = some (some (.ref f15))) (l15 : K.lookup f15 = some ⟨oc15, od15, .func (PySem.W.fnOf "_law_open_line" "_law_open_line" (v5 Z2) (u9 Z2) (j8 Z2) .none kV15 dc15 pm15 an15 cd15 ct15), sl15⟩) (c15 : PySem.W.codeIn K cd15 "_law_open_line" = true) (k15 : PySem.W.keepIn K (.ref f15) = true)
  (a16 : PySem.W.nsIn K mainGlobals "_law_line" = some (some (.ref f16))) (l16 : K.lookup f16 = some ⟨oc16, od16, .func (PySem.W.fnOf "_law_line" "_law_line" (v5 Y1) (u9 Y1) (j8 Y1) .none kV16 dc16 pm16 an16 cd16 ct16), sl16⟩) (c16 : PySem.W.codeIn K cd16 "_law_line" = true) (k16 : PySem.W.keepIn K (.ref f16) = true)
  (a17 : PySem.W.nsIn K mainGlobals "divisor_of_two" = some (some (.ref f17))) (l17 : K.lookup f17 = some ⟨oc17, od17, .func (PySem.W.fnOf "divisor_of_two" "divisor_of_two" (v5 a0q) (u9 a0q) (j8 a0q) .none kV17 dc17 pm17 an17 cd17 ct17), sl17⟩) (c17 : PySem.W.codeIn K cd17 "divisor_of_two" = true) (k17 : PySem.W.keepIn K (.ref f17) = true)
  (a18 : PySem.W.nsIn K mainGlobals "divisor" = some (some (.ref f18))) (l18 : K.lookup f18 = some ⟨oc18, od18, .func (PySem.W.fnOf "divisor" "divisor" (v5 W0) (u9 W0) (j8 W0) .none kV18 dc18 pm18 an18 cd18 ct18), sl18⟩) (c18 : PySem.W.codeIn K cd18 "divisor" = true) (k18 : PySem.W.keepIn K (.ref f18) = true)
  (a19 : PySem.W.nsIn K mainGlobals "is_whole" = some (some (.ref f19))) (l19 : K.lookup f19 = some ⟨oc19, od19, .func (PySem.W.fnOf "is_whole" "is_whole" (v5 Z9) (u9 Z9) (j8 Z9) .none kV19 dc19 pm19 an19 cd19 ct19), sl19⟩) (c19 : PySem.W.codeIn K cd19 "is_whole" = true) (k19 : PySem.W.keepIn K (.ref f19) = true)
  (a20 : PySem.W.nsIn K mainGlobals "is_lowest" = some (some (.ref f20))) (l20 : K.lookup f20 = some ⟨oc20, od20, .func (PySem.W.fnOf "is_lowest" "is_lowest" (v5 Y6) (u9 Y6) (j8 Y6) .none kV20 dc20 pm20 an20 cd20 ct20), sl20⟩) (c20 : PySem.W.codeIn K cd20 "is_lowest" = true) (k20 : PySem.W.keepIn K (.ref f20) = true)
  (a21 : PySem.W.nsIn K mainGlobals "is_place" = some (some (.ref f21))) (l21 : K.lookup f21 = some ⟨oc21, od21, .func (PySem.W.fnOf "is_place" "is_place" (v5 X0) (u9 X0) (j8 X0) .none kV21 dc21 pm21 an21 cd21 ct21), sl21⟩) (c21 : PySem.W.codeIn K cd21 "is_place" = true) (k21 : PySem.W.keepIn K (.ref f21) = true)
  (a22 : PySem.W.nsIn K mainGlobals "are_places" = some (some (.ref f22))) (l22 : K.lookup f22 = some ⟨oc22, od22, .func (PySem.W.fnOf "are_places" "are_places" (v5 W8) (u9 W8) (j8 W8) .none kV22 dc22 pm22 an22 cd22 ct22), sl22⟩) (c22 : PySem.W.codeIn K cd22 "are_places" = true) (k22 : PySem.W.keepIn K (.ref f22) = true)
  (a23 : PySem.W.nsIn K mainGlobals "neighbours" = some (some (.ref f23))) (l23 : K.lookup f23 = some ⟨oc23, od23, .func (PySem.W.fnOf "neighbours" "neighbours" (v5 Z0) (u9 Z0) (j8 Z0) .none kV23 dc23 pm23 an23 cd23 ct23), sl23⟩) (c23 : PySem.W.codeIn K cd23 "neighbours" = true) (k23 : PySem.W.keepIn K (.ref f23) = true)
  (a24 : PySem.W.nsIn K mainGlobals "pieces" = some (some (.ref f24))) (l24 : K.lookup f24 = some ⟨oc24, od24, .func (PySem.W.fnOf "pieces" "pieces" (v5 Y4) (u9 Y4) (j8 Y4) .none kV24 dc24 pm24 an24 cd24 ct24), sl24⟩) (c24 : PySem.W.codeIn K cd24 "pieces" = true) (k24 : PySem.W.keepIn K (.ref f24) = true)
  (a25 : PySem.W.nsIn K mainGlobals "goes_somewhere" = some (some (.ref f25))) (l25 : K.lookup f25 = some ⟨oc25, od25, .func (PySem.W.fnOf "goes_somewhere" "goes_somewhere" (v5 X7) (u9 X7) (j8 X7) .none kV25 dc25 pm25 an25 cd25 ct25), sl25⟩) (c25 : PySem.W.codeIn K cd25 "goes_somewhere" = true) (k25 : PySem.W.keepIn K (.ref f25) = true)
  (a26 : PySem.W.nsIn K mainGlobals "sign" = some (some (.ref f26))) (l26 : K.lookup f26 = some ⟨oc26, od26, .func (PySem.W.fnOf "sign" "sign" (v5 a0b) (u9 a0b) (j8 a0b) .none kV26 dc26 pm26 an26 cd26 ct26), sl26⟩) (c26 : PySem.W.codeIn K cd26 "sign" = true) (k26 : PySem.W.keepIn K (.ref f26) = true)
  (a27 : PySem.W.nsIn K mainGlobals "turn" = some (some (.ref f27))) (l27 : K.lookup f27 = some ⟨oc27, od27, .func (PySem.W.fnOf "turn" "turn" (v5 a0A) (u9 a0A) (j8 a0A) .none kV27 dc27 pm27 an27 cd27 ct27), sl27⟩) (c27 : PySem.W.codeIn K cd27 "turn" = true) (k27 : PySem.W.keepIn K (.ref f27) = true)
  (a28 : PySem.W.nsIn K mainGlobals "is_lesser" = some (some (.ref f28))) (l28 : K.lookup f28 = some ⟨oc28, od28, .func (PySem.W.fnOf "is_lesser" "is_lesser" (v5 a0p) (u9 a0p) (j8 a0p) .none kV28 dc28 pm28 an28 cd28 ct28), sl28⟩) (c28 : PySem.W.codeIn K cd28 "is_lesser" = true) (k28 : PySem.W.keepIn K (.ref f28) = true)
  (a29 : PySem.W.nsIn K mainGlobals "goes_on" = some (some (.ref f29))) (l29 : K.lookup f29 = some ⟨oc29, od29, .func (PySem.W.fnOf "goes_on" "goes_on" (v5 W1) (u9 W1) (j8 W1) .none kV29 dc29 pm29 an29 cd29 ct29), sl29⟩) (c29 : PySem.W.codeIn K cd29 "goes_on" = true) (k29 : PySem.W.keepIn K (.ref f29) = true)
  (a30 : PySem.W.nsIn K mainGlobals "turns_everywhere" = some (some (.ref f30))) (l30 : K.lookup f30 = some ⟨oc30, od30, .func (PySem.W.fnOf "turns_everywhere" "turns_everywhere" (v5 X6) (u9 X6) (j8 X6) .none kV30 dc30 pm30 an30 cd30 ct30), sl30⟩) (c30 : PySem.W.codeIn K cd30 "turns_everywhere" = true) (k30 : PySem.W.keepIn K (.ref f30) = true)
  (a31 : PySem.W.nsIn K mainGlobals "is_line" = some (some (.ref f31))) (l31 : K.lookup f31 = some ⟨oc31, od31, .func (PySem.W.fnOf "is_line" "is_line" (v5 a0u) (u9 a0u) (j8 a0u) .none kV31 dc31 pm31 an31 cd31 ct31), sl31⟩) (c31 : PySem.W.codeIn K cd31 "is_line" = true) (k31 : PySem.W.keepIn K (.ref f31) = true)
  (a32 : PySem.W.nsIn K mainGlobals "_law_pieces" = some (some (.ref f32))) (l32 : K.lookup f32 = some ⟨oc32, od32, .func (PySem.W.fnOf "_law_pieces" "_law_pieces" (v5 a0r) (u9 a0r) (j8 a0r) .none kV32 dc32 pm32 an32 cd32 ct32), sl32⟩) (c32 : PySem.W.codeIn K cd32 "_law_pieces" = true) (k32 : PySem.W.keepIn K (.ref f32) = true)
  (a33 : PySem.W.nsIn K mainGlobals "_law_root" = some (some (.ref f33))) (l33 : K.lookup f33 = some ⟨oc33, od33, .func (PySem.W.fnOf "_law_root" "_law_root" (v5 a0g) (u9 a0g) (j8 a0g) .none kV33 dc33 pm33 an33 cd33 ct33), sl33⟩) (c33 : PySem.W.codeIn K cd33 "_law_root" = true) (k33 : PySem.W.keepIn K (.ref f33) = true)
  (a34 : PySem.W.nsIn K mainGlobals "_law_length" = some (some (.ref f34))) (l34 : K.lookup f34 = some ⟨oc34, od34, .func (PySem.W.fnOf "_law_length" "_law_length" (v5 X1) (u9 X1) (j8 X1) .none kV34 dc34 pm34 an34 cd34 ct34), sl34⟩) (c34 : PySem.W.codeIn K cd34 "_law_length" = true) (k34 : PySem.W.keepIn K (.ref f34) = true)
  (a35 : PySem.W.nsIn K mainGlobals "above_root" = some (some (.ref f35))) (l35 : K.lookup f35 = some ⟨oc35, od35, .func (PySem.W.fnOf "above_root" "above_root" (v5 a0B) (u9 a0B) (j8 a0B) .none kV35 dc35 pm35 an35 cd35 ct35), sl35⟩) (c35 : PySem.W.codeIn K cd35 "above_root" = true) (k35 : PySem.W.keepIn K (.ref f35) = true)
  (a36 : PySem.W.nsIn K mainGlobals "root_below" = some (some (.ref f36))) (l36 : K.lookup f36 = some ⟨oc36, od36, .func (PySem.W.fnOf "root_below" "root_below" (v5 a0y) (u9 a0y) (j8 a0y) .none kV36 dc36 pm36 an36 cd36 ct36), sl36⟩) (c36 : PySem.W.codeIn K cd36 "root_below" = true) (k36 : PySem.W.keepIn K (.ref f36) = true)
  (a37 : PySem.W.nsIn K mainGlobals "root" = some (some (.ref f37))) (l37 : K.lookup f37 = some ⟨oc37, od37, .func (PySem.W.fnOf "root" "root" (v5 Y8) (u9 Y8) (j8 Y8) .none kV37 dc37 pm37 an37 cd37 ct37), sl37⟩) (c37 : PySem.W.codeIn K cd37 "root" = true) (k37 : PySem.W.keepIn K (.ref f37) = true)
  (a38 : PySem.W.nsIn K mainGlobals "lowest" = some (some (.ref f38))) (l38 : K.lookup f38 = some ⟨oc38, od38, .func (PySem.W.fnOf "lowest" "lowest" (v5 a0a) (u9 a0a) (j8 a0a) .none kV38 dc38 pm38 an38 cd38 ct38), sl38⟩) (c38 : PySem.W.codeIn K cd38 "lowest" = true) (k38 : PySem.W.keepIn K (.ref f38) = true)
  (a39 : PySem.W.nsIn K mainGlobals "fraction" = some (some (.ref f39))) (l39 : K.lookup f39 = some ⟨oc39, od39, .func (PySem.W.fnOf "fraction" "fraction" (v5 Y3) (u9 Y3) (j8 Y3) .none kV39 dc39 pm39 an39 cd39 ct39), sl39⟩) (c39 : PySem.W.codeIn K cd39 "fraction" = true) (k39 : PySem.W.keepIn K (.ref f39) = true)
  (a40 : PySem.W.nsIn K mainGlobals "squared" = some (some (.ref f40))) (l40 : K.lookup f40 = some ⟨oc40, od40, .func (PySem.W.fnOf "squared" "squared" (v5 W6) (u9 W6) (j8 W6) .none kV40 dc40 pm40 an40 cd40 ct40), sl40⟩) (c40 : PySem.W.codeIn K cd40 "squared" = true) (k40 : PySem.W.keepIn K (.ref f40) = true)
  (a41 : PySem.W.nsIn K mainGlobals "lengths" = some (some (.ref f41))) (l41 : K.lookup f41 = some ⟨oc41, od41, .func (PySem.W.fnOf "lengths" "lengths" (v5 Z6) (u9 Z6) (j8 Z6) .none kV41 dc41 pm41 an41 cd41 ct41), sl41⟩) (c41 : PySem.W.codeIn K cd41 "lengths" = true) (k41 : PySem.W.keepIn K (.ref f41) = true)
  (a42 : PySem.W.nsIn K mainGlobals "is_exact" = some (some (.ref f42))) (l42 : K.lookup f42 = some ⟨oc42, od42, .func (PySem.W.fnOf "is_exact" "is_exact" (v5 Y2) (u9 Y2) (j8 Y2) .none kV42 dc42 pm42 an42 cd42 ct42), sl42⟩) (c42 : PySem.W.codeIn K cd42 "is_exact" = true) (k42 : PySem.W.keepIn K (.ref f42) = true)
  (a43 : PySem.W.nsIn K mainGlobals "law" = some (some (.ref f43))) (l43 : K.lookup f43 = some ⟨oc43, od43, .func (PySem.W.fnOf "law" "law" (v5 N9) (u9 N9) (j8 N9) .none kV43 dc43 pm43 an43 cd43 ct43), sl43⟩) (c43 : PySem.W.codeIn K cd43 "law" = true) (k43 : PySem.W.keepIn K (.ref f43) = true)
  (z_len : PySem.W.nsIn K mainGlobals "len" = some none)
  (z_range : PySem.W.nsIn K mainGlobals "range" = some none)
  (z_abs : PySem.W.nsIn K mainGlobals "abs" = some none)
  (z_tuple : PySem.W.nsIn K mainGlobals "tuple" = some none)
  (z_list : PySem.W.nsIn K mainGlobals "list" = some none)
  (z_int : PySem.W.nsIn K mainGlobals "int" = some none)
  (z_bool : PySem.W.nsIn K mainGlobals "bool" = some none)
  (z_str : PySem.W.nsIn K mainGlobals "str" = some none)
  (z_repr : PySem.W.nsIn K mainGlobals "repr" = some none)
  (z_all : PySem.W.nsIn K mainGlobals "all" = some none)
  (z_isinstance : PySem.W.nsIn K mainGlobals "isinstance" = some none)
  (z_zip : PySem.W.nsIn K mainGlobals "zip" = some none)
  (z_enumerate : PySem.W.nsIn K mainGlobals "enumerate" = some none)
  (z_min : PySem.W.nsIn K mainGlobals "min" = some none)
  (z_max : PySem.W.nsIn K mainGlobals "max" = some none)
  (z_reversed : PySem.W.nsIn K mainGlobals "reversed" = some none)
  (z_any : PySem.W.nsIn K mainGlobals "any" = some none)
  (z_sum : PySem.W.nsIn K mainGlobals "sum" = some none)
  (z_sorted : PySem.W.nsIn K mainGlobals "sorted" = some none) :
  ∃ fd : FuncData, (∀ (s : Shared) (v : Value), BindsTo s fd ⟨[v], []⟩ [("_law_script", v)]) ∧ ∀ base : Heap, K.In base → base.Ns mainGlobals mg → FnOk l.prog w K mg base CX0 8 fa fd ["_law_script"] (spD K 1 whole) := by
 have e := hfa.symm.trans (PySem.W.mg_of X G a43)
 cases e
 have B : Blt mg := ⟨PySem.W.mg_none_of X G z_len, PySem.W.mg_none_of X G z_range, PySem.W.mg_none_of X G z_abs, PySem.W.mg_none_of X G z_tuple, PySem.W.mg_none_of X G z_list, PySem.W.mg_none_of X G z_int, PySem.W.mg_none_of X G z_bool, PySem.W.mg_none_of X G z_str, PySem.W.mg_none_of X G z_repr, PySem.W.mg_none_of X G z_all, PySem.W.mg_none_of X G z_isinstance, PySem.W.mg_none_of X G z_zip, PySem.W.mg_none_of X G z_enumerate, PySem.W.mg_none_of X G z_min, PySem.W.mg_none_of X G z_max, PySem.W.mg_none_of X G z_reversed, PySem.W.mg_none_of X G z_any, PySem.W.mg_none_of X G z_sum, PySem.W.mg_none_of X G z_sorted⟩
 have F1 := v7 (st := a0t) l1 c1 k1
 have b1 := F1.binds (ps := ["_law_script"]) fun _ _ _ _ _ _ => on1 fun _ => rfl
 have F2 := v7 (st := a0v) l2 c2 k2
 have b2 := F2.binds (ps := ["_law_top", "_law_bottom"]) fun _ _ _ _ _ _ => on2 fun _ _ => rfl
 have F3 := v7 (st := Z7) l3 c3 k3
 have b3 := F3.binds (ps := ["_law_feed_here", "_law_many"]) fun _ _ _ _ _ _ => on2 fun _ _ => rfl
 have F4 := v7 (st := a0i) l4 c4 k4
 have b4 := F4.binds (ps := ["_law_one", "_law_other"]) fun _ _ _ _ _ _ => on2 fun _ _ => rfl
 have F5 := v7 (st := a0w) l5 c5 k5
 have b5 := F5.binds (ps := ["_law_feed_here"]) fun _ _ _ _ _ _ => on1 fun _ => rfl
 have F6 := v7 (st := Y9) l6 c6 k6
 have b6 := F6.binds (ps := ["_law_x", "_law_y"]) fun _ _ _ _ _ _ => on2 fun _ _ => rfl
 have F7 := v7 (st := W9) l7 c7 k7
 have b7 := F7.binds (ps := ["_law_feed_here"]) fun _ _ _ _ _ _ => on1 fun _ => rfl
 have F8 := v7 (st := a0h) l8 c8 k8
 have b8 := F8.binds (ps := ["_law_feed_here"]) fun _ _ _ _ _ _ => on1 fun _ => rfl
 have F9 := v7 (st := a0z) l9 c9 k9
 have b9 := F9.binds (ps := ["_law_one"]) fun _ _ _ _ _ _ => on1 fun _ => rfl
 have F10 := v7 (st := X5) l10 c10 k10
 have b10 := F10.binds (ps := ["_law_one", "_law_other"]) fun _ _ _ _ _ _ => on2 fun _ _ => rfl
 have F11 := v7 (st := a0n) l11 c11 k11
 have b11 := F11.binds (ps := ["_law_one", "_law_x", "_law_y"]) fun _ _ _ _ _ _ => on3 fun _ _ _ => rfl
 have F12 := v7 (st := a0x) l12 c12 k12
 have b12 := F12.binds (ps := ["_law_feed_here"]) fun _ _ _ _ _ _ => on1 fun _ => rfl
 have F13 := v7 (st := a0l) l13 c13 k13
 have b13 := F13.binds (ps := ["_law_one"]) fun _ _ _ _ _ _ => on1 fun _ => rfl
 have F14 := v7 (st := X4) l14 c14 k14
 have b14 := F14.binds (ps := ["_law_first", "_law_second"]) fun _ _ _ _ _ _ => on2 fun _ _ => rfl
 have F15 := v7 (st := Z2) l15 c15 k15
 have b15 := F15.binds (ps := ["_law_feed_here", "_law_most"]) fun _ _ _ _ _ _ => on2 fun _ _ => rfl
 have F16 := v7 (st := Y1) l16 c16 k16
 have b16 := F16.binds (ps := ["_law_feed_here", "_law_most"]) fun _ _ _ _ _ _ => on2 fun _ _ => rfl
 have F17 := v7 (st := a0q) l17 c17 k17
 have b17 := F17.binds (ps := ["one", "other"]) fun _ _ _ _ _ _ => on2 fun _ _ => rfl
 have F18 := v7 (st := W0) l18 c18 k18
 have b18 := F18.binds (ps := ["parts"]) fun _ _ _ _ _ _ => on1 fun _ => rfl
 have F19 := v7 (st := Z9) l19 c19 k19
 have b19 := F19.binds (ps := ["thing"]) fun _ _ _ _ _ _ => on1 fun _ => rfl
 have F20 := v7 (st := Y6) l20 c20 k20
 have b20 := F20.binds (ps := ["thing", "size"]) fun _ _ _ _ _ _ => on2 fun _ _ => rfl
 have F21 := v7 (st := X0) l21 c21 k21
 have b21 := F21.binds (ps := ["thing"]) fun _ _ _ _ _ _ => on1 fun _ => rfl
 have F22 := v7 (st := W8) l22 c22 k22
 have b22 := F22.binds (ps := ["thing"]) fun _ _ _ _ _ _ => on1 fun _ => rfl
 have F23 := v7 (st := Z0) l23 c23 k23
 have b23 := F23.binds (ps := ["row", "closed"]) fun _ _ _ _ _ _ => on2 fun _ _ => rfl
 have F24 := v7 (st := Y4) l24 c24 k24
 have b24 := F24.binds (ps := ["line"]) fun _ _ _ _ _ _ => on1 fun _ => rfl
 have F25 := v7 (st := X7) l25 c25 k25
 have b25 := F25.binds (ps := ["line"]) fun _ _ _ _ _ _ => on1 fun _ => rfl
 have F26 := v7 (st := a0b) l26 c26 k26
 have b26 := F26.binds (ps := ["number"]) fun _ _ _ _ _ _ => on1 fun _ => rfl
 have F27 := v7 (st := a0A) l27 c27 k27
 have b27 := F27.binds (ps := ["a", "b", "c"]) fun _ _ _ _ _ _ => on3 fun _ _ _ => rfl
 have F28 := v7 (st := a0p) l28 c28 k28
 have b28 := F28.binds (ps := ["one", "other"]) fun _ _ _ _ _ _ => on2 fun _ _ => rfl
 have F29 := v7 (st := W1) l29 c29 k29
 have b29 := F29.binds (ps := ["a", "b", "c"]) fun _ _ _ _ _ _ => on3 fun _ _ _ => rfl
 have F30 := v7 (st := X6) l30 c30 k30
 have b30 := F30.binds (ps := ["line"]) fun _ _ _ _ _ _ => on1 fun _ => rfl
 have F31 := v7 (st := a0u) l31 c31 k31
 have b31 := F31.binds (ps := ["thing"]) fun _ _ _ _ _ _ => on1 fun _ => rfl
 have F32 := v7 (st := a0r) l32 c32 k32
 have b32 := F32.binds (ps := ["_law_line_here"]) fun _ _ _ _ _ _ => on1 fun _ => rfl
 have F33 := v7 (st := a0g) l33 c33 k33
 have b33 := F33.binds (ps := ["_law_number_here"]) fun _ _ _ _ _ _ => on1 fun _ => rfl
 have F34 := v7 (st := X1) l34 c34 k34
 have b34 := F34.binds (ps := ["_law_a", "_law_b"]) fun _ _ _ _ _ _ => on2 fun _ _ => rfl
 have F35 := v7 (st := a0B) l35 c35 k35
 have b35 := F35.binds (ps := ["number"]) fun _ _ _ _ _ _ => on1 fun _ => rfl
 have F36 := v7 (st := a0y) l36 c36 k36
 have b36 := F36.binds (ps := ["number"]) fun _ _ _ _ _ _ => on1 fun _ => rfl
 have F37 := v7 (st := Y8) l37 c37 k37
 have b37 := F37.binds (ps := ["one"]) fun _ _ _ _ _ _ => on1 fun _ => rfl
 have F38 := v7 (st := a0a) l38 c38 k38
 have b38 := F38.binds (ps := ["parts"]) fun _ _ _ _ _ _ => on1 fun _ => rfl
 have F39 := v7 (st := Y3) l39 c39 k39
 have b39 := F39.binds (ps := ["top", "bottom"]) fun _ _ _ _ _ _ => on2 fun _ _ => rfl
 have F40 := v7 (st := W6) l40 c40 k40
 have b40 := F40.binds (ps := ["one", "other"]) fun _ _ _ _ _ _ => on2 fun _ _ => rfl
 have F41 := v7 (st := Z6) l41 c41 k41
 have b41 := F41.binds (ps := ["line"]) fun _ _ _ _ _ _ => on1 fun _ => rfl
 have F42 := v7 (st := Y2) l42 c42 k42
 have b42 := F42.binds (ps := ["line"]) fun _ _ _ _ _ _ => on1 fun _ => rfl
 have F43 := v7 (st := N9) l43 c43 k43
 refine ⟨PySem.W.fnOf "law" "law" (v5 N9) (u9 N9) (j8 N9) .none kV43 dc43 pm43 an43 cd43 ct43, fun s v => .of_eq rfl, fun base _ _ => ?_⟩
 have C_law_feed := b1e (P := l.prog) (w := w) (base := base) B F1 (PySem.W.mg_of X G a1) b1
 have C_law_fraction := b3N (P := l.prog) (w := w) (base := base) B F2 (PySem.W.mg_of X G a2) b2
 have C_law_draw := a9r (P := l.prog) (w := w) (base := base) B F3 (PySem.W.mg_of X G a3) b3
 have C_law_product := b0t (P := l.prog) (w := w) (base := base) C_law_fraction B F4 (PySem.W.mg_of X G a4) b4
 have C_law_way := b09 (P := l.prog) (w := w) (base := base) C_law_product C_law_fraction C_law_draw B F5 (PySem.W.mg_of X G a5) b5
 have C_law_at := b01 (P := l.prog) (w := w) (base := base) C_law_fraction B F6 (PySem.W.mg_of X G a6) b6
 have C_law_number := a9X (P := l.prog) (w := w) (base := base) C_law_fraction C_law_draw B F7 (PySem.W.mg_of X G a7) b7
 have C_law_place := b3X (P := l.prog) (w := w) (base := base) C_law_at C_law_number B F8 (PySem.W.mg_of X G a8) b8
 have C_law_xy := b3U (P := l.prog) (w := w) (base := base) C_law_fraction B F9 (PySem.W.mg_of X G a9) b9
 have C_law_sum := a7O (P := l.prog) (w := w) (base := base) C_law_fraction B F10 (PySem.W.mg_of X G a10) b10
 have C_law_gone := a8z (P := l.prog) (w := w) (base := base) C_law_at C_law_sum C_law_xy B F11 (PySem.W.mg_of X G a11) b11
 have C_law_closed_line := b3x (P := l.prog) (w := w) (base := base) C_law_draw C_law_gone C_law_product C_law_fraction C_law_way C_law_place B F12 (PySem.W.mg_of X G a12) b12
 have C_law_minus := b1M (P := l.prog) (w := w) (base := base) B F13 (PySem.W.mg_of X G a13) b13
 have C_law_goes_on := b2A (P := l.prog) (w := w) (base := base) C_law_sum C_law_product B F14 (PySem.W.mg_of X G a14) b14
 have C_law_open_line := b4u (P := l.prog) (w := w) (base := base) C_law_goes_on C_law_gone C_law_draw C_law_minus C_law_way C_law_place B F15 (PySem.W.mg_of X G a15) b15
 have C_law_line := a8U (P := l.prog) (w := w) (base := base) C_law_draw C_law_closed_line C_law_open_line B F16 (PySem.W.mg_of X G a16) b16
 have C_divisor_of_two := b0f (P := l.prog) (w := w) (base := base) B F17 (PySem.W.mg_of X G a17) b17
 have C_divisor := b3r (P := l.prog) (w := w) (base := base) C_divisor_of_two B F18 (PySem.W.mg_of X G a18) b18
 have C_is_whole := b1C (P := l.prog) (w := w) (base := base) B F19 (PySem.W.mg_of X G a19) b19
 have C_is_lowest := b1O (P := l.prog) (w := w) (base := base) C_divisor C_is_whole B F20 (PySem.W.mg_of X G a20) b20
 have C_is_place := b3d (P := l.prog) (w := w) (base := base) C_is_lowest B F21 (PySem.W.mg_of X G a21) b21
 have C_are_places := b1I (P := l.prog) (w := w) (base := base) C_is_place B F22 (PySem.W.mg_of X G a22) b22
 have C_neighbours := a9A (P := l.prog) (w := w) (base := base) B F23 (PySem.W.mg_of X G a23) b23
 have C_pieces := b3q (P := l.prog) (w := w) (base := base) C_neighbours B F24 (PySem.W.mg_of X G a24) b24
 have C_goes_somewhere := b4q (P := l.prog) (w := w) (base := base) C_pieces B F25 (PySem.W.mg_of X G a25) b25
 have C_sign := a8y (P := l.prog) (w := w) (base := base) B F26 (PySem.W.mg_of X G a26) b26
 have C_turn := a7H (P := l.prog) (w := w) (base := base) C_sign B F27 (PySem.W.mg_of X G a27) b27
 have C_is_lesser := b4s (P := l.prog) (w := w) (base := base) B F28 (PySem.W.mg_of X G a28) b28
 have C_goes_on := a8v (P := l.prog) (w := w) (base := base) C_is_lesser C_turn B F29 (PySem.W.mg_of X G a29) b29
 have C_turns_everywhere := b3L (P := l.prog) (w := w) (base := base) C_goes_on C_neighbours C_pieces B F30 (PySem.W.mg_of X G a30) b30
 have C_is_line := b05 (P := l.prog) (w := w) (base := base) C_turns_everywhere C_goes_somewhere C_are_places B F31 (PySem.W.mg_of X G a31) b31
 have C_law_pieces := b2M (P := l.prog) (w := w) (base := base) B F32 (PySem.W.mg_of X G a32) b32
 have C_law_root := a8P (P := l.prog) (w := w) (base := base) B F33 (PySem.W.mg_of X G a33) b33
 have C_law_length := a9B (P := l.prog) (w := w) (base := base) C_law_product C_law_root C_law_sum C_law_minus C_law_xy B F34 (PySem.W.mg_of X G a34) b34
 have C_above_root := b2g (P := l.prog) (w := w) (base := base) B F35 (PySem.W.mg_of X G a35) b35
 have C_root_below := b2R (P := l.prog) (w := w) (base := base) C_above_root B F36 (PySem.W.mg_of X G a36) b36
 have C_root := a8M (P := l.prog) (w := w) (base := base) C_root_below B F37 (PySem.W.mg_of X G a37) b37
 have C_lowest := b4j (P := l.prog) (w := w) (base := base) C_divisor B F38 (PySem.W.mg_of X G a38) b38
 have C_fraction := b3S (P := l.prog) (w := w) (base := base) C_lowest B F39 (PySem.W.mg_of X G a39) b39
 have C_squared := b0Y (P := l.prog) (w := w) (base := base) C_fraction B F40 (PySem.W.mg_of X G a40) b40
 have C_lengths := b2W (P := l.prog) (w := w) (base := base) C_pieces C_root C_squared B F41 (PySem.W.mg_of X G a41) b41
 have C_is_exact := b0c (P := l.prog) (w := w) (base := base) C_lengths B F42 (PySem.W.mg_of X G a42) b42
 exact b3H C_is_line C_is_exact C_lengths C_pieces C_law_length C_law_pieces C_law_draw C_law_place C_law_line C_law_feed B F43
end T
open PySem PySem.W PyProof.Rows
set_option maxRecDepth 100000 in
set_option maxHeartbeats 0 in
theorem PySem.Challenge.cw_widelines_k06_pieces_and_lengths_holds : PySem.Challenge.rw_widelines_k06_pieces_and_lengths.Holds := by
 w_on; o_law; k_head; (case hw => w_witness2)
 k_fill
 refine DL.walkD (l := PySem.Challenge.rw_widelines_k06_pieces_and_lengths) (m := T.whole) (k := 8) rfl rfl ⟨rfl, by decide, by decide, rfl⟩ (fun w h Y => PySem.W.kIn_of Y) ?F T.math
 case F =>
  intro w mg fa h KX G hmg
  refine' T.all_mk KX G hmg ?a1 ?l1 ?c1 ?k1 ?a2 ?l2 ?c2 ?k2 ?a3 ?l3 ?c3 ?k3 ?a4 ?l4 ?c4 ?k4 ?a5 ?l5 ?c5 ?k5 ?a6 ?l6 ?c6 ?k6 ?a7 ?l7 ?c7 ?k7 ?a8 ?l8 ?c8 ?k8 ?a9 ?l9 ?c9 ?k9 ?a10 ?l10 ?c10 ?k10 ?a11 ?l11 ?c11 ?k11 ?a12 ?l12 ?c12 ?k12 ?a13 ?l13 ?c13 ?k13 ?a14 ?l14 ?c14 ?k14 ?a15 ?l15 ?c15 ?k15 ?a16 ?l16 ?c16 ?k16 ?a17 ?l17 ?c17 ?k17 ?a18 ?l18 ?c18 ?k18 ?a19 ?l19 ?c19 ?k19 ?a20 ?l20 ?c20 ?k20 ?a21 ?l21 ?c21 ?k21 ?a22 ?l22 ?c22 ?k22 ?a23 ?l23 ?c23 ?k23 ?a24 ?l24 ?c24 ?k24 ?a25 ?l25 ?c25 ?k25 ?a26 ?l26 ?c26 ?k26 ?a27 ?l27 ?c27 ?k27 ?a28 ?l28 ?c28 ?k28 ?a29 ?l29 ?c29 ?k29 ?a30 ?l30 ?c30 ?k30 ?a31 ?l31 ?c31 ?k31 ?a32 ?l32 ?c32 ?k32 ?a33 ?l33 ?c33 ?k33 ?a34 ?l34 ?c34 ?k34 ?a35 ?l35 ?c35 ?k35 ?a36 ?l36 ?c36 ?k36 ?a37 ?l37 ?c37 ?k37 ?a38 ?l38 ?c38 ?k38 ?a39 ?l39 ?c39 ?k39 ?a40 ?l40 ?c40 ?k40 ?a41 ?l41 ?c41 ?k41 ?a42 ?l42 ?c42 ?k42 ?a43 ?l43 ?c43 ?k43 ?z_len ?z_range ?z_abs ?z_tuple ?z_list ?z_int ?z_bool ?z_str ?z_repr ?z_all ?z_isinstance ?z_zip ?z_enumerate ?z_min ?z_max ?z_reversed ?z_any ?z_sum ?z_sorted
  (case a1 => k_is)
  (case l1 => k_is)
  (case c1 => k_is)
  (case k1 => k_is)
  (case a2 => k_is)
  (case l2 => k_is)
  (case c2 => k_is)
  (case k2 => k_is)
  (case a3 => k_is)
  (case l3 => k_is)
  (case c3 => k_is)
  (case k3 => k_is)
  (case a4 => k_is)
  (case l4 => k_is)
  (case c4 => k_is)
  (case k4 => k_is)
  (case a5 => k_is)
  (case l5 => k_is)
  (case c5 => k_is)
  (case k5 => k_is)
  (case a6 => k_is)
  (case l6 => k_is)
  (case c6 => k_is)
  (case k6 => k_is)
  (case a7 => k_is)
  (case l7 => k_is)
  (case c7 => k_is)
  (case k7 => k_is)
  (case a8 => k_is)
  (case l8 => k_is)
  (case c8 => k_is)
  (case k8 => k_is)
  (case a9 => k_is)
  (case l9 => k_is)
  (case c9 => k_is)
  (case k9 => k_is)
  (case a10 => k_is)
  (case l10 => k_is)
  (case c10 => k_is)
  (case k10 => k_is)
  (case a11 => k_is)
  (case l11 => k_is)
  (case c11 => k_is)
  (case k11 => k_is)
  (case a12 => k_is)
  (case l12 => k_is)
  (case c12 => k_is)
  (case k12 => k_is)
  (case a13 => k_is)
  (case l13 => k_is)
  (case c13 => k_is)
  (case k13 => k_is)
  (case a14 => k_is)
  (case l14 => k_is)
  (case c14 => k_is)
  (case k14 => k_is)
  (case a15 => k_is)
  (case l15 => k_is)
  (case c15 => k_is)
  (case k15 => k_is)
  (case a16 => k_is)
  (case l16 => k_is)
  (case c16 => k_is)
  (case k16 => k_is)
  (case a17 => k_is)
  (case l17 => k_is)
  (case c17 => k_is)
  (case k17 => k_is)
  (case a18 => k_is)
  (case l18 => k_is)
  (case c18 => k_is)
  (case k18 => k_is)
  (case a19 => k_is)
  (case l19 => k_is)
  (case c19 => k_is)
  (case k19 => k_is)
  (case a20 => k_is)
  (case l20 => k_is)
  (case c20 => k_is)
  (case k20 => k_is)
  (case a21 => k_is)
  (case l21 => k_is)
  (case c21 => k_is)
  (case k21 => k_is)
  (case a22 => k_is)
  (case l22 => k_is)
  (case c22 => k_is)
  (case k22 => k_is)
  (case a23 => k_is)
  (case l23 => k_is)
  (case c23 => k_is)
  (case k23 => k_is)
  (case a24 => k_is)
  (case l24 => k_is)
  (case c24 => k_is)
  (case k24 => k_is)
  (case a25 => k_is)
  (case l25 => k_is)
  (case c25 => k_is)
  (case k25 => k_is)
  (case a26 => k_is)
  (case l26 => k_is)
  (case c26 => k_is)
  (case k26 => k_is)
  (case a27 => k_is)
  (case l27 => k_is)
  (case c27 => k_is)
  (case k27 => k_is)
  (case a28 => k_is)
  (case l28 => k_is)
  (case c28 => k_is)
  (case k28 => k_is)
  (case a29 => k_is)
  (case l29 => k_is)
  (case c29 => k_is)
  (case k29 => k_is)
  (case a30 => k_is)
  (case l30 => k_is)
  (case c30 => k_is)
  (case k30 => k_is)
  (case a31 => k_is)
  (case l31 => k_is)
  (case c31 => k_is)
  (case k31 => k_is)
  (case a32 => k_is)
  (case l32 => k_is)
  (case c32 => k_is)
  (case k32 => k_is)
  (case a33 => k_is)
  (case l33 => k_is)
  (case c33 => k_is)
  (case k33 => k_is)
  (case a34 => k_is)
  (case l34 => k_is)
  (case c34 => k_is)
  (case k34 => k_is)
  (case a35 => k_is)
  (case l35 => k_is)
  (case c35 => k_is)
  (case k35 => k_is)
  (case a36 => k_is)
  (case l36 => k_is)
  (case c36 => k_is)
  (case k36 => k_is)
  (case a37 => k_is)
  (case l37 => k_is)
  (case c37 => k_is)
  (case k37 => k_is)
  (case a38 => k_is)
  (case l38 => k_is)
  (case c38 => k_is)
  (case k38 => k_is)
  (case a39 => k_is)
  (case l39 => k_is)
  (case c39 => k_is)
  (case k39 => k_is)
  (case a40 => k_is)
  (case l40 => k_is)
  (case c40 => k_is)
  (case k40 => k_is)
  (case a41 => k_is)
  (case l41 => k_is)
  (case c41 => k_is)
  (case k41 => k_is)
  (case a42 => k_is)
  (case l42 => k_is)
  (case c42 => k_is)
  (case k42 => k_is)
  (case a43 => k_is)
  (case l43 => k_is)
  (case c43 => k_is)
  (case k43 => k_is)
  (case z_len => k_is)
  (case z_range => k_is)
  (case z_abs => k_is)
  (case z_tuple => k_is)
  (case z_list => k_is)
  (case z_int => k_is)
  (case z_bool => k_is)
  (case z_str => k_is)
  (case z_repr => k_is)
  (case z_all => k_is)
  (case z_isinstance => k_is)
  (case z_zip => k_is)
  (case z_enumerate => k_is)
  (case z_min => k_is)
  (case z_max => k_is)
  (case z_reversed => k_is)
  (case z_any => k_is)
  (case z_sum => k_is)
  (case z_sorted => k_is)




