import PyProof.Rows.All
import Wide.All
import OpenK.AllK
import Wide.FinOn
import Lean
import PyProof.EqAt
import PyProof.EqKinds
import PyProof.TupleCall
import PySem.Challenge.RW_widelines_k98_refusals_apart
def PySem.W.Fast.tw1923279903352578977 : Unit := ()
def PySem.W.Fast.tw8820681026109043051 : Unit := ()
def PySem.W.Fast.tw2034853978239467784 : Unit := ()
def PySem.W.Fast.tw4303642333166734805 : Unit := ()
def PySem.W.Fast.tw14326008957327979238 : Unit := ()
def PySem.W.Fast.tw13483073746153845314 : Unit := ()
def PySem.W.Fast.tw13398544097306217542 : Unit := ()
def PySem.W.Fast.tw2303094219157774356 : Unit := ()
def PySem.W.Fast.tw1031684159256021112 : Unit := ()
def PySem.W.Fast.tw8786653003250291576 : Unit := ()
def PySem.W.Fast.tw15402236367873455370 : Unit := ()
def PySem.W.Fast.tw2726972866386509972 : Unit := ()
local macro_rules | `(tactic| omega) => `(tactic| first | with_reducible assumption | decide | omega +splitMinMax)
theorem PySem.W.Fast.te8820681026109043051 : True := True.intro
set_option Elab.async false
set_option linter.all false
set_option maxRecDepth 100000
set_option bootstrap.genMatcherCode false
set_option genSizeOf false
namespace L2
open PySem PySem.Spec PyProof.Rows
noncomputable abbrev a6 := Sum Int Str
noncomputable def D1 : a6 → Value → Bool
 | .inl k, v => Value.isInt k v
 | .inr x, v => Value.isStrOf x v
noncomputable def bS (w : World) : a6 → Int
 | .inl k => hashInt k
 | .inr x => hashStr w x
theorem t9 : ∀ {k : a6} {v : Value}, D1 k v = true → (∃ i t, k = Sum.inl i ∧ v = Value.int i t) ∨ (∃ x t, k = Sum.inr x ∧ v = Value.str x t)
 | .inl i, v, h => by
  obtain ⟨t, e⟩ := Value.isInt_shape (k := i) (v := v) h
  exact .inl ⟨i, t, rfl, e⟩
 | .inr x, v, h => by
  obtain ⟨t, e⟩ := Value.isStrOf_shape (x := x) (v := v) h
  exact .inr ⟨x, t, rfl, e⟩
theorem fU (i : Int) (t : Tok) : D1 (.inl i) (.int i t) = true := by simp [D1, Value.isInt]
theorem fk (x : Str) (t : Tok) : D1 (.inr x) (.str x t) = true := by simp [D1, Value.isStrOf]
theorem iV (a b : Int) : decide ((Sum.inl a : a6) = Sum.inl b) = (a == b) := by
 by_cases e : a = b
 ·subst e; simp
 ·have h : ¬ (Sum.inl a : a6) = Sum.inl b := fun q => e (Sum.inl.inj q)
  rw [decide_eq_false h]
  exact (beq_eq_false_iff_ne.mpr e).symm
theorem gR (a b : Str) : decide ((Sum.inr a : a6) = Sum.inr b) = decide (a = b) := by
 by_cases e : a = b
 ·subst e; simp
 ·have h : ¬ (Sum.inr a : a6) = Sum.inr b := fun q => e (Sum.inr.inj q)
  rw [decide_eq_false h, decide_eq_false e]
theorem fG (a : Int) (b : Str) : decide ((Sum.inl a : a6) = Sum.inr b) = false := decide_eq_false (fun q => nomatch q)
theorem gQ (a : Str) (b : Int) : decide ((Sum.inr a : a6) = Sum.inl b) = false := decide_eq_false (fun q => nomatch q)
noncomputable def j7 (prog : Program) (w : World) : PySem.KeyKind prog w a6 where
 is := D1
 hash := bS w
 inj := fun v a b ha hb => by
  rcases t9 ha with ⟨i, t, rfl, rfl⟩ | ⟨x, t, rfl, rfl⟩
  ·rcases t9 hb with ⟨j, u, rfl, e⟩ | ⟨y, u, rfl, e⟩
   ·injection e with e1 _; rw [e1]
   ·exact nomatch e
  ·rcases t9 hb with ⟨j, u, rfl, e⟩ | ⟨y, u, rfl, e⟩
   ·exact nomatch e
   ·injection e with e1 _; rw [e1]
 byValue := fun k v h => by
  rcases t9 h with ⟨i, t, rfl, rfl⟩ | ⟨x, t, rfl, rfl⟩ <;> rfl
 pyHash := fun hv h => by
  rcases t9 hv with ⟨i, t, rfl, rfl⟩ | ⟨x, t, rfl, rfl⟩
  ·exact wpAny_pyHash_int h
  ·exact wpAny_pyHash_str h
 eqBool := fun hu hv h => by
  rcases t9 hu with ⟨i, t, rfl, rfl⟩ | ⟨x, t, rfl, rfl⟩
  ·rcases t9 hv with ⟨j, u, rfl, rfl⟩ | ⟨y, u, rfl, rfl⟩
   ·rw [iV] at h; exact wpAny_eqBool_int h
   ·rw [fG] at h; exact SeqAt.EqAt.int_str i t y u _ _ _ _ h
  ·rcases t9 hv with ⟨j, u, rfl, rfl⟩ | ⟨y, u, rfl, rfl⟩
   ·rw [gQ] at h; exact SeqAt.EqAt.str_int x t j u _ _ _ _ h
   ·rw [gR] at h; exact wpAny_eqBool_str h
 «strs» := fun k x t v h => by
  rcases t9 h with ⟨i, u, rfl, e⟩ | ⟨y, u, rfl, e⟩
  ·exact nomatch e
  ·injection e with e1 _
   subst e1
   cases v <;> rfl
theorem dP (prog : Program) (w : World) (i : Int) (t : Tok) : (j7 prog w).is (.inl i) (.int i t) = true := fU i t
theorem gP (prog : Program) (w : World) (x : Str) (t : Tok) : (j7 prog w).is (.inr x) (.str x t) = true := fk x t
inductive V where
 | non | bl (b : Bool) | int (i : Int) | str (x : Str) | byt (b : Array UInt8) | flt (b : UInt64) | ref (a : Addr) | ty (n : String)
 deriving DecidableEq
noncomputable def c5 : V → Value → Prop
 | .non, u => u = Value.none
 | .bl b, u => u = Value.bool b
 | .int i, u => ∃ t, u = Value.int i t
 | .str x, u => ∃ t, u = Value.str x t
 | .byt b, u => ∃ t, u = Value.bytes b t
 | .flt b, u => ∃ t, u = Value.float b t
 | .ref a, u => u = Value.ref a
 | .ty n, u => u = Value.type n
noncomputable abbrev Vals : List V → List Value → Prop := Paired c5
theorem Vals.length {xs : List V} {us : List Value} (r : Vals xs us) : xs.length = us.length := Paired.length r
theorem Vals.get : ∀ {xs : List V} {us : List Value} {i : Nat} {x : V}, Vals xs us → xs[i]? = some x → ∃ u, us[i]? = some u ∧ c5 x u
 | _, _, _, _, .nil, e => by simp at e
 | _, _, 0, _, .cons r _, e => by simp at e; subst e; exact ⟨_, rfl, r⟩
 | _, _, i + 1, x, .cons _ t, e => by
  obtain ⟨u, h1, h2⟩ := Vals.get (i := i) (x := x) t (by simpa using e)
  exact ⟨u, by simpa using h1, h2⟩
theorem Vals.append : ∀ {xs ys : List V} {us ws : List Value}, Vals xs us → Vals ys ws → Vals (xs ++ ys) (us ++ ws) := by
 intro xs ys us ws h s
 induction h with
 | nil => exact s
 | cons r t ih => exact .cons r ih
theorem Vals.take : ∀ {xs : List V} {us : List Value} (n : Nat), Vals xs us → Vals (xs.take n) (us.take n)
 | _, _, 0, _ => .nil
 | _, _, _ + 1, .nil => .nil
 | _, _, n + 1, .cons r t => .cons r (Vals.take n t)
theorem Vals.drop : ∀ {xs : List V} {us : List Value} (n : Nat), Vals xs us → Vals (xs.drop n) (us.drop n)
 | _, _, 0, r => r
 | _, _, _ + 1, .nil => .nil
 | _, _, n + 1, .cons _ t => Vals.drop n t
noncomputable def RelO : Option V → Option Value → Prop
 | some v, some u => c5 v u
 | none, none => True
 | _, _ => False
noncomputable def KV {κ : Type} : List (κ × V) → List (κ × Value) → Prop := Paired fun (p : κ × V) (q : κ × Value) => p.1 = q.1 ∧ c5 p.2 q.2
noncomputable def kV : a6 → V
 | .inl i => .int i
 | .inr x => .str x
inductive HO where
 | lst (xs : List V)
 | tup (xs : List V)
 | dK (kvs : List (a6 × V)) | dT (kvs : List (List a6 × V))
 | set (S : Int → Bool) (n : Nat)
 | ins (C dx : Addr) (fs : List (Str × V))
 | own (x : Addr)
 | xd (fs : List (Str × V))
 | met (f x : Addr)
 | rng (lo hi : Int)
 | frz (o : Obj) (u : HO)
 | tbl (ps : Array Value)
 | ext (φ : Heap → Prop)
noncomputable abbrev Hp := Addr → Option HO
noncomputable def a7 (H : Hp) (a : Addr) (o : HO) : Hp := fun b => if b = a then some o else H b
theorem e7 {H : Hp} {a : Addr} {o : HO} : a7 H a o a = some o := by unfold a7; rw [if_pos rfl]
theorem a8 {H : Hp} {a b : Addr} {o : HO} (h : b ≠ a) : a7 H a o b = H b := by unfold a7; rw [if_neg h]
theorem dF {H : Hp} {a b : Addr} {o u : HO} (h : H a = some o) (h' : H b = some u) (d : o ≠ u) : a ≠ b := by
 intro e; subst e; rw [h] at h'; exact d (Option.some.inj h')
theorem g5 {H : Hp} {a b : Addr} {o : HO} (h : H a = some o) (h' : H b = none) : a ≠ b := by
 intro e; subst e; rw [h] at h'; cases h'
section
variable (P : Program) (w : World)
noncomputable def ObjOk (H : Hp) (h : Heap) (a : Addr) : HO → Prop
 | .lst xs => xs.length ≤ sizeLine ∧ ∃ (its : List Value) (n : Nat), Vals xs its ∧ h.get? a = some { cls := .type "list", data := .seq its.toArray n }
 | .tup xs => xs.length ≤ sizeLine ∧ ∃ its : List Value, Vals xs its ∧ IsTup h a its.toArray
 | .dK kvs => kvs.length ≤ sizeLine ∧ (a == sysModules) = false ∧ ∃ vs, KV kvs vs ∧ h.DictOf (j7 P w) a vs
 | .dT kvs => kvs.length ≤ sizeLine ∧ (a == sysModules) = false ∧ ∃ xs : List (List a6 × Addr × Value),
   Paired (fun (p : List a6 × V) (q : List a6 × Addr × Value) => p.1 = q.1 ∧ H q.2.1 = some (.tup (p.1.map kV)) ∧ c5 p.2 q.2.2) kvs xs ∧
   ∃ o es ep, h.get? a = some o ∧ o.ExactDict ∧ o.data = .dict es ep ∧ es.toList = xs.map (entryOfKey (tupleKind (j7 P w))) ∧ (xs.map (·.1)).Nodup
 | .set S n => h.SetOf (intKind P w) a S n
 | .ins C dx fs => H dx = some (.own a) ∧ fs.length ≤ 1000 ∧ dx ≠ a ∧ h.get? a = some (PySem.W.instObj C dx) ∧
   ∃ mA, h.Ns1 dx mA ∧ (∀ f, RelO (fs.lookup f) (mA f)) ∧ PySem.Within mA (fs.map (·.1))
 | .own _ => ∃ o, h.get? a = some o
 | .xd fs => ∃ mA, h.Ns1 a mA ∧ ∀ f, RelO (fs.lookup f) (mA f)
 | .rng lo hi => ∃ t u v, h.get? a = some { cls := .type "range", data := .fields #[.int lo t, .int hi u, .int 1 v] }
 | .frz o u => h.get? a = some o ∧ ObjOk H h a u
 | .tbl ps => h.get? a = some { cls := .none, data := .fields ps }
 | .met f x => h.get? a = some (PySem.W.methodObj (.ref f) (.ref x))
 | .ext φ => φ h ∧ (∃ o, h.get? a = some o) ∧ ∀ h1 h2 : Heap, φ h1 → (∀ o, h1.get? a = some o → h2.get? a = some o) → φ h2
noncomputable def HOk (H : Hp) (h : Heap) : Prop := ∀ a o, H a = some o → ObjOk P w H h a o
end
section
variable {P : Program} {w : World} {H H' : Hp} {h h' : Heap} {a : Addr} {o : HO}
theorem ObjOk.lt (x : ObjOk P w H h a o) : a < h.objs.size := by
 cases o with
 | lst xs => obtain ⟨_, _, _, _, e⟩ := x; exact Heap.lt_size e
 | tup xs => obtain ⟨_, _, _, p⟩ := x; exact p.lt
 | dK kvs => obtain ⟨_, _, _, _, o, _, _, e, _⟩ := x; exact Heap.lt_size e
 | dT kvs => obtain ⟨_, _, _, _, o, _, _, e, _⟩ := x; exact Heap.lt_size e
 | set S n => obtain ⟨o, _, _, _, e, _⟩ := x; exact Heap.lt_size e
 | ins C dx fs => obtain ⟨_, _, _, e, _⟩ := x; exact Heap.lt_size e
 | own y => obtain ⟨_, e⟩ := x; exact Heap.lt_size e
 | xd fs => obtain ⟨_, ⟨_, _, _, e, _⟩, _⟩ := x; exact Heap.lt_size e
 | rng lo hi => obtain ⟨_, _, _, e⟩ := x; exact Heap.lt_size e
 | frz ob u => obtain ⟨e, _⟩ := x; exact Heap.lt_size e
 | tbl ps => exact Heap.lt_size (show h.get? a = some _ from x)
 | met f y => exact Heap.lt_size (show h.get? a = some _ from x)
 | ext φ => obtain ⟨_, ⟨_, e⟩, _⟩ := x; exact Heap.lt_size e
theorem Paired.mapP {α β : Type} {F G : α → β → Prop} : ∀ {l₁ : List α} {l₂ : List β}, Paired F l₁ l₂ → (∀ a b, F a b → G a b) → Paired G l₁ l₂ := by
 intro l₁ l₂ h f
 induction h with
 | nil => exact .nil
 | cons r t ih => exact .cons (f _ _ r) ih
theorem ObjOk.stay (x : ObjOk P w H h a o) (k : ∀ b u, (b = a ∨ H b = some (.own a)) → h.get? b = some u → h'.get? b = some u)
  (ho : ∀ b, H b = some (.own a) → H' b = some (.own a)) (ht : ∀ b xs, H b = some (.tup xs) → H' b = some (.tup xs)) : ObjOk P w H' h' a o := by
 induction o with
 | lst xs => obtain ⟨z, its, n, r, e⟩ := x; exact ⟨z, its, n, r, k _ _ (.inl rfl) e⟩
 | tup xs => obtain ⟨z, its, r, ob, e, c⟩ := x; exact ⟨z, its, r, ob, k _ _ (.inl rfl) e, c⟩
 | dK kvs => obtain ⟨z, y, vs, r, ob, es, ep, e, c⟩ := x; exact ⟨z, y, vs, r, ob, es, ep, k _ _ (.inl rfl) e, c⟩
 | dT kvs =>
  obtain ⟨z, y, xs, r, ob, es, ep, e, c⟩ := x
  exact ⟨z, y, xs, Paired.mapP r fun p q z => ⟨z.1, ht _ _ z.2.1, z.2.2⟩, ob, es, ep, k _ _ (.inl rfl) e, c⟩
 | set S n => obtain ⟨ob, es, ep, t, e, c⟩ := x; exact ⟨ob, es, ep, t, k _ _ (.inl rfl) e, c⟩
 | ins C dx fs =>
  obtain ⟨d, z, ne, e, mA, ⟨od, es, ep, e2, c⟩, r⟩ := x
  exact ⟨ho _ d, z, ne, k _ _ (.inl rfl) e, mA, ⟨od, es, ep, k _ _ (.inr d) e2, c⟩, r⟩
 | own y => obtain ⟨ob, e⟩ := x; exact ⟨ob, k _ _ (.inl rfl) e⟩
 | xd fs => obtain ⟨mA, ⟨od, es, ep, e, c⟩, r⟩ := x; exact ⟨mA, ⟨od, es, ep, k _ _ (.inl rfl) e, c⟩, r⟩
 | rng lo hi => obtain ⟨t, u, v, e⟩ := x; exact ⟨t, u, v, k _ _ (.inl rfl) e⟩
 | frz ob u ih => obtain ⟨e, q⟩ := x; exact ⟨k _ _ (.inl rfl) e, ih q⟩
 | tbl ps =>
  have e : h.get? a = some { cls := .none, data := .fields ps } := x
  show h'.get? a = some { cls := .none, data := .fields ps }
  exact k a _ (.inl rfl) e
 | met f y =>
  have e : h.get? a = some (PySem.W.methodObj (.ref f) (.ref y)) := x
  show h'.get? a = some (PySem.W.methodObj (.ref f) (.ref y))
  exact k a _ (.inl rfl) e
 | ext φ => obtain ⟨p, ⟨o, e⟩, st⟩ := x; exact ⟨st _ _ p fun o q => k _ _ (.inl rfl) q, ⟨o, k _ _ (.inl rfl) e⟩, st⟩
theorem HOk.lt (x : HOk P w H h) (e : H a = some o) : a < h.objs.size := (x a o e).lt
theorem HOk.fresh (x : HOk P w H h) (e : h.objs.size ≤ a) : H a = none := by
 cases q : H a with
 | none => rfl
 | some u => exact absurd (Nat.lt_of_lt_of_le (x.lt q) e) (Nat.lt_irrefl _)
theorem HOk.kept (x : HOk P w H h) (k : ∀ b u, h.get? b = some u → h'.get? b = some u) : HOk P w H h' := fun a o e =>
 (x a o e).stay (fun b u _ q => k b u q) (fun _ q => q) fun _ _ q => q
theorem HOk.laid (x : HOk P w H h) (k : ∀ b u, h.get? b = some u → h'.get? b = some u) (hp : h.objs.size ≤ a) (new : ObjOk P w (a7 H a o) h' a o) : HOk P w (a7 H a o) h' := fun b u e => by
 have hn := x.fresh hp
 by_cases hb : b = a
 ·subst hb; rw [e7] at e; cases e; exact new
 ·rw [a8 hb] at e
  exact (x b u e).stay (fun c v _ q => k c v q) (fun c q => by rw [a8 (g5 q hn)]; exact q) fun c xs q => by rw [a8 (g5 q hn)]; exact q
end
noncomputable def Rd (H : Hp) (a : Addr) (u : HO) : Prop := H a = some u ∨ ∃ o, H a = some (.frz o u)
theorem Rd.ok {P : Program} {w : World} {H : Hp} {h : Heap} {a : Addr} {u : HO} (r : Rd H a u) (x : HOk P w H h) : ObjOk P w H h a u := by
 rcases r with r | ⟨o, r⟩
 ·exact x a u r
 ·obtain ⟨_, q⟩ := x a _ r
  exact q
noncomputable def E8 : Option HO → Prop
 | some (.lst _) => True
 | some (.dK _) => True
 | some (.dT _) => True
 | some (.set _ _) => True
 | some (.ins _ _ _) => True
 | some (.ext _) => True
 | _ => False
section
variable {P : Program} {w : World} {H : Hp} {h h' : Heap} {x e : Addr} {o' : HO}
theorem HOk.write (ok : HOk P w H h) (mu : E8 (H x)) (he : e = x ∨ H e = some (.own x)) (k : ∀ b u, b ≠ e → h.get? b = some u → h'.get? b = some u) (heo : ∃ u, h'.get? e = some u)
  (new : ObjOk P w (a7 H x o') h' x o') : HOk P w (a7 H x o') h' := fun b u q => by
 have nown : ∀ c y, H c = some (.own y) → c ≠ x := fun c y r z => by subst z; rw [r] at mu; exact mu
 have ntup : ∀ c xs, H c = some (.tup xs) → c ≠ x := fun c xs r z => by subst z; rw [r] at mu; exact mu
 by_cases hb : b = x
 ·subst hb; rw [e7] at q; cases q; exact new
 ·rw [a8 hb] at q
  by_cases hbe : b = e
  ·have q' : H b = some (.own x) := by
    rcases he with z | z
    ·exact absurd (hbe.trans z) hb
    ·rw [hbe]; exact z
   rw [q] at q'; cases q'
   obtain ⟨v, hv⟩ := heo
   exact ⟨v, by rw [hbe]; exact hv⟩
  ·refine (ok b u q).stay (fun c v hc r => k c v ?_ r) (fun c r => by rw [a8 (nown c b r)]; exact r) fun c xs r => by rw [a8 (ntup c xs r)]; exact r
   rcases hc with rfl | hc
   ·exact hbe
   ·rintro rfl
    rcases he with z | z
    ·exact nown c b hc z
    ·rw [hc] at z; cases z; exact hb rfl
end
structure Un (fs ex : List Addr) (H H' : Hp) (h h' : Heap) : Prop where
 keep : ∀ b o, h.get? b = some o → H b = none → b ∉ fs → b ∉ ex → h'.get? b = some o
 slot : ∀ b o, h.get? b = some o → H b = none → b ∈ fs → b ∉ ex → ∃ sl, h'.get? b = some { o with slots := sl }
 free : ∀ b o, h.get? b = some o → H b = none → b ∉ ex → H' b = none
 there : ∀ b o, h.get? b = some o → b ∉ ex → ∃ o', h'.get? b = some o'
 tups : ∀ b xs, H b = some (.tup xs) → H' b = some (.tup xs)
 frzs : ∀ b o u, H b = some (.frz o u) → H' b = some (.frz o u)
 tbls : ∀ b ps, H b = some (.tbl ps) → ∃ more, H' b = some (.tbl (ps ++ more))
section
variable {fs fs' ex ex' : List Addr} {H H1 H2 : Hp} {h h1 h2 h' : Heap} {a x e : Addr} {o : HO}
theorem Un.any (u : Un fs ex H H1 h h1) {b : Addr} {ob : Obj} (q : h.get? b = some ob) (n : H b = none) (hx : b ∉ ex) : ∃ sl, h1.get? b = some { ob with slots := sl } := by
 by_cases hb : b ∈ fs
 ·exact u.slot b ob q n hb hx
 ·exact ⟨ob.slots, u.keep b ob q n hb hx⟩
theorem Un.kept (k : ∀ b u, h.get? b = some u → h'.get? b = some u) : Un fs ex H H h h' :=
 ⟨fun b ob q _ _ _ => k b ob q, fun b ob q _ _ _ => ⟨ob.slots, k b ob q⟩, fun _ _ _ n _ => n, fun b ob q _ => ⟨ob, k b ob q⟩, fun _ _ q => q, fun _ _ _ q => q, fun _ ps q => ⟨#[], by rw [q]; simp⟩⟩
theorem Un.refl : Un fs ex H H h h := Un.kept fun _ _ q => q
theorem Un.laid (k : ∀ b u, h.get? b = some u → h'.get? b = some u) (hp : h.objs.size ≤ a) (hn : H a = none) : Un fs ex H (a7 H a o) h h' where
 keep := fun b u q _ _ _ => k b u q
 slot := fun b u q _ _ _ => ⟨u.slots, k b u q⟩
 free := fun b u q n _ => by rw [a8 (Nat.ne_of_lt (Nat.lt_of_lt_of_le (Heap.lt_size q) hp))]; exact n
 there := fun b u q _ => ⟨u, k b u q⟩
 tups := fun b xs q => by rw [a8 (g5 q hn)]; exact q
 frzs := fun b u xs q => by rw [a8 (g5 q hn)]; exact q
 tbls := fun b ps q => ⟨#[], by rw [a8 (g5 q hn), q]; simp⟩
theorem Un.write (mu : E8 (H x)) (he : e = x ∨ H e = some (.own x)) (k : ∀ b u, b ≠ e → h.get? b = some u → h'.get? b = some u) (heo : ∃ u, h'.get? e = some u) : Un fs ex H (a7 H x o) h h' := by
 have hx : ∀ b, H b = none → b ≠ x := fun b n z => by subst z; rw [n] at mu; exact mu
 have hb : ∀ b, H b = none → b ≠ e := fun b n z => by
  subst z
  rcases he with r | r
  ·exact hx b n r
  ·rw [n] at r; cases r
 have hm : ∀ b u, H b = some u → ¬ E8 (some u) → b ≠ x := fun b u q nm z => by subst z; rw [q] at mu; exact nm mu
 refine ⟨fun b u q n _ _ => k b u (hb b n) q, fun b u q n _ _ => ⟨u.slots, k b u (hb b n) q⟩, fun b u q n _ => by rw [a8 (hx b n)]; exact n, fun b u q _ => ?_,
  fun b xs q => by rw [a8 (hm b _ q fun z => z)]; exact q, fun b u xs q => by rw [a8 (hm b _ q fun z => z)]; exact q, fun b ps q => ⟨#[], by rw [a8 (hm b _ q fun z => z), q]; simp⟩⟩
 by_cases hbe : b = e
 ·subst hbe; exact heo
 ·exact ⟨u, k b u hbe q⟩
end
noncomputable def B7 (h : Heap) (H : Hp) : List Addr := (List.range h.objs.size).filter fun a => (H a).isSome
noncomputable def u6 (h : Heap) (H : Hp) : Heap := PySem.W.hideAll h (B7 h H)
theorem iZ (h : Heap) (H : Hp) : (u6 h H).objs.size = h.objs.size := PySem.W.hideAll_size _ _
theorem gU {h : Heap} {H : Hp} {b : Addr} {o : Obj} (e : h.get? b = some o) (n : H b = none) : (u6 h H).get? b = some o :=
 PySem.W.hideAll_get _ e fun hm => by
  have q : (H b).isSome = true := (List.mem_filter.mp hm).2
  rw [n] at q; simp at q
theorem ej {h : Heap} {H : Hp} {b : Addr} {o : Obj} (e : (u6 h H).get? b = some o) : h.get? b = some o ∧ H b = none := by
 have e' : h.get? b = some o := PySem.W.of_hideAll (B7 h H) e
 refine ⟨e', ?_⟩
 cases q : H b with
 | none => rfl
 | some x =>
  have hm : b ∈ B7 h H := List.mem_filter.mpr ⟨List.mem_range.mpr (Heap.lt_size e'), by simp [q]⟩
  have z : (u6 h H).get? b = none := PySem.W.hideAll_none (B7 h H) hm
  rw [z] at e; cases e
noncomputable def fX (g h : Heap) (L : Addr) : List (Addr × Obj) := (List.range h.objs.size).filterMap fun a => if a = L ∨ (g.get? a).isSome = true then none else (h.get? a).map fun o => (a, o)
noncomputable def rest (g h : Heap) (L d : Addr) : List (Addr × Obj) := (fX g h L).filter fun p => decide (p.1 ≠ d)
structure Mod (K : PySem.W.Frag) (mg : Str → Option Value) (base : Heap) : Prop where
 kin : K.In base
 glob : base.Ns mainGlobals mg
 blt : ∃ mb, base.Ns builtinsNs mb ∧ ∀ x : Str, x ≠ "__name__" → mb x = bootBuiltins x
 nolimit : base.NoLimit
structure Cx where
 prog : Program
 w : World
 K : PySem.W.Frag
 mg : Str → Option Value
 base : Heap
 A : Around
 N : List Str
 s₀ : Shared
 H₀ : Hp
 env : Env
 outer : List Env
 stack : List Env
 ex : List Addr
 fn : Str → Bool
 calm : Bool
 pn : List (Addr × Obj)
 xe : Value → Shared → Prop
noncomputable def o7 (l : List Env) : List Addr := l.filterMap (·.frame)
noncomputable abbrev Cx.fs (X : Cx) : List Addr := o7 X.outer
noncomputable def S5 (sc : Scope) (x : Str) : Prop := sc.names.lookup x = some .local ∨ sc.names.lookup x = some .cell ∨ sc.names.lookup x = some .free
noncomputable def B9 (sc : Scope) (x : Str) : Prop := sc.names.lookup x = some .local ∨ sc.names.lookup x = some .cell
noncomputable def dA (env : Env) (h : Heap) (m : Str → Option Value) (x : Str) (u : Value) : Prop :=
 (env.kindOf x = some .local ∧ m x = some u) ∨ ((env.kindOf x = some .cell ∨ env.kindOf x = some .free) ∧ ∃ c, env.cells.lookup x = some c ∧ h.IsCell c (some u))
structure Cx.Ok (X : Cx) : Prop where
 mod : Mod X.K X.mg X.base
 kind : X.env.scope.kind = .function
 glob : X.env.globals = mainGlobals
 blt : X.env.builtins = builtinsNs
 above : X.s₀.heap.objs.size ≤ X.env.locals
 inj : ∀ x y c, X.env.cells.lookup x = some c → X.env.cells.lookup y = some c → x = y
 has : ∀ x, (X.env.kindOf x = some .cell ∨ X.env.kindOf x = some .free) → ∃ c, X.env.cells.lookup x = some c
 cab : ∀ x c, X.fn x = true → X.env.cells.lookup x = some c → X.s₀.heap.objs.size ≤ c
 hd : X.calm = true → X.A.handled = none
 frames : X.A.frames = some X.stack
 stk : X.stack = X.outer ∨ (X.stack = X.env :: X.outer ∧ X.env.frame = some X.env.locals)
 exf : ∀ b ∈ X.ex, b ≠ X.env.locals ∧ ∀ x c, X.env.cells.lookup x = some c → c ≠ b
 bs : ∀ b o, X.base.get? b = some o → X.s₀.heap.get? b = some o ∧ X.H₀ b = none
 bsz : X.base.objs.size ≤ X.s₀.heap.objs.size
 noex : ∀ b o, X.base.get? b = some o → b ∉ X.ex
 exfs : ∀ b ∈ X.ex, b ∉ X.fs
 funs : X.s₀.heap.FunFrames X.base X.outer
 frf : ∀ b ∈ X.fs, X.H₀ b = none
structure Inv (X : Cx) (pins : List (Addr × Obj)) (σ : List (Option V)) (H : Hp) (s : Shared) : Prop where
 ok : X.Ok
 os : s.os = X.s₀.os
 bare : AllBare s.gens
 base : Un X.fs X.ex X.H₀ H X.s₀.heap s.heap
 loc : ∃ m, s.heap.Ns X.env.locals m ∧ ∀ (i : Nat) (x : Str) (v : V), X.N[i]? = some x → σ[i]? = some (some v) → S5 X.env.scope x → ∃ u, c5 v u ∧ dA X.env s.heap m x u
 cell : ∀ x c, X.env.cells.lookup x = some c → ∃ v, s.heap.IsCell c v
 free : H X.env.locals = none
 freeC : ∀ x c, X.env.cells.lookup x = some c → H c = none
 pin : ∀ p ∈ X.pn ++ pins, s.heap.get? p.1 = some p.2 ∧ H p.1 = none ∧ p.1 ≠ X.env.locals ∧ p.1 ∉ X.fs ∧ ∀ v, p.2.data ≠ .cell v
 hok : HOk X.prog X.w H s.heap
 len : σ.length = X.N.length
section
variable {X : Cx} {pins : List (Addr × Obj)} {σ : List (Option V)} {H H' : Hp} {s : Shared} {h' : Heap}
theorem Cx.Ok.nofr (ok : X.Ok) {b : Addr} {o : Obj} (e : X.base.get? b = some o) : b ∉ X.fs := fun hb => by
 have := (ok.funs.mem hb).1
 rw [e] at this; cases this
theorem Inv.bs (I : Inv X pins σ H s) : ∀ b o, X.base.get? b = some o → s.heap.get? b = some o ∧ H b = none := fun b o e =>
 ⟨I.base.keep b o (I.ok.bs b o e).1 (I.ok.bs b o e).2 (I.ok.nofr e) (I.ok.noex b o e), I.base.free b o (I.ok.bs b o e).1 (I.ok.bs b o e).2 (I.ok.noex b o e)⟩
theorem Inv.bk (I : Inv X pins σ H s) : ∀ b o, X.base.get? b = some o → s.heap.get? b = some o := fun b o e => (I.bs b o e).1
theorem Inv.mod (I : Inv X pins σ H s) : Mod X.K X.mg X.base := I.ok.mod
theorem Inv.kIn (I : Inv X pins σ H s) : X.K.In s.heap := I.ok.mod.kin.keeps I.bk
theorem Inv.nolimit (I : Inv X pins σ H s) : s.heap.NoLimit := I.ok.mod.nolimit.keeps I.bk
theorem Inv.lt (I : Inv X pins σ H s) : X.env.locals < s.heap.objs.size := let ⟨_, hn, _⟩ := I.loc; hn.lt
theorem Inv.sz (I : Inv X pins σ H s) : X.s₀.heap.objs.size ≤ s.heap.objs.size := Nat.le_trans I.ok.above (Nat.le_of_lt I.lt)
theorem Inv.nofs (I : Inv X pins σ H s) {a : Addr} (h : s.heap.objs.size ≤ a) : a ∉ X.fs := fun hb => by
 obtain ⟨_, o, ho, _⟩ := I.ok.funs.mem hb
 exact absurd (Nat.lt_of_lt_of_le (Heap.lt_size ho) (Nat.le_trans I.sz h)) (Nat.lt_irrefl _)
theorem Inv.cne (I : Inv X pins σ H s) : ∀ x c, X.env.cells.lookup x = some c → c ≠ X.env.locals := fun x c e z => by
 obtain ⟨v, o, ho, hd⟩ := I.cell x c e
 obtain ⟨m, ⟨o', es, ep, ho', hd', _⟩, _⟩ := I.loc
 rw [z, ho'] at ho; cases ho; rw [hd'] at hd; cases hd
theorem Inv.funs (I : Inv X pins σ H s) : s.heap.FunFrames X.base X.outer := by
 have all : ∀ (l : List Env), (∀ b ∈ o7 l, b ∈ X.fs) → X.s₀.heap.FunFrames X.base l → s.heap.FunFrames X.base l := by
  intro l
  induction l with
  | nil => intro _ _; trivial
  | cons env r ih =>
   intro hs hl
   obtain ⟨hk, ⟨L, o, hf, hn, ho, hd⟩, hr⟩ := hl
   have hL : L ∈ X.fs := hs L (by unfold o7; rw [List.filterMap_cons, hf]; exact List.mem_cons_self)
   obtain ⟨sl, e⟩ := I.base.slot L o ho (I.ok.frf L hL) hL fun z => I.ok.exfs L z hL
   exact ⟨hk, ⟨L, _, hf, hn, e, hd⟩, ih (fun b hb => hs b (by unfold o7; rw [List.filterMap_cons, hf]; exact List.mem_cons_of_mem _ hb)) hr⟩
 exact all X.outer (fun _ hb => hb) I.ok.funs
theorem Inv.stack (I : Inv X pins σ H s) : s.heap.FunFrames X.base X.stack := by
 rcases I.ok.stk with e | ⟨e, hf⟩
 ·rw [e]; exact I.funs
 ·rw [e]
  obtain ⟨m, hn, _⟩ := I.loc
  refine .cons (by rw [I.ok.kind]; decide) hf hn ?_ I.funs
  exact Heap.get?_none_of_le (Nat.le_trans I.ok.bsz I.ok.above)
theorem Inv.stkSub (I : Inv X pins σ H s) : ∀ b ∈ o7 X.stack, b ∈ X.env.locals :: X.fs := fun b hb => by
 rcases I.ok.stk with e | ⟨e, hf⟩
 ·rw [e] at hb; exact List.mem_cons_of_mem _ hb
 ·rw [e] at hb
  unfold o7 at hb
  rw [List.filterMap_cons, hf] at hb
  exact hb
theorem Inv.stkFree (I : Inv X pins σ H s) : ∀ b ∈ o7 X.stack, H b = none := fun b hb => by
 rcases List.mem_cons.mp (I.stkSub b hb) with e | hb
 ·rw [e]; exact I.free
 ·obtain ⟨_, o, ho, _⟩ := I.ok.funs.mem hb
  exact I.base.free b o ho (I.ok.frf b hb) fun z => I.ok.exfs b z hb
theorem Inv.step {g' : Array GenState} {t' : Nat} {d' : Drawn} {ch : List Addr} (I : Inv X pins σ H s)
  (hch : ∀ b ∈ ch, (b ∈ X.ex ∨ X.s₀.heap.objs.size ≤ b) ∧ b ≠ X.env.locals ∧ (∀ x c, X.env.cells.lookup x = some c → c ≠ b) ∧ ∀ p ∈ X.pn ++ pins, p.1 ≠ b)
  (keep : ∀ b o, b ≠ X.env.locals → b ∉ X.fs → b ∉ ch → s.heap.get? b = some o → H b = none → h'.get? b = some o)
  (slot : ∀ b o, b ≠ X.env.locals → b ∈ X.fs → b ∉ ch → s.heap.get? b = some o → H b = none → ∃ sl, h'.get? b = some { o with slots := sl }) (free : ∀ b o, b ∉ ch → s.heap.get? b = some o → H b = none → H' b = none)
  (there : ∀ b o, b ∉ ch → s.heap.get? b = some o → ∃ o', h'.get? b = some o')
  (tups : ∀ b xs, H b = some (.tup xs) → H' b = some (.tup xs)) (frzs : ∀ b o u, H b = some (.frz o u) → H' b = some (.frz o u)) (tbls : ∀ b ps, H b = some (.tbl ps) → ∃ more, H' b = some (.tbl (ps ++ more)))
  (ns : ∀ m, s.heap.Ns X.env.locals m → h'.Ns X.env.locals m) (hok : HOk X.prog X.w H' h') (hg : AllBare g') :
  Inv X pins σ H' { s with heap := h', gens := g', drawn := d', toks := t' } := by
 have neL : ∀ b o, X.s₀.heap.get? b = some o → b ≠ X.env.locals := fun b o e => Nat.ne_of_lt (Nat.lt_of_lt_of_le (Heap.lt_size e) I.ok.above)
 have neC : ∀ b o, X.s₀.heap.get? b = some o → b ∉ X.ex → b ∉ ch := fun b o e hx hb => by
  rcases (hch b hb).1 with z | z
  ·exact hx z
  ·exact absurd (Nat.lt_of_lt_of_le (Heap.lt_size e) z) (Nat.lt_irrefl _)
 have cellK : ∀ x c, X.env.cells.lookup x = some c → ∀ v, s.heap.IsCell c v → h'.IsCell c v := fun x c e v hQ__ => by
  obtain ⟨o, ho, hd⟩ := hQ__
  have nch : c ∉ ch := fun z => (hch c z).2.2.1 x c e rfl
  by_cases hc : c ∈ X.fs
  ·obtain ⟨sl, q⟩ := slot c o (I.cne x c e) hc nch ho (I.freeC x c e)
   exact ⟨_, q, hd⟩
  ·exact ⟨o, keep c o (I.cne x c e) hc nch ho (I.freeC x c e), hd⟩
 refine ⟨I.ok, I.os, hg, ⟨fun b o e n hb hx => ?_, fun b o e n hb hx => ?_, fun b o e n hx => ?_, fun b o e hx => ?_, fun b xs e => tups b xs (I.base.tups b xs e), fun b o xs e => frzs b o xs (I.base.frzs b o xs e), fun b ps e => ?_⟩, ?_, fun x c e => ?_, ?_, fun x c e => ?_, fun p hp => ?_, hok, I.len⟩
 ·exact keep b o (neL b o e) hb (neC b o e hx) (I.base.keep b o e n hb hx) (I.base.free b o e n hx)
 ·obtain ⟨sl, e1⟩ := I.base.slot b o e n hb hx
  obtain ⟨sl', e2⟩ := slot b _ (neL b o e) hb (neC b o e hx) e1 (I.base.free b o e n hx)
  exact ⟨sl', e2⟩
 ·obtain ⟨o', e1⟩ := I.base.there b o e hx
  exact free b o' (neC b o e hx) e1 (I.base.free b o e n hx)
 ·obtain ⟨o', e1⟩ := I.base.there b o e hx
  exact there b o' (neC b o e hx) e1
 ·obtain ⟨m1, e1⟩ := I.base.tbls b ps e
  obtain ⟨m2, e2⟩ := tbls b _ e1
  exact ⟨m1 ++ m2, by rw [e2, Array.append_assoc]⟩
 ·obtain ⟨m, hn, hl⟩ := I.loc
  refine ⟨m, ns m hn, fun i x v e1 e2 e3 => ?_⟩
  obtain ⟨u, r, l⟩ := hl i x v e1 e2 e3
  refine ⟨u, r, ?_⟩
  rcases l with l | ⟨k, c, e, z⟩
  ·exact .inl l
  ·exact .inr ⟨k, c, e, cellK x c e _ z⟩
 ·obtain ⟨v, z⟩ := I.cell x c e
  exact ⟨v, cellK x c e v z⟩
 ·obtain ⟨m, ⟨o, _, _, ho, _⟩, _⟩ := I.loc
  exact free _ o (fun z => (hch _ z).2.1 rfl) ho I.free
 ·obtain ⟨v, o, ho, hd⟩ := I.cell x c e
  exact free c o (fun z => (hch c z).2.2.1 x c e rfl) ho (I.freeC x c e)
 ·obtain ⟨e, n, ne, nf, d⟩ := I.pin p hp
  have nch : p.1 ∉ ch := fun z => (hch p.1 z).2.2.2 p hp rfl
  exact ⟨keep p.1 p.2 ne nf nch e n, free p.1 p.2 nch e n, ne, nf, d⟩
theorem Inv.un {t' : Nat} (I : Inv X pins σ H s) (u : Un X.fs [] H H' s.heap h') (hok : HOk X.prog X.w H' h') : Inv X pins σ H' { s with heap := h', toks := t' } := by
 obtain ⟨m, ⟨o, es, ep, ho, r⟩, _⟩ := id I.loc
 obtain ⟨sl, hL⟩ := u.any ho I.free (by simp)
 exact I.step (g' := s.gens) (d' := s.drawn) (ch := []) (fun _ z => nomatch z) (fun b o _ hb _ e n => u.keep b o e n hb (by simp)) (fun b o _ hb _ e n => u.slot b o e n hb (by simp)) (fun b o _ e n => u.free b o e n (by simp)) (fun b o _ e => u.there b o e (by simp)) u.tups u.frzs u.tbls (fun m' hm => by
  obtain ⟨o', es', ep', ho', r'⟩ := hm
  rw [ho] at ho'; cases ho'
  exact ⟨_, es', ep', hL, r'⟩) hok I.bare
theorem Inv.call {g' : Array GenState} {t' : Nat} {d' : Drawn} {ch : List Addr} (I : Inv X pins σ H s) (u : Un (o7 X.stack) ch H H' s.heap h') (hok : HOk X.prog X.w H' h') (hg : AllBare g')
  (hch : ∀ b ∈ ch, (b ∈ X.ex ∨ X.s₀.heap.objs.size ≤ b) ∧ b ≠ X.env.locals ∧ (∀ x c, X.env.cells.lookup x = some c → c ≠ b) ∧ ∀ p ∈ X.pn ++ pins, p.1 ≠ b) :
  Inv X pins σ H' { s with heap := h', gens := g', drawn := d', toks := t' } := by
 obtain ⟨m, ⟨o, es, ep, ho, r⟩, _⟩ := id I.loc
 obtain ⟨sl, hL⟩ := u.any ho I.free fun z => (hch _ z).2.1 rfl
 exact I.step (ch := ch) hch (fun b o hL hb hc e n => u.keep b o e n (fun z => (List.mem_cons.mp (I.stkSub b z)).elim hL hb) hc) (fun b o _ _ hc e n => u.any e n hc) (fun b o hc e n => u.free b o e n hc) (fun b o hc e => u.there b o e hc) u.tups u.frzs u.tbls (fun m' hm => by
  obtain ⟨o', es', ep', ho', r'⟩ := hm
  rw [ho] at ho'; cases ho'
  exact ⟨_, es', ep', hL, r'⟩) hok hg
theorem Inv.turned {t' : Nat} {it : Addr} (I : Inv X pins σ H s) (k : ∀ b o, b ≠ it → s.heap.get? b = some o → h'.get? b = some o) (hn : H it = none) (hL : it ≠ X.env.locals)
  (h1 : it ∈ X.ex ∨ X.s₀.heap.objs.size ≤ it) (h2 : ∀ x c, X.env.cells.lookup x = some c → c ≠ it) (h3 : ∀ p ∈ X.pn ++ pins, p.1 ≠ it) : Inv X pins σ H { s with heap := h', toks := t' } := by
 have nit : ∀ b u, H b = some u → b ≠ it := fun b u e z => by rw [z, hn] at e; cases e
 refine I.step (g' := s.gens) (d' := s.drawn) (ch := [it]) (fun b hb => ?_) (fun b o _ _ hc e _ => k b o (fun z => hc (by simp [z])) e) (fun b o _ _ hc e _ => ⟨o.slots, k b o (fun z => hc (by simp [z])) e⟩) (fun _ _ _ _ n => n)
  (fun b o hc e => ⟨o, k b o (fun z => hc (by simp [z])) e⟩) (fun _ _ e => e) (fun _ _ _ e => e) (fun b ps e => ⟨#[], by rw [e]; simp⟩) (fun m hm => ?_) (fun b u e => ?_) I.bare
 ·have e : b = it := by simpa using hb
  subst e
  exact ⟨h1, hL, h2, h3⟩
 ·obtain ⟨o, es, ep, ho, r⟩ := hm
  exact ⟨o, es, ep, k _ o (Ne.symm hL) ho, r⟩
 ·refine (I.hok b u e).stay (fun c v hc q => k c v ?_ q) (fun _ q => q) fun _ _ q => q
  rcases hc with z | z
  ·rw [z]; exact nit b u e
  ·exact nit c _ z
theorem Inv.tok (I : Inv X pins σ H s) (t : Nat) : Inv X pins σ H { s with toks := t } := I.un (h' := s.heap) (t' := t) Un.refl I.hok
theorem Inv.kept {t' : Nat} (I : Inv X pins σ H s) (k : ∀ b u, s.heap.get? b = some u → h'.get? b = some u) : Inv X pins σ H { s with heap := h', toks := t' } := I.un (Un.kept k) (I.hok.kept k)
theorem Inv.laid {a : Addr} {o : HO} {t' : Nat} (I : Inv X pins σ H s) (k : ∀ b u, s.heap.get? b = some u → h'.get? b = some u) (hp : s.heap.objs.size ≤ a) (new : ObjOk X.prog X.w (a7 H a o) h' a o) :
  Inv X pins σ (a7 H a o) { s with heap := h', toks := t' } := I.un (Un.laid k hp (I.hok.fresh hp)) (I.hok.laid k hp new)
theorem Inv.write {x e : Addr} {o : HO} {t' : Nat} (I : Inv X pins σ H s) (mu : E8 (H x)) (he : e = x ∨ H e = some (.own x)) (k : ∀ b u, b ≠ e → s.heap.get? b = some u → h'.get? b = some u) (heo : ∃ u, h'.get? e = some u)
  (new : ObjOk X.prog X.w (a7 H x o) h' x o) : Inv X pins σ (a7 H x o) { s with heap := h', toks := t' } := I.un (Un.write mu he k heo) (I.hok.write mu he k heo new)
theorem Inv.weak {σ' : List (Option V)} (I : Inv X pins σ H s) (hl : σ'.length = σ.length) (w : ∀ (i : Nat) v, σ'[i]? = some (some v) → σ[i]? = some (some v)) : Inv X pins σ' H s :=
 ⟨I.ok, I.os, I.bare, I.base, let ⟨m, hn, hl'⟩ := I.loc; ⟨m, hn, fun i x v e1 e2 e3 => hl' i x v e1 (w i v e2) e3⟩, I.cell, I.free, I.freeC, I.pin, I.hok, hl.trans I.len⟩
theorem Inv.pins_of {pins' : List (Addr × Obj)} (I : Inv X pins σ H s) (h : ∀ p ∈ pins', s.heap.get? p.1 = some p.2 ∧ H p.1 = none ∧ p.1 ≠ X.env.locals ∧ p.1 ∉ X.fs ∧ ∀ v, p.2.data ≠ .cell v) : Inv X pins' σ H s :=
 ⟨I.ok, I.os, I.bare, I.base, I.loc, I.cell, I.free, I.freeC, fun p hp => (List.mem_append.mp hp).elim (fun z => I.pin p (List.mem_append_left _ z)) (h p), I.hok, I.len⟩
theorem Y6 {N : List Str} (hN : N.Nodup) {i j : Nat} {x : Str} (a : N[i]? = some x) (b : N[j]? = some x) : i = j := by
 obtain ⟨h1, e1⟩ := List.getElem?_eq_some_iff.mp a
 obtain ⟨h2, e2⟩ := List.getElem?_eq_some_iff.mp b
 exact (List.getElem_inj hN).mp (e1.trans e2.symm)
theorem gL {M : Model} {A : Around} {E : Value → Shared → Prop} {i : Nat} {x : Str} {v : V} {u : Value} {Q : Unit → Shared → Prop} (I : Inv X pins σ H s) (hN : X.N.Nodup) (hi : X.N[i]? = some x) (hx : B9 X.env.scope x) (r : c5 v u)
  (h : ∀ s', Inv X pins (σ.set i (some v)) H s' → (∃ a, Heap.SameBut a s.heap s'.heap ∧ (a = X.env.locals ∨ X.env.cells.lookup x = some a)) → Q () s') (hf : X.fn x = true ∨ X.env.scope.names.lookup x = some .local := by first | exact .inl rfl | exact .inr rfl | assumption) : wpAny M A (storeName X.env x u) Q E s := by
 obtain ⟨m, hn, hl⟩ := id I.loc
 have hcls : (X.env.scope.kind == .class || (X.env.scope.kind == .module && X.env.locals != X.env.globals)) = false := by rw [I.ok.kind]; rfl
 have hiσ : i < σ.length := by rw [I.len]; exact (List.getElem?_eq_some_iff.mp hi).1
 have cne := I.cne
 have tracked : ∀ {a : Addr} {h' : Heap}, (∃ o, s.heap.get? a = some o ∧ H a = none) → Heap.SameBut a s.heap h' → HOk X.prog X.w H h' := fun {a h'} ha hs b ob e => by
  obtain ⟨_, _, hfree⟩ := ha
  refine (I.hok b ob e).stay (fun c w' hc q => (hs.2 c ?_).trans q) (fun _ q => q) fun _ _ q => q
  rintro rfl
  rcases hc with rfl | hc
  ·rw [hfree] at e; cases e
  ·rw [hfree] at hc; cases hc
 rcases hx with hk | hk
 ·refine wpAny_storeName_local hk hn (fun h' hn' hs => ?_) hcls
  obtain ⟨oL, _, _, hoL, _⟩ := id hn
  refine h _ ⟨I.ok, I.os, I.bare, ⟨fun b o e n hb hx => ?_, fun b o e n hb hx => ?_, I.base.free, fun b o e hx => ?_, I.base.tups, I.base.frzs, I.base.tbls⟩, ⟨_, hn', fun j y v' e1 e2 e3 => ?_⟩, fun y c e => ?_, I.free, I.freeC, fun p hp => ?_, tracked ⟨oL, hoL, I.free⟩ hs, by simpa using I.len⟩ ⟨_, hs, .inl rfl⟩
  ·exact (hs.2 b (Nat.ne_of_lt (Nat.lt_of_lt_of_le (Heap.lt_size e) I.ok.above))).trans (I.base.keep b o e n hb hx)
  ·obtain ⟨sl, e1⟩ := I.base.slot b o e n hb hx
   exact ⟨sl, (hs.2 b (Nat.ne_of_lt (Nat.lt_of_lt_of_le (Heap.lt_size e) I.ok.above))).trans e1⟩
  ·obtain ⟨o', e1⟩ := I.base.there b o e hx
   exact ⟨o', (hs.2 b (Nat.ne_of_lt (Nat.lt_of_lt_of_le (Heap.lt_size e) I.ok.above))).trans e1⟩
  ·by_cases hj : j = i
   ·subst hj
    rw [hi] at e1; cases e1
    rw [List.getElem?_set_self hiσ] at e2
    cases e2
    exact ⟨u, r, .inl ⟨hk, by simp⟩⟩
   ·rw [List.getElem?_set_ne (Ne.symm hj)] at e2
    obtain ⟨u', r', q⟩ := hl j y v' e1 e2 e3
    refine ⟨u', r', ?_⟩
    rcases q with ⟨k, e⟩ | ⟨k, c, e, z⟩
    ·refine .inl ⟨k, ?_⟩
     have : y ≠ x := fun e => hj (Y6 hN e1 (e ▸ hi))
     simp [this, e]
    ·exact .inr ⟨k, c, e, z.sameBut hs (cne y c e)⟩
  ·obtain ⟨w', z⟩ := I.cell y c e
   exact ⟨w', z.sameBut hs (cne y c e)⟩
  ·obtain ⟨e, n, ne, nf, d⟩ := I.pin p hp
   exact ⟨(hs.2 p.1 ne).trans e, n, ne, nf, d⟩
 ·have hfn : X.fn x = true := by
   rcases hf with z | z
   ·exact z
   ·rw [z] at hk; cases hk
  obtain ⟨c, hc⟩ := I.ok.has x (.inl hk)
  obtain ⟨w', z⟩ := I.cell x c hc
  refine wpAny_storeName_cell I.ok.kind hk hc z (fun h' hc' hs => ?_)
  obtain ⟨oc, hoc, hocd⟩ := id z
  refine h { s with heap := h' } ⟨I.ok, I.os, I.bare, ⟨fun b o e n hb hx => ?_, fun b o e n hb hx => ?_, I.base.free, fun b o e hx => ?_, I.base.tups, I.base.frzs, I.base.tbls⟩, ⟨m, hn.sameBut hs (Ne.symm (cne x c hc)), fun j y v' e1 e2 e3 => ?_⟩, fun y c' e => ?_, I.free, I.freeC, fun p hp => ?_, tracked ⟨oc, hoc, I.freeC x c hc⟩ hs, by simpa using I.len⟩ ⟨c, hs, .inr hc⟩
  ·exact (hs.2 b (Nat.ne_of_lt (Nat.lt_of_lt_of_le (Heap.lt_size e) (I.ok.cab x c hfn hc)))).trans (I.base.keep b o e n hb hx)
  ·obtain ⟨sl, e1⟩ := I.base.slot b o e n hb hx
   exact ⟨sl, (hs.2 b (Nat.ne_of_lt (Nat.lt_of_lt_of_le (Heap.lt_size e) (I.ok.cab x c hfn hc)))).trans e1⟩
  ·obtain ⟨o', e1⟩ := I.base.there b o e hx
   exact ⟨o', (hs.2 b (Nat.ne_of_lt (Nat.lt_of_lt_of_le (Heap.lt_size e) (I.ok.cab x c hfn hc)))).trans e1⟩
  ·by_cases hj : j = i
   ·subst hj
    rw [hi] at e1; cases e1
    rw [List.getElem?_set_self hiσ] at e2
    cases e2
    exact ⟨u, r, .inr ⟨.inl hk, c, hc, hc'⟩⟩
   ·rw [List.getElem?_set_ne (Ne.symm hj)] at e2
    obtain ⟨u', r', q⟩ := hl j y v' e1 e2 e3
    refine ⟨u', r', ?_⟩
    rcases q with q | ⟨k, c', e, z'⟩
    ·exact .inl q
    ·refine .inr ⟨k, c', e, z'.sameBut hs ?_⟩
     rintro rfl
     exact hj (Y6 hN e1 (I.ok.inj _ _ _ e hc ▸ hi))
  ·by_cases hcc : c' = c
   ·subst hcc; exact ⟨_, hc'⟩
   ·obtain ⟨w2, z2⟩ := I.cell y c' e
    exact ⟨w2, z2.sameBut hs hcc⟩
  ·obtain ⟨e, n, ne, nf, d⟩ := I.pin p hp
   refine ⟨(hs.2 p.1 ?_).trans e, n, ne, nf, d⟩
   intro q
   rw [q, hoc] at e
   have q' : oc = p.2 := Option.some.inj e
   exact d w' (by rw [← q']; exact hocd)
theorem V0 {M : Model} {A : Around} {E : Value → Shared → Prop} {i : Nat} {x : Str} {v : V} {u : Value} {Q : Unit → Shared → Prop} (I : Inv X pins σ H s) (hN : X.N.Nodup) (hi : X.N[i]? = some x) (hx : B9 X.env.scope x) (r : c5 v u)
  (h : ∀ s', Inv X pins (σ.set i (some v)) H s' → Q () s') (hf : X.fn x = true ∨ X.env.scope.names.lookup x = some .local := by first | exact .inl rfl | exact .inr rfl | assumption) : wpAny M A (storeName X.env x u) Q E s :=
 gL I hN hi hx r (fun s' I' _ => h s' I') hf
theorem Inv.call' {s' : Shared} {ch : List Addr} (I : Inv X pins σ H s) (ho : s'.os = s.os) (u : Un (o7 X.stack) ch H H' s.heap s'.heap) (hok : HOk X.prog X.w H' s'.heap) (hg : AllBare s'.gens)
  (hch : ∀ b ∈ ch, (b ∈ X.ex ∨ X.s₀.heap.objs.size ≤ b) ∧ b ≠ X.env.locals ∧ (∀ x c, X.env.cells.lookup x = some c → c ≠ b) ∧ ∀ p ∈ X.pn ++ pins, p.1 ≠ b) : Inv X pins σ H' s' := by
 obtain ⟨h', g', d', t', o'⟩ := s'
 have e : o' = s.os := ho
 subst e
 exact I.call (g' := g') (t' := t') (d' := d') u hok hg hch
end
noncomputable abbrev XK := Value → Option Addr → Hp → Prop
noncomputable abbrev St := List (Option V)
noncomputable abbrev VK := V → Hp → Prop
noncomputable abbrev TE := St → Hp → VK → Prop
noncomputable abbrev TT := St → Hp → (Bool → Hp → Prop) → Prop
noncomputable abbrev TA := St → Hp → (List V → Hp → Prop) → Prop
structure Ends where
 nx : St → Hp → Prop
 rt : VK
 bk : St → Hp → Prop := fun _ _ => False
 ct : St → Hp → Prop := fun _ _ => False
noncomputable abbrev TS := Ends → St → Hp → Prop
noncomputable def EP (X : Cx) (pins : List (Addr × Obj)) (σ : St) (Q : VK) (u : Value) (s' : Shared) : Prop := ∃ v H', Inv X pins σ H' s' ∧ c5 v u ∧ Q v H'
noncomputable def TP (X : Cx) (pins : List (Addr × Obj)) (σ : St) (Q : Bool → Hp → Prop) (b : Bool) (s' : Shared) : Prop := ∃ H', Inv X pins σ H' s' ∧ Q b H'
noncomputable def AP (X : Cx) (pins : List (Addr × Obj)) (σ : St) (Q : List V → Hp → Prop) (us : List Value) (s' : Shared) : Prop := ∃ vs H', Inv X pins σ H' s' ∧ Vals vs us ∧ Q vs H'
noncomputable def SP (X : Cx) (pins : List (Addr × Obj)) (D : Ends) (f : Flow) (s' : Shared) : Prop :=
 match f with
 | .next => ∃ σ' H', Inv X pins σ' H' s' ∧ D.nx σ' H'
 | .brk => ∃ σ' H', Inv X pins σ' H' s' ∧ D.bk σ' H'
 | .cont => ∃ σ' H', Inv X pins σ' H' s' ∧ D.ct σ' H'
 | .ret u => ∃ v σ' H', Inv X pins σ' H' s' ∧ c5 v u ∧ D.rt v H'
noncomputable def PE (X : Cx) (e : Expr) (t : TE) : Prop :=
 ∀ (pins : List (Addr × Obj)) (s : Shared) (σ : St) (H : Hp) (Q : VK), Inv X pins σ H s → t σ H Q → wpAny (model X.prog X.w) X.A (eval e X.env) (EP X pins σ Q) X.xe s
noncomputable def PT (X : Cx) (e : Expr) (t : TT) : Prop :=
 ∀ (pins : List (Addr × Obj)) (s : Shared) (σ : St) (H : Hp) (Q : Bool → Hp → Prop), Inv X pins σ H s → t σ H Q → wpAny (model X.prog X.w) X.A (isTrue e X.env (eval e X.env)) (TP X pins σ Q) X.xe s
noncomputable def PW (X : Cx) (e : Expr) (t : TT) : Prop :=
 ∀ (whole : Sem Value) (pins : List (Addr × Obj)) (s : Shared) (σ : St) (H : Hp) (Q : Bool → Hp → Prop), Inv X pins σ H s → t σ H Q → wpAny (model X.prog X.w) X.A (isTrue e X.env whole) (TP X pins σ Q) X.xe s
theorem PW.pt {X : Cx} {e : Expr} {t : TT} (h : PW X e t) : PT X e t := h _
noncomputable def PA (X : Cx) (es : List Expr) (t : TA) : Prop :=
 ∀ (pos : Pos) (pins : List (Addr × Obj)) (s : Shared) (σ : St) (H : Hp) (Q : List V → Hp → Prop), Inv X pins σ H s → t σ H Q → wpAny (model X.prog X.w) X.A (spliced (backTo pos (starEach es X.env))) (AP X pins σ Q) X.xe s
noncomputable def PS (X : Cx) (st : Stmt) (t : TS) : Prop :=
 ∀ (pins : List (Addr × Obj)) (s : Shared) (σ : St) (H : Hp) (D : Ends), Inv X pins σ H s → t D σ H → wpAny (model X.prog X.w) X.A (exec st X.env) (SP X pins D) X.xe s
noncomputable def PSs (X : Cx) (st : List Stmt) (t : TS) : Prop :=
 ∀ (pins : List (Addr × Obj)) (s : Shared) (σ : St) (H : Hp) (D : Ends), Inv X pins σ H s → t D σ H → wpAny (model X.prog X.w) X.A (execs st X.env) (SP X pins D) X.xe s
theorem b0 {α : Type} {t : Sem α} {Q Q' : α → Shared → Prop} {M : Model} {A : Around} {E : Value → Shared → Prop} {s : Shared} (h : wpAny M A t Q E s) (hQ : ∀ a s, Q a s → Q' a s) : wpAny M A t Q' E s := wpAny_mono h hQ fun _ _ x => x
section
variable {X : Cx}
noncomputable def w6 (i : Nat) : TE := fun σ H Q => ∃ v, σ[i]? = some (some v) ∧ Q v H
noncomputable def tC (v : V) : TE := fun _ H Q => Q v H
theorem cL {i : Nat} {x : Str} {pos : Pos} (hN : X.N[i]? = some x) (hv : S5 X.env.scope x) (hd : (x == ("__debug__" : Str)) = false := by decide) (hcd : (x == ("__classdict__" : Str)) = false := by decide) : PE X (.Name x pos) (w6 i) := by
 intro pins s σ H Q I h
 obtain ⟨v, e, h⟩ := h
 obtain ⟨m, hn, hl⟩ := I.loc
 obtain ⟨u, r, l⟩ := hl i x v hN e hv
 have fin : EP X pins σ Q u s := ⟨v, H, I, r, h⟩
 rcases l with ⟨hk, hm⟩ | ⟨hk, c, hc, hcell⟩
 ·exact wpAny_Name (wpAny_loadName_local I.ok.kind hk hn hm fin) hd
 ·rcases hk with hk | hk
  ·exact wpAny_Name (wpAny_loadName_cell I.ok.kind hk hc hcell fin) hd
  ·exact wpAny_Name (wpAny_loadName_free I.ok.kind hk hc hcell fin hcd) hd
theorem G6 {i j pos} : PE X (.Constant (.int i) j pos) (tC (.int i)) := fun _ _ _ H _ I h => wpAny_Constant_int ⟨.int i, H, I.tok _, ⟨_, rfl⟩, h⟩
theorem gO {b j pos} : PE X (.Constant (.bool b) j pos) (tC (.bl b)) := fun _ _ _ H _ I h => Constant_bool ⟨.bl b, H, I, rfl, h⟩
theorem dX {j pos} : PE X (.Constant .none j pos) (tC .non) := fun _ _ _ H _ I h => Constant_none ⟨.non, H, I, rfl, h⟩
theorem A5 {x j pos} : PE X (.Constant (.str x) j pos) (tC (.str x)) := fun _ _ _ H _ I h => Calls.Constant_str ⟨.str x, H, I.tok _, ⟨_, rfl⟩, h⟩
noncomputable def Gl (X : Cx) (x : Str) : Prop := X.env.kindOf x = some .globalImplicit
theorem E6 {E : Value → Shared → Prop} {pins : List (Addr × Obj)} {s : Shared} {σ : St} {H : Hp} {x : Str} {u : Value} {pos : Pos} {Q : Value → Shared → Prop} (I : Inv X pins σ H s) (hg : Gl X x) (hm : X.mg x = some u) (h : Q u s)
  (hd : (x == ("__debug__" : Str)) = false := by decide) : wpAny (model X.prog X.w) X.A (eval (.Name x pos) X.env) Q E s :=
 Calls.Name_function_global I.ok.kind hg (Calls.loadGlobal_global (by rw [I.ok.glob]; exact I.mod.glob.keeps I.bk) hm h) hd
theorem Q6 {E : Value → Shared → Prop} {pins : List (Addr × Obj)} {s : Shared} {σ : St} {H : Hp} {x : Str} {u : Value} {pos : Pos} {Q : Value → Shared → Prop} (I : Inv X pins σ H s) (hg : Gl X x) (hm : X.mg x = none) (hv : bootBuiltins x = some u) (h : Q u s)
  (hn : x ≠ "__name__" := by decide) (hd : (x == ("__debug__" : Str)) = false := by decide) : wpAny (model X.prog X.w) X.A (eval (.Name x pos) X.env) Q E s := by
 obtain ⟨mb, h1, h2⟩ := I.mod.blt
 exact Calls.Name_function_global I.ok.kind hg (Calls.loadGlobal_builtin (by rw [I.ok.glob]; exact I.mod.glob.keeps I.bk) hm (by rw [I.ok.blt]; exact h1.keeps I.bk) ((h2 x hn).trans hv) h) hd
theorem dc {x : Str} {v : V} {u : Value} {pos : Pos} (hg : Gl X x) (hm : X.mg x = some u) (r : c5 v u) (hd : (x == ("__debug__" : Str)) = false := by decide) : PE X (.Name x pos) (tC v) :=
 fun _ _ _ H _ I h => E6 I hg hm ⟨v, H, I, r, h⟩ hd
theorem cu {x : Str} {v : V} {u : Value} {pos : Pos} (hg : Gl X x) (hm : X.mg x = none) (hv : bootBuiltins x = some u) (r : c5 v u) (hn : x ≠ "__name__" := by decide) (hd : (x == ("__debug__" : Str)) = false := by decide) : PE X (.Name x pos) (tC v) :=
 fun _ _ _ H _ I h => Q6 I hg hm hv ⟨v, H, I, r, h⟩ hn hd
variable {a b : Expr} {ta tb : TE} {pos : Pos}
variable {tA tB' : TT} {rest : List Expr}
noncomputable def jg (t u : TT) : TT := fun σ H Q => t σ H fun c H1 => if c = true then u σ H1 Q else Q false H1
noncomputable def fm (t u : TT) : TT := fun σ H Q => t σ H fun c H1 => if c = true then Q true H1 else u σ H1 Q
noncomputable def fS (t : TT) : TT := fun σ H Q => t σ H fun c H1 => Q (!c) H1
theorem cm (ha : PT X a tA) : PW X (.BoolOp .And [a] pos) tA := by
 intro wh pins s σ H Q I h
 refine isTrue_and (b0 (ha pins s σ H Q I h) fun c s1 e => ?_)
 cases c with
 | true => exact isTrue_and_nil e
 | false => exact e
theorem hX (ha : PT X a tA) : PW X (.BoolOp .Or [a] pos) tA := by
 intro wh pins s σ H Q I h
 refine isTrue_or (b0 (ha pins s σ H Q I h) fun c s1 e => ?_)
 cases c with
 | false => exact isTrue_or_nil e
 | true => exact e
theorem dr (ha : PT X a tA) (hb : PW X (.BoolOp .And (b :: rest) pos) tB') : PW X (.BoolOp .And (a :: b :: rest) pos) (jg tA tB') := by
 intro wh pins s σ H Q I h
 refine isTrue_and (b0 (ha pins s σ H _ I h) fun c s1 ⟨H1, I1, q1⟩ => ?_)
 cases c with
 | true => exact hb wh pins s1 σ H1 Q I1 q1
 | false => exact ⟨H1, I1, q1⟩
theorem dU (ha : PT X a tA) (hb : PW X (.BoolOp .Or (b :: rest) pos) tB') : PW X (.BoolOp .Or (a :: b :: rest) pos) (fm tA tB') := by
 intro wh pins s σ H Q I h
 refine isTrue_or (b0 (ha pins s σ H _ I h) fun c s1 ⟨H1, I1, q1⟩ => ?_)
 cases c with
 | true => exact ⟨H1, I1, q1⟩
 | false => exact hb wh pins s1 σ H1 Q I1 q1
theorem jf (ha : PT X a tA) : PT X (.UnaryOp .Not a pos) (fS tA) := by
 intro pins s σ H Q I h
 exact isTrue_not (ha pins s σ H (fun c H1 => Q (!c) H1) I h)
noncomputable def ek (t : TT) (ta tb : TE) : TE := fun σ H Q => t σ H fun c H1 => if c = true then ta σ H1 Q else tb σ H1 Q
theorem jt {c : Expr} (hc : PT X c tA) (ha : PE X a ta) (hb : PE X b tb) : PE X (.IfExp c a b pos) (ek tA ta tb) := by
 intro pins s σ H Q I h
 refine wpAny_IfExp (b0 (hc pins s σ H _ I h) fun d s1 ⟨H1, I1, q1⟩ => ?_)
 cases d with
 | true => exact ha pins s1 σ H1 Q I1 q1
 | false => exact hb pins s1 σ H1 Q I1 q1
end
noncomputable def SqL (K : PySem.W.Frag) (H : Hp) (a : Addr) (xs : List V) : Prop :=
 Rd H a (.lst xs) ∨
  ∃ (o : Obj) (its : Array Value) (n : Nat), K.lookup a = some o ∧ o.cls = .type "list" ∧ o.dict = none ∧ o.data = .seq its n ∧ its.size ≤ sizeLine ∧ Vals xs its.toList
noncomputable def SqT (K : PySem.W.Frag) (H : Hp) (a : Addr) (xs : List V) : Prop :=
 Rd H a (.tup xs) ∨
  ∃ (o : Obj) (its : Array Value) (n : Nat), K.lookup a = some o ∧ o.cls = .type "tuple" ∧ o.data = .seq its n ∧ its.size ≤ sizeLine ∧ Vals xs its.toList
section
variable {X : Cx} {pins : List (Addr × Obj)} {σ : St} {H : Hp} {s : Shared} {a : Addr} {xs ys : List V}
theorem SqL.of {K : PySem.W.Frag} (h : H a = some (.lst xs)) : SqL K H a xs := .inl (.inl h)
theorem SqT.of {K : PySem.W.Frag} (h : H a = some (.tup xs)) : SqT K H a xs := .inl (.inl h)
theorem Inv.list (I : Inv X pins σ H s) (h : SqL X.K H a xs) : ∃ its : List Value, Vals xs its ∧ PlainL s.heap a its.toArray ∧ xs.length ≤ sizeLine := by
 rcases h with h | ⟨o, its, n, hk, hc, hd, hs, hz, r⟩
 ·obtain ⟨z, its, n, r, e⟩ := h.ok I.hok
  exact ⟨its, r, ⟨_, n, e, rfl, rfl, rfl⟩, z⟩
 ·refine ⟨its.toList, r, ⟨o, n, I.kIn a o hk, hc, hd, by simpa using hs⟩, ?_⟩
  have e := r.length
  simp only [Array.length_toList] at e
  omega
theorem Inv.tuple (I : Inv X pins σ H s) (h : SqT X.K H a xs) : ∃ its : List Value, Vals xs its ∧ IsTup s.heap a its.toArray ∧ xs.length ≤ sizeLine := by
 rcases h with h | ⟨o, its, n, hk, hc, hs, hz, r⟩
 ·obtain ⟨z, its, r, p⟩ := h.ok I.hok
  exact ⟨its, r, p, z⟩
 ·refine ⟨its.toList, r, ⟨o, I.kIn a o hk, hc, n, by simpa using hs⟩, ?_⟩
  have e := r.length
  simp only [Array.length_toList] at e
  omega
end
noncomputable abbrev Cx.wish (X : Cx) (E : Value → Shared → Prop) : Cx := { X with xe := E }
noncomputable abbrev Cx.nox (X : Cx) : Cx := X.wish fun _ _ => False
theorem Cx.Ok.wish {X : Cx} (ok : X.Ok) (E : Value → Shared → Prop) : (X.wish E).Ok :=
 ⟨ok.mod, ok.kind, ok.glob, ok.blt, ok.above, ok.inj, ok.has, ok.cab, ok.hd, ok.frames, ok.stk, ok.exf, ok.bs, ok.bsz, ok.noex, ok.exfs, ok.funs, ok.frf⟩
theorem Cx.Ok.unwish {X : Cx} {E : Value → Shared → Prop} (ok : (X.wish E).Ok) : X.Ok :=
 ⟨ok.mod, ok.kind, ok.glob, ok.blt, ok.above, ok.inj, ok.has, ok.cab, ok.hd, ok.frames, ok.stk, ok.exf, ok.bs, ok.bsz, ok.noex, ok.exfs, ok.funs, ok.frf⟩
section
variable {X : Cx} {pins : List (Addr × Obj)} {σ : St} {H : Hp} {s : Shared} {E : Value → Shared → Prop}
theorem Inv.wish (I : Inv X pins σ H s) (E : Value → Shared → Prop) : Inv (X.wish E) pins σ H s := ⟨I.ok.wish E, I.os, I.bare, I.base, I.loc, I.cell, I.free, I.freeC, I.pin, I.hok, I.len⟩
theorem Inv.unwish (I : Inv (X.wish E) pins σ H s) : Inv X pins σ H s := ⟨I.ok.unwish, I.os, I.bare, I.base, I.loc, I.cell, I.free, I.freeC, I.pin, I.hok, I.len⟩
theorem SP.unwish {D : Ends} {f : Flow} {s' : Shared} (h : SP (X.wish E) pins D f s') : SP X pins D f s' := by
 cases f with
 | next => obtain ⟨σ', H', I, q⟩ := h; exact ⟨σ', H', I.unwish, q⟩
 | brk => obtain ⟨σ', H', I, q⟩ := h; exact ⟨σ', H', I.unwish, q⟩
 | cont => obtain ⟨σ', H', I, q⟩ := h; exact ⟨σ', H', I.unwish, q⟩
 | ret u => obtain ⟨v, σ', H', I, r, q⟩ := h; exact ⟨v, σ', H', I.unwish, r, q⟩
theorem PSs.nox {st : List Stmt} {t : TS} (h : PSs X.nox st t) : PSs X st t := fun pins s σ H D I hw =>
 wpAny_mono (h pins s σ H D (I.wish _) hw) (fun _ _ q => q.unwish) fun _ _ z => False.elim z
end
section
variable {X : Cx} {st : Stmt} {rest : List Stmt} {t u : TS} {e : Expr} {te : TE} {pos : Pos}
noncomputable def iz : TS := fun D σ H => D.nx σ H
noncomputable def jm (t u : TS) : TS := fun D σ H => t { D with nx := u D } σ H
theorem bL : PSs X [] iz := fun _ _ σ H _ I h => wpAny_execs_nil ⟨σ, H, I, h⟩
theorem gH (h1 : PS X st t) (h2 : PSs X rest u) : PSs X (st :: rest) (jm t u) := by
 intro pins s σ H D I h
 refine wpAny_execs_cons (b0 (h1 pins s σ H { D with nx := u D } I h) fun f s1 q => ?_)
 cases f with
 | next =>
  obtain ⟨σ', H', I', q⟩ := q
  exact h2 pins s1 σ' H' D I' q
 | ret v => exact q
 | brk => exact q
 | cont => exact q
theorem gA (h1 : PS X st t) : PSs X [st] t := by
 intro pins s σ H D I h
 refine wpAny_execs_cons (b0 (h1 pins s σ H D I h) fun f s1 q => ?_)
 cases f with
 | next => exact wpAny_execs_nil q
 | ret v => exact q
 | brk => exact q
 | cont => exact q
theorem Inv.quiet {pins : List (Addr × Obj)} {σ : St} {H : Hp} {s : Shared} (I : Inv X pins σ H s) : interactive X.env = false := by simp [interactive, I.ok.kind]
noncomputable def en (te : TE) : TS := fun D σ H => te σ H fun _ H1 => D.nx σ H1
theorem gS (he : PE X e te) (hs : swapsWith e none pos.line X.env = pure false := by rfl) : PS X (.Expr e pos) (en te) := by
 intro pins s σ H D I h
 exact wpAny_Expr_any (b0 (he pins s σ H _ I h) fun v s1 ⟨x, H1, I1, r1, q1⟩ => ⟨σ, H1, I1, q1⟩) I.quiet hs
noncomputable def eA (te : TE) : TS := fun D σ H => te σ H D.rt
theorem iA (he : PE X e te) : PS X (.Return (some e) pos) (eA te) := by
 intro pins s σ H D I h
 exact wpAny_Return_some (b0 (he pins s σ H _ I h) fun v s1 ⟨x, H1, I1, r1, q1⟩ => ⟨x, σ, H1, I1, r1, q1⟩)
noncomputable def iK (c : TT) (t u : TS) : TS := fun D σ H => c σ H fun b H1 => if b = true then t D σ H1 else u D σ H1
theorem gC {c : Expr} {a b : List Stmt} {tc : TT} (hc : PT X c tc) (ha : PSs X a t) (hb : PSs X b u) : PS X (.If c a b pos) (iK tc t u) := by
 intro pins s σ H D I h
 refine wpAny_If (b0 (hc pins s σ H _ I h) fun d s1 ⟨H1, I1, q1⟩ => ?_)
 cases d with
 | true => exact ha pins s1 σ H1 D I1 q1
 | false => exact hb pins s1 σ H1 D I1 q1
end
noncomputable abbrev TG := V → St → Hp → (St → Hp → Prop) → Prop
noncomputable def PG (X : Cx) (target : Expr) (t : TG) : Prop :=
 ∀ (pins : List (Addr × Obj)) (s : Shared) (σ : St) (H : Hp) (v : V) (u : Value) (Q : St → Hp → Prop), Inv X pins σ H s → c5 v u → t v σ H Q →
  wpAny (model X.prog X.w) X.A (assign target X.env u) (fun _ s' => ∃ σ' H', Inv X pins σ' H' s' ∧ Q σ' H') X.xe s
section
variable {X : Cx} {pos : Pos}
noncomputable def G4 (i : Nat) : TG := fun v σ H Q => Q (σ.set i (some v)) H
theorem V6 {i : Nat} {x : Str} (hN : X.N.Nodup) (hi : X.N[i]? = some x) (hx : B9 X.env.scope x) (hf : X.fn x = true ∨ X.env.scope.names.lookup x = some .local := by first | exact .inl rfl | exact .inr rfl | assumption) : PG X (.Name x pos) (G4 i) := by
 intro pins s σ H v u Q I r h
 exact wpAny_assign_Name (V0 I hN hi hx r (fun s' I' => ⟨_, H, I', h⟩) hf)
noncomputable def ai (te : TE) (g : TG) : TS := fun D σ H => te σ H fun x H1 => g x σ H1 D.nx
theorem X8 {i : Nat} {x : Str} {e : Expr} {te : TE} {pos' : Pos} (hN : X.N.Nodup) (hi : X.N[i]? = some x) (hx : B9 X.env.scope x) (he : PE X e te) (hs : swapsWith e (some (.Name x pos')) pos.line X.env = pure false := by rfl) (hf : X.fn x = true ∨ X.env.scope.names.lookup x = some .local := by first | exact .inl rfl | exact .inr rfl | assumption) :
  PS X (.Assign [.Name x pos'] e pos) (ai te (G4 i)) := by
 intro pins s σ H D I h
 refine wpAny_Assign_Name (b0 (he pins s σ H _ I h) fun v s1 ⟨y, H1, I1, r1, q1⟩ => ?_) hs
 exact V0 I1 hN hi hx r1 (fun s2 I2 => ⟨_, H1, I2, q1⟩) hf
end
structure It where
 go : Nat → Hp → Prop
 yld : Nat → Hp → V → Hp → Prop
 stop : Nat → Hp → Prop
noncomputable def u5 (X : Cx) (pins : List (Addr × Obj)) (H : Hp) (b : Addr) : Prop :=
 H b = none ∧ b ≠ X.env.locals ∧ b ∉ X.fs ∧ (b ∈ X.ex ∨ X.s₀.heap.objs.size ≤ b) ∧ (∀ x c, X.env.cells.lookup x = some c → c ≠ b) ∧ ∀ p ∈ X.pn ++ pins, p.1 ≠ b
theorem Inv.fpOk {X : Cx} {pins : List (Addr × Obj)} {σ : St} {H H' : Hp} {s : Shared} {b : Addr} (I : Inv X pins σ H s) (hb : s.heap.objs.size ≤ b) (hn : H' b = none) : u5 X pins H' b := by
 refine ⟨hn, Nat.ne_of_gt (Nat.lt_of_lt_of_le I.lt hb), I.nofs hb, .inr (Nat.le_trans I.sz hb), fun x c e z => ?_, fun p hp z => ?_⟩
 ·obtain ⟨v, q⟩ := I.cell x c e
  exact absurd (Nat.lt_of_lt_of_le q.lt (by rw [z]; exact hb)) (Nat.lt_irrefl _)
 ·exact absurd (Nat.lt_of_lt_of_le (Heap.lt_size (I.pin p hp).1) (by rw [z]; exact hb)) (Nat.lt_irrefl _)
structure Turn (P : Program) (w : World) (K : PySem.W.Frag) (tg : Expr) (J : It) (fp : List Addr) (it : Addr) (tn : Nat → Heap → Prop) : Prop where
 mem : it ∈ fp
 obj : ∀ i h, tn i h → ∀ b ∈ fp, ∃ o, h.get? b = some o ∧ ∀ v, o.data ≠ .cell v
 keep : ∀ i h h', tn i h → (∀ b ∈ fp, ∀ o, h.get? b = some o → h'.get? b = some o) → tn i h'
 item : ∀ (X : Cx), X.prog = P → X.w = w → X.K = K → X.calm = true → ∀ (i : Nat) (pins : List (Addr × Obj)) (s : Shared) (σ : St) (H : Hp) (E : Value → Shared → Prop), Inv X pins σ H s → (∀ b ∈ fp, u5 X pins H b) → tn i s.heap → J.go i H →
  wpAny (model P w) X.A (pyNext (.ref it)) (fun r s1 => ∃ u, r = some u ∧
   wpAny (model P w) X.A (letOwnedTupleGo tg (.ref it) u) (fun _ s2 => ∃ x H', Inv X pins σ H' s2 ∧ c5 x u ∧ J.yld i H x H' ∧ tn (i + 1) s2.heap ∧ ∀ b ∈ fp, H' b = none) E s1) E s
 done : ∀ (X : Cx), X.prog = P → X.w = w → X.K = K → X.calm = true → ∀ (i : Nat) (pins : List (Addr × Obj)) (s : Shared) (σ : St) (H : Hp) (E : Value → Shared → Prop), Inv X pins σ H s → (∀ b ∈ fp, u5 X pins H b) → tn i s.heap → J.stop i H →
  wpAny (model P w) X.A (pyNext (.ref it)) (fun r s1 => r = none ∧ Inv X pins σ H s1) E s
 self : ∀ (A : Around) (i : Nat) (s : Shared) (Q : Value → Shared → Prop) (E : Value → Shared → Prop), tn i s.heap → Q (.ref it) s → wpAny (model P w) A (pyIter (.ref it)) Q E s
noncomputable abbrev TI := St → Hp → (It → Hp → Prop) → Prop
noncomputable def av (X : Cx) (pins : List (Addr × Obj)) (σ : St) (tg : Expr) (R : It → Hp → Prop) (itv : Value) (s2 : Shared) : Prop :=
 ∃ (it : Addr) (fp : List Addr) (tn : Nat → Heap → Prop) (J : It) (H' : Hp), itv = .ref it ∧ Inv X pins σ H' s2 ∧ Turn X.prog X.w X.K tg J fp it tn ∧ tn 0 s2.heap ∧ (∀ b ∈ fp, u5 X pins H' b) ∧ R J H'
noncomputable def PI (X : Cx) (tg iter : Expr) (wi : TI) : Prop :=
 ∀ (pins : List (Addr × Obj)) (s : Shared) (σ : St) (H : Hp) (R : It → Hp → Prop), Inv X pins σ H s → wi σ H R →
  wpAny (model X.prog X.w) X.A (eval iter X.env) (fun v s1 => wpAny (model X.prog X.w) X.A (pyIter v) (av X pins σ tg R) X.xe s1) X.xe s
theorem fN {M : Model} {A : Around} {E : Value → Shared → Prop} {s : Shared} {tg : Expr} {it : Addr} {u : Value} {o : Obj} {n : String} {vs : Array Value} {Q : Unit → Shared → Prop} (ho : s.heap.get? it = some o) (hc : o.cls = .type n) (hd : o.data = .fields vs)
    (hn : ["enumerate", "zip", "dict_itemiterator", "dict_reverseitemiterator", "odict_iterator", "itertools.zip_longest", "itertools.pairwise"].contains n = false) (hQ : Q () s) : wpAny M A (letOwnedTupleGo tg (.ref it) u) Q E s := by
  unfold letOwnedTupleGo
  cases tg <;> first
    | exact wpAny_pure hQ
    | (cases u <;> first
        | exact wpAny_pure hQ
        | (refine wpAny_bind (wpAny_load ho ?_)
           rw [hc, hd]
           show wpAny M A (if (["enumerate", "zip", "dict_itemiterator", "dict_reverseitemiterator", "odict_iterator", "itertools.zip_longest", "itertools.pairwise"].contains n && vs[0]? == some (rawInt _)) = true then _ else _) Q E s
           rw [if_neg (by intro h; rw [hn, Bool.false_and] at h; cases h)]
           exact wpAny_pure hQ))
noncomputable def A0 (lo : Int) (n : Nat) : It := ⟨fun i _ => i < n, fun i H x H' => H' = H ∧ x = .int (lo + i), fun i _ => n ≤ i⟩
theorem ir {P : Program} {w : World} {K : PySem.W.Frag} {tg : Expr} (it : Addr) (lo : Int) (n : Nat) : Turn P w K tg (A0 lo n) [it] it (fun i h => IsRangeIter h it (lo + (i : Nat) * 1) ((n : Int) - (i : Nat)) 1) where
 mem := by simp
 obj := fun i h st b hb => by
  have e : b = it := by simpa using hb
  subst e
  exact ⟨_, st, fun v z => by
   have z' : Data.fields _ = Data.cell v := z
   cases z'⟩
 keep := fun i h h' st k => k it (by simp) _ st
 item := by
  intro X hP hw hK hc i pins s σ H E I hf st hg
  subst hP hw hK
  obtain ⟨f0, f1, f2, f3, f4, f5⟩ := hf it (by simp)
  have W := Walks.range (prog := X.prog) (w := X.w) (I.ok.hd hc) it lo 1 n
  refine W.item i s _ _ hg st fun v h' tk hv st' kk => ?_
  obtain ⟨t, rfl⟩ := hv
  have I1 : Inv X pins σ H { s with heap := h', toks := tk } := I.turned (fun b o hb e => kk b o (by simpa using hb) e) f0 f1 f3 f4 f5
  refine ⟨_, rfl, fN (s := { s with heap := h', toks := tk }) (n := "range_iterator") st' rfl rfl (by decide) ⟨.int (lo + i), H, I1, ⟨t, ?_⟩, ⟨rfl, rfl⟩, st', fun b hb => (hf b hb).1⟩⟩
  rw [Int.mul_one]
 done := by
  intro X hP hw hK hc i pins s σ H E I hf st hg
  subst hP hw hK
  obtain ⟨f0, f1, f2, f3, f4, f5⟩ := hf it (by simp)
  exact wpAny_pyNext_range_end (I.ok.hd hc) st (by have : n ≤ i := hg; omega) fun h' eb => ⟨rfl, I.turned (t' := s.toks) (fun b o hb e => eb b o hb e) f0 f1 f3 f4 f5⟩
 self := fun _ _ _ _ _ st h => wpAny_pyIter_rangeiter st h
section
variable {X : Cx} {tg : Expr}
theorem jc {pins : List (Addr × Obj)} {σ : St} {H : Hp} {s : Shared} {R : It → Hp → Prop} {E : Value → Shared → Prop} {lo hi : Int} {t u v : Tok} {tk : Nat} (I : Inv X pins σ H s) (h1 : -(2 ^ 62) ≤ lo) (h2 : lo < 2 ^ 62) (h3 : -(2 ^ 62) ≤ hi) (h4 : hi < 2 ^ 62)
  (q : R (A0 lo (hi - lo).toNat) H) : wpAny (model X.prog X.w) X.A (pyIter (.ref s.heap.objs.size)) (av X pins σ tg R) E { s with heap := s.heap.push { cls := .type "range", data := .fields #[.int lo t, .int hi u, .int 1 v] }, toks := tk } := by
 refine wpAny_pyIter_range (IsRange.new ..) (small_one h1 h2 h3 h4) ?_
 have I1 : Inv X pins σ H { s with heap := s.heap.push { cls := .type "range", data := .fields #[.int lo t, .int hi u, .int 1 v] }, toks := tk } := I.kept fun b o e => Heap.get?_push_of_some _ e
 refine ⟨(s.heap.push { cls := .type "range", data := .fields #[.int lo t, .int hi u, .int 1 v] }).objs.size, [(s.heap.push { cls := .type "range", data := .fields #[.int lo t, .int hi u, .int 1 v] }).objs.size], _, _, H, rfl,
  I1.kept (t' := tk) fun b o e => Heap.get?_push_of_some _ e, ir _ lo (hi - lo).toNat, ?_, fun b hb => ?_, q⟩
 ·have e1 : lo + ((0 : Nat) : Int) * 1 = lo := by simp
  have e2 : (((hi - lo).toNat : Nat) : Int) - ((0 : Nat) : Int) = Builtin.Range.rangeSize lo hi 1 := by rw [rangeSize_one]; split <;> omega
  show IsRangeIter _ _ (lo + ((0 : Nat) : Int) * 1) ((((hi - lo).toNat : Nat) : Int) - ((0 : Nat) : Int)) 1
  rw [e1, e2]
  exact Heap.get?_push_size _ rfl
 ·have e : b = (s.heap.push { cls := .type "range", data := .fields #[.int lo t, .int hi u, .int 1 v] }).objs.size := by simpa using hb
  subst e
  exact I1.fpOk (Nat.le_refl _) (I1.hok.fresh (Nat.le_refl _))
noncomputable def gp (ta : TA) : TI := fun σ H R => ta σ H fun vs H1 => ∃ j : Int, vs = [.int j] ∧ -(2 ^ 62) ≤ j ∧ j < 2 ^ 62 ∧ R (A0 0 j.toNat) H1
theorem bb {a : Expr} {ta : TA} {p pos : Pos} (hg : Gl X "range") (hm : X.mg "range" = none) (ha : PA X [a] ta) (hs : starEach [a] X.env = [(false, eval a X.env)] := by rfl) : PI X tg (.Call (.Name "range" p) [a] [] pos) (gp ta) := by
 intro pins s σ H R I h
 refine Call_ (Q6 I hg hm boot_range (PyProof.Rows.callWith_type1 (b0 (ha pos pins s σ H _ I h) fun us s1 ⟨vs, H1, I1, r1, q1⟩ => ?_) hs rfl))
 obtain ⟨j, e, q1, q2, q⟩ := q1
 subst e
 cases r1 with
 | cons r rr =>
  cases rr
  obtain ⟨t, rfl⟩ := r
  exact call_range_1 (jc I1 (by omega) (by omega) q1 q2 (by simpa using q))
noncomputable def jw (wi : TI) (g : TG) (tb : TS) : TS := fun D σ H => wi σ H fun J H1 => ∃ W : Nat → Nat → St → Hp → Prop, (∃ m, W 0 m σ H1) ∧ ∀ i m σ H, W i m σ H →
 (J.stop i H ∧ D.nx σ H) ∨ (J.go i H ∧ ∃ N : St → Hp → Prop, (∀ σ' H', N σ' H' → ∃ m', m' < m ∧ W (i + 1) m' σ' H') ∧ ∀ x H', J.yld i H x H' → g x σ H' fun σ2 H2 => tb { D with nx := N, ct := N, bk := D.nx } σ2 H2)
noncomputable def G5 (fp : List Addr) (h : Heap) : List (Addr × Obj) := fp.filterMap fun b => (h.get? b).map fun o => (b, o)
theorem N3 {fp : List Addr} {h : Heap} {b : Addr} {o : Obj} (hb : b ∈ fp) (e : h.get? b = some o) : (b, o) ∈ G5 fp h := List.mem_filterMap.mpr ⟨b, hb, by rw [e]; rfl⟩
theorem jq {fp : List Addr} {h : Heap} {p : Addr × Obj} (hp : p ∈ G5 fp h) : p.1 ∈ fp ∧ h.get? p.1 = some p.2 := by
 obtain ⟨b, hb, e⟩ := List.mem_filterMap.mp hp
 cases q : h.get? b with
 | none => rw [q] at e; cases e
 | some o =>
  rw [q] at e
  have e' : (b, o) = p := Option.some.inj e
  subst e'
  exact ⟨hb, q⟩
theorem Inv.pinned {pins : List (Addr × Obj)} {σ : St} {H : Hp} {s : Shared} {fp : List Addr} (I : Inv X pins σ H s) (hf : ∀ b ∈ fp, u5 X pins H b) (ho : ∀ b ∈ fp, ∃ o, s.heap.get? b = some o ∧ ∀ v, o.data ≠ .cell v) : Inv X (pins ++ G5 fp s.heap) σ H s :=
 I.pins_of fun p hp => (List.mem_append.mp hp).elim (fun z => I.pin p (List.mem_append_right _ z)) fun z => by
  obtain ⟨hb, e⟩ := jq z
  obtain ⟨f0, f1, f2, _⟩ := hf p.1 hb
  obtain ⟨o, e', d⟩ := ho p.1 hb
  rw [e] at e'; cases e'
  exact ⟨e, f0, f1, f2, d⟩
theorem Inv.unpinned {pins pl : List (Addr × Obj)} {σ : St} {H : Hp} {s : Shared} (I : Inv X (pins ++ pl) σ H s) : Inv X pins σ H s := I.pins_of fun p hp => I.pin p (List.mem_append_right _ (List.mem_append_left _ hp))
theorem jo {iter : Expr} {body : List Stmt} {wi : TI} {g : TG} {tb : TS} {pos : Pos} (hp : PassesOwn (model X.prog X.w) X.A X.env X.xe) (hc : X.calm = true) (hi : PI X tg iter wi) (hg : PG X tg g) (hb : PSs X body tb)
  (hs : ∀ x, foldedSetIterable iter X.env x = pure x := by intro _; rfl) : PS X (.For tg iter body [] pos) (jw wi g tb) := by
 intro pins s σ H D I h
 refine wpAny_For (b0 (hi pins s σ H _ I h) fun v s1 h1 => b0 h1 fun itv s2 h2 => ?_) hs
 obtain ⟨it, fp, tn, J, H2, e, I2, T, st2, f2, W, ⟨m0, w0⟩, turn⟩ := h2
 subst e
 have stat : ∀ {H' : Hp}, (∀ b ∈ fp, H' b = none) → ∀ b ∈ fp, u5 X pins H' b := fun hn b hb => ⟨hn b hb, (f2 b hb).2⟩
 refine codeAny_forLoop_any (fun n s' => ∃ i σ' H', Inv X pins σ' H' s' ∧ tn i s'.heap ∧ (∀ b ∈ fp, H' b = none) ∧ W i n σ' H') ?_ m0 ⟨0, σ, H2, I2, st2, fun b hb => (f2 b hb).1, w0⟩
 rintro n s3 ⟨i, σ3, H3, I3, st3, fr3, w3⟩
 rcases turn i n σ3 H3 w3 with ⟨stop, qn⟩ | ⟨go, N, hN, step⟩
 ·refine wpAny_passesOwn hp (b0 (T.done X rfl rfl rfl hc i pins s3 σ3 H3 X.xe I3 (stat fr3) st3 stop) fun r s4 ⟨hr, I4⟩ => ?_)
  subst hr
  exact wpAny_execs_nil ⟨σ3, H3, I4, qn⟩
 ·refine wpAny_passesOwn hp (b0 (T.item X rfl rfl rfl hc i pins s3 σ3 H3 X.xe I3 (stat fr3) st3 go) fun r s4 ⟨u, hr, h4⟩ => ?_)
  subst hr
  refine wpAny_passesOwn hp (b0 h4 fun _ s5 ⟨x, H5, I5, r5, y5, st5, fr5⟩ => ?_)
  have I5' := I5.pinned (stat fr5) (T.obj _ _ st5)
  refine wpAny_passesOwn hp (b0 (hg _ s5 σ3 H5 x u _ I5' r5 (step x H5 y5)) fun _ s6 ⟨σ6, H6, I6, q6⟩ => ?_)
  refine wpAny_passesOwn hp (b0 (hb _ s6 σ6 H6 _ I6 q6) fun f s7 q7 => ?_)
  have again : ∀ {σ7 : St} {H7 : Hp}, Inv X (pins ++ G5 fp s5.heap) σ7 H7 s7 → N σ7 H7 → ∃ m, m < n ∧ ∃ i σ' H', Inv X pins σ' H' s7 ∧ tn i s7.heap ∧ (∀ b ∈ fp, H' b = none) ∧ W i m σ' H' := fun {σ7 H7} I7 n7 => by
   obtain ⟨m', hm, w7⟩ := hN σ7 H7 n7
   refine ⟨m', hm, i + 1, σ7, H7, I7.unpinned, T.keep _ _ _ st5 fun b hb o e => (I7.pin (b, o) (List.mem_append_right _ (List.mem_append_right _ (N3 hb e)))).1, fun b hb => ?_, w7⟩
   obtain ⟨o, e, d⟩ := T.obj _ _ st5 b hb
   exact (I7.pin (b, o) (List.mem_append_right _ (List.mem_append_right _ (N3 hb e)))).2.1
  cases f with
  | next => obtain ⟨σ7, H7, I7, n7⟩ := q7; exact again I7 n7
  | cont => obtain ⟨σ7, H7, I7, n7⟩ := q7; exact again I7 n7
  | brk => obtain ⟨σ7, H7, I7, q7⟩ := q7; exact ⟨σ7, H7, I7.unpinned, q7⟩
  | ret v => obtain ⟨x7, σ7, H7, I7, r7, q7⟩ := q7; exact ⟨x7, σ7, H7, I7.unpinned, r7, q7⟩
end
theorem fQ {lo : Int} {n : Nat} {g : TG} {tb : TS} {D : Ends} {σ : St} {H : Hp} (Pv : Nat → St → Hp → Prop) (h0 : Pv 0 σ H)
  (hs : ∀ i σ H, i < n → Pv i σ H → g (.int (lo + i)) σ H fun σ2 H2 => tb { D with nx := Pv (i + 1), ct := Pv (i + 1), bk := D.nx } σ2 H2) (hd : ∀ σ H, Pv n σ H → D.nx σ H) :
  ∃ W : Nat → Nat → St → Hp → Prop, (∃ m, W 0 m σ H) ∧ ∀ i m σ H, W i m σ H →
   ((A0 lo n).stop i H ∧ D.nx σ H) ∨ ((A0 lo n).go i H ∧ ∃ N : St → Hp → Prop, (∀ σ' H', N σ' H' → ∃ m', m' < m ∧ W (i + 1) m' σ' H') ∧ ∀ x H', (A0 lo n).yld i H x H' → g x σ H' fun σ2 H2 => tb { D with nx := N, ct := N, bk := D.nx } σ2 H2) := by
 refine ⟨fun i m σ H => m = n - i ∧ i ≤ n ∧ Pv i σ H, ⟨n, by simp, Nat.zero_le _, h0⟩, ?_⟩
 rintro i m σ H ⟨rfl, hi, p⟩
 by_cases hlt : i < n
 ·refine .inr ⟨hlt, Pv (i + 1), fun σ' H' p' => ⟨n - (i + 1), by omega, rfl, hlt, p'⟩, fun x H' y => ?_⟩
  obtain ⟨e, y⟩ := y
  subst e y
  exact hs i σ _ hlt p
 ·have e : i = n := by omega
  subst e
  exact .inl ⟨Nat.le_refl _, hd σ H p⟩
noncomputable abbrev R2 := V → V → Hp → VK → Prop
noncomputable def OpR (X : Cx) (f : Value → Value → Sem Value) (r : R2) : Prop :=
 ∀ (pins : List (Addr × Obj)) (s : Shared) (σ : St) (H : Hp) (x y : V) (v u : Value) (Q : VK), Inv X pins σ H s → c5 x v → c5 y u → r x y H Q →
  wpAny (model X.prog X.w) X.A (f v u) (EP X pins σ Q) X.xe s
noncomputable def CallR (X : Cx) (f : Value) (r : List V → Hp → VK → Prop) : Prop :=
 ∀ (pins : List (Addr × Obj)) (s : Shared) (σ : St) (H : Hp) (xs : List V) (us : List Value) (Q : VK), Inv X pins σ H s → Vals xs us → r xs H Q →
  wpAny (model X.prog X.w) X.A (call f us) (EP X pins σ Q) X.xe s
noncomputable def gf (X : Cx) (r : V → Hp → (Bool → Hp → Prop) → Prop) : Prop :=
 ∀ (pins : List (Addr × Obj)) (s : Shared) (σ : St) (H : Hp) (x : V) (v : Value) (Q : Bool → Hp → Prop), Inv X pins σ H s → c5 x v → r x H Q →
  wpAny (model X.prog X.w) X.A (truthy v) (TP X pins σ Q) X.xe s
noncomputable def D6 (r : R2) (ta tb : TE) : TE := fun σ H Q => ta σ H fun x H1 => tb σ H1 fun y H2 => r x y H2 Q
noncomputable def rI (C : Int → Int → Prop) (g : Int → Int → V) : R2 := fun x y H Q => ∃ i j, x = .int i ∧ y = .int j ∧ C i j ∧ Q (g i j) H
noncomputable def t8 (g : Int → Int → V) : R2 := fun x y H Q => ∃ i j, x = .int i ∧ y = .int j ∧ Q (g i j) H
section
variable {X : Cx} {a b c : Expr} {ta tb tc : TE} {pos : Pos}
theorem U4 (ha : PE X a ta) (hb : PE X b tb) {pins : List (Addr × Obj)} {s : Shared} {σ : St} {H : Hp} {R : V → V → Hp → Prop} (I : Inv X pins σ H s)
  (h : ta σ H fun x H1 => tb σ H1 fun y H2 => R x y H2) {Q : Value → Shared → Prop} {f : Value → Value → Sem Value}
  (hf : ∀ v u s2 x y H2, Inv X pins σ H2 s2 → c5 x v → c5 y u → R x y H2 → wpAny (model X.prog X.w) X.A (f v u) Q X.xe s2) :
  wpAny (model X.prog X.w) X.A (eval a X.env) (fun v s₁ => wpAny (model X.prog X.w) X.A (eval b X.env) (fun u s₂ => wpAny (model X.prog X.w) X.A (f v u) Q X.xe s₂) X.xe s₁) X.xe s := by
 refine b0 (ha pins s σ H _ I h) fun v s1 ⟨x, H1, I1, r1, q1⟩ => ?_
 refine b0 (hb pins s1 σ H1 _ I1 q1) fun u s2 ⟨y, H2, I2, r2, q2⟩ => ?_
 exact hf v u s2 x y H2 I2 r1 r2 q2
theorem Z5 {op : Operator} {r : R2} (ho : OpR X (binaryOp op) r) (ha : PE X a ta) (hb : PE X b tb) : PE X (.BinOp a op b pos) (D6 r ta tb) := by
 intro pins s σ H Q I h
 exact wpAny_BinOp (U4 ha hb I h fun v u s2 x y H2 I2 rx ry q => ho pins s2 σ H2 x y v u Q I2 rx ry q)
theorem M3 {f : Value → Value → Sem Value} {C : Int → Int → Prop} {g : Int → Int → Int}
  (rule : ∀ (i j : Int) (t u : Tok) (s : Shared) (Q : Value → Shared → Prop) (E : Value → Shared → Prop), C i j → Q (.int (g i j) s.toks) { s with toks := s.toks + 1 } → wpAny (model X.prog X.w) X.A (f (.int i t) (.int j u)) Q E s) :
  OpR X f (rI C fun i j => .int (g i j)) := by
 intro pins s σ H x y v u Q I rx ry h
 obtain ⟨i, j, rfl, rfl, hc, q⟩ := h
 obtain ⟨t, rfl⟩ := rx
 obtain ⟨t', rfl⟩ := ry
 exact rule i j t t' s _ _ hc ⟨.int (g i j), H, I.tok _, ⟨_, rfl⟩, q⟩
theorem dw {f : Value → Value → Sem Value} {g : Int → Int → Int}
  (rule : ∀ (i j : Int) (t u : Tok) (s : Shared) (Q : Value → Shared → Prop) (E : Value → Shared → Prop), Q (.int (g i j) s.toks) { s with toks := s.toks + 1 } → wpAny (model X.prog X.w) X.A (f (.int i t) (.int j u)) Q E s) :
  OpR X f (t8 fun i j => .int (g i j)) := by
 intro pins s σ H x y v u Q I rx ry h
 obtain ⟨i, j, rfl, rfl, q⟩ := h
 obtain ⟨t, rfl⟩ := rx
 obtain ⟨t', rfl⟩ := ry
 exact rule i j t t' s _ _ ⟨.int (g i j), H, I.tok _, ⟨_, rfl⟩, q⟩
theorem P9 {f : Value → Value → Sem Value} {g : Int → Int → Bool}
  (rule : ∀ (i j : Int) (t u : Tok) (s : Shared) (Q : Value → Shared → Prop) (E : Value → Shared → Prop), Q (.bool (g i j)) s → wpAny (model X.prog X.w) X.A (f (.int i t) (.int j u)) Q E s) :
  OpR X f (t8 fun i j => .bl (g i j)) := by
 intro pins s σ H x y v u Q I rx ry h
 obtain ⟨i, j, rfl, rfl, q⟩ := h
 obtain ⟨t, rfl⟩ := rx
 obtain ⟨t', rfl⟩ := ry
 exact rule i j t t' s _ _ ⟨.bl (g i j), H, I, rfl, q⟩
noncomputable def V9 (i j : Int) : Prop := 0 ≤ j ∧ j ≤ 1000000 ∧ i.natAbs < 2 ^ 64
theorem op_add : OpR X (binaryOp .Add) (t8 fun i j => .int (i + j)) := dw fun _ _ _ _ _ _ _ q => add_int q
theorem jv : OpR X (binaryOp .Mod) (rI (fun _ j => j ≠ 0) fun i j => .int (i.fmod j)) := M3 fun _ _ _ _ _ _ _ hc q => mod_int' hc q
theorem eZ : OpR X (binaryOp .Pow) (rI V9 fun i j => .int (i ^ j.toNat)) := M3 fun _ _ _ _ _ _ _ hc q => pow_int_small hc.1 hc.2.1 hc.2.2 q
end
noncomputable def af : V → V → Bool
 | .non, .non => true | .non, .int _ => true | .int _, .non => true | .non, .bl _ => true | .bl _, .non => true | .non, .str _ => true | .str _, .non => true
 | .int _, .int _ => true | .bl _, .bl _ => true | .str _, .str _ => true | .byt _, .byt _ => true
 | .int _, .str _ => true | .str _, .int _ => true | .bl _, .str _ => true | .str _, .bl _ => true
 | _, _ => false
noncomputable def R6 : R2 := fun x y H Q => af x y = true ∧ Q (.bl (decide (x = y))) H
noncomputable def P6 : R2 := fun x y H Q => af x y = true ∧ Q (.bl (!decide (x = y))) H
theorem bA {i j : Int} : decide (V.int i = V.int j) = (i == j) := by
 rw [Bool.eq_iff_iff]
 simp
theorem Z6 {i j : Bool} : decide (V.bl i = V.bl j) = (i == j) := by
 rw [Bool.eq_iff_iff]
 simp
theorem ay {i j : Str} : decide (V.str i = V.str j) = (i == j) := by
 rw [Bool.eq_iff_iff]
 simp
theorem aO {i j : Array UInt8} : decide (V.byt i = V.byt j) = (i.toList == j.toList) := by
 rw [Bool.eq_iff_iff]
 cases i
 cases j
 simp
section
variable {X : Cx} {a b c : Expr} {ta tb tc : TE} {pos : Pos}
theorem d5 {pins : List (Addr × Obj)} {σ : St} {H : Hp} {s : Shared} {Q : VK} {k k' : Bool} (I : Inv X pins σ H s) (q : Q (.bl k) H) (e : k = k') : EP X pins σ Q (.bool k') s := by
 subst e
 exact ⟨.bl k, H, I, rfl, q⟩
theorem op_eq : OpR X (compareOp .Eq) R6 := by
 intro pins s σ H x y v u Q I rx ry h
 obtain ⟨hs, q⟩ := h
 cases x with
 | non =>
  cases rx
  cases y with
  | non => cases ry; exact PySem.EqNone.eq_none_none (d5 I q (by simp))
  | bl j => cases ry; exact PySem.EqNone.eq_none_bool (d5 I q (by simp))
  | int j => obtain ⟨t', rfl⟩ := ry; exact PySem.EqNone.eq_none_int (d5 I q (by simp))
  | str j => obtain ⟨t', rfl⟩ := ry; exact PySem.EqNone.eq_none_str (d5 I q (by simp))
  | _ => exact absurd (show false = true from hs) Bool.false_ne_true
 | bl i =>
  cases rx
  cases y with
  | non => cases ry; exact PySem.EqNone.eq_bool_none (d5 I q (by simp))
  | bl j => cases ry; exact eq_bool (d5 I q Z6)
  | str j => obtain ⟨t', rfl⟩ := ry; exact PySem.EqMixed.eq_bool_str (d5 I q (by simp))
  | _ => exact absurd (show false = true from hs) Bool.false_ne_true
 | int i =>
  obtain ⟨t, rfl⟩ := rx
  cases y with
  | non => cases ry; exact PySem.EqNone.eq_int_none (d5 I q (by simp))
  | int j => obtain ⟨t', rfl⟩ := ry; exact eq_int (d5 I q bA)
  | str j => obtain ⟨t', rfl⟩ := ry; exact PySem.EqMixed.eq_int_str (d5 I q (by simp))
  | _ => exact absurd (show false = true from hs) Bool.false_ne_true
 | str i =>
  obtain ⟨t, rfl⟩ := rx
  cases y with
  | non => cases ry; exact PySem.EqNone.eq_str_none (d5 I q (by simp))
  | bl j => cases ry; exact PySem.EqMixed.eq_str_bool (d5 I q (by simp))
  | int j => obtain ⟨t', rfl⟩ := ry; exact PySem.EqMixed.eq_str_int (d5 I q (by simp))
  | str j => obtain ⟨t', rfl⟩ := ry; exact eq_str (d5 I q ay)
  | _ => exact absurd (show false = true from hs) Bool.false_ne_true
 | byt i =>
  obtain ⟨t, rfl⟩ := rx
  cases y with
  | byt j => obtain ⟨t', rfl⟩ := ry; exact PySem.W.eq_bytes (d5 I q aO)
  | _ => exact absurd (show false = true from hs) Bool.false_ne_true
 | _ => cases y <;> exact absurd (show false = true from hs) Bool.false_ne_true
theorem op_ne : OpR X (compareOp .NotEq) P6 := by
 intro pins s σ H x y v u Q I rx ry h
 obtain ⟨hs, q⟩ := h
 cases x with
 | non =>
  cases rx
  cases y with
  | non => cases ry; exact PySem.EqNone.ne_none_none (d5 I q (by simp))
  | bl j => cases ry; exact PySem.EqNone.ne_none_bool (d5 I q (by simp))
  | int j => obtain ⟨t', rfl⟩ := ry; exact PySem.EqNone.ne_none_int (d5 I q (by simp))
  | str j => obtain ⟨t', rfl⟩ := ry; exact PySem.EqNone.ne_none_str (d5 I q (by simp))
  | _ => exact absurd (show false = true from hs) Bool.false_ne_true
 | bl i =>
  cases rx
  cases y with
  | non => cases ry; exact PySem.EqNone.ne_bool_none (d5 I q (by simp))
  | bl j => cases ry; exact ne_bool (d5 I q (congrArg not Z6))
  | str j => obtain ⟨t', rfl⟩ := ry; exact PySem.EqMixed.ne_bool_str (d5 I q (by simp))
  | _ => exact absurd (show false = true from hs) Bool.false_ne_true
 | int i =>
  obtain ⟨t, rfl⟩ := rx
  cases y with
  | non => cases ry; exact PySem.EqNone.ne_int_none (d5 I q (by simp))
  | int j => obtain ⟨t', rfl⟩ := ry; exact ne_int (d5 I q (congrArg not bA))
  | str j => obtain ⟨t', rfl⟩ := ry; exact PySem.EqMixed.ne_int_str (d5 I q (by simp))
  | _ => exact absurd (show false = true from hs) Bool.false_ne_true
 | str i =>
  obtain ⟨t, rfl⟩ := rx
  cases y with
  | non => cases ry; exact PySem.EqNone.ne_str_none (d5 I q (by simp))
  | bl j => cases ry; exact PySem.EqMixed.ne_str_bool (d5 I q (by simp))
  | int j => obtain ⟨t', rfl⟩ := ry; exact PySem.EqMixed.ne_str_int (d5 I q (by simp))
  | str j => obtain ⟨t', rfl⟩ := ry; exact ne_str (d5 I q (congrArg not ay))
  | _ => exact absurd (show false = true from hs) Bool.false_ne_true
 | byt i =>
  obtain ⟨t, rfl⟩ := rx
  cases y with
  | byt j => obtain ⟨t', rfl⟩ := ry; exact PySem.W.ne_bytes (d5 I q (congrArg not aO))
  | _ => exact absurd (show false = true from hs) Bool.false_ne_true
 | _ => cases y <;> exact absurd (show false = true from hs) Bool.false_ne_true
theorem cO : OpR X (compareOp .LtE) (t8 fun i j => .bl (decide (i ≤ j))) := P9 fun _ _ _ _ _ _ _ q => le_int q
theorem dG : OpR X (compareOp .Gt) (t8 fun i j => .bl (decide (j < i))) := P9 fun _ _ _ _ _ _ _ q => gt_int q
theorem fM : OpR X (compareOp .GtE) (t8 fun i j => .bl (decide (j ≤ i))) := P9 fun _ _ _ _ _ _ _ q => ge_int q
theorem OpR.or {f : Value → Value → Sem Value} {r r' : R2} (h : OpR X f r) (h' : OpR X f r') : OpR X f (fun x y H Q => r x y H Q ∨ r' x y H Q) := by
 intro pins s σ H x y v u Q I rx ry q
 rcases q with q | q
 ·exact h pins s σ H x y v u Q I rx ry q
 ·exact h' pins s σ H x y v u Q I rx ry q
theorem N7 (b : Expr) {op : CmpOp} (h : op ≠ .In := by decide) (h2 : op ≠ .NotIn := by decide) : behindInMarks op b = false := by
 have e1 : (op == CmpOp.In) = false := by cases op <;> first | rfl | exact absurd rfl h
 have e2 : (op == CmpOp.NotIn) = false := by cases op <;> first | rfl | exact absurd rfl h2
 cases b <;> simp [behindInMarks, e1, e2]
theorem cF {op : CmpOp} {r : R2} (ho : OpR X (compareOp op) r) (ha : PE X a ta) (hb : PE X b tb) (hm : behindInMarks op b = false) : PE X (.Compare a [op] [b] pos) (D6 r ta tb) := by
 intro pins s σ H Q I h
 exact wpAny_Compare1 (U4 ha hb I h fun v u s2 x y H2 I2 rx ry q => ho pins s2 σ H2 x y v u Q I2 rx ry q) hm
noncomputable def da (t : TE) : TT := fun σ H Q => t σ H fun x H' => ∃ k, x = .bl k ∧ Q k H'
theorem fT {op : CmpOp} {r : R2} (ho : OpR X (compareOp op) r) (ha : PE X a ta) (hb : PE X b tb) (hm : behindInMarks op b = false) : PT X (.Compare a [op] [b] pos) (da (D6 r ta tb)) := by
 intro pins s σ H Q I h
 refine wpAny_isTrue_Compare1 (b0 (ha pins s σ H _ I h) fun v s1 ⟨x, H1, I1, r1, q1⟩ => b0 (hb pins s1 σ H1 _ I1 q1) fun u s2 ⟨y, H2, I2, r2, q2⟩ =>
  b0 (ho pins s2 σ H2 x y v u _ I2 r1 r2 q2) fun c s3 ⟨z, H3, I3, r3, k, e, q3⟩ => ?_) hm
 subst e
 cases r3
 exact wpAny_truthy_bool ⟨H3, I3, q3⟩
noncomputable def Z4 (K : PySem.W.Frag) (x : V) (H : Hp) (k : Bool) : Prop :=
 match x with
 | .non => k = false
 | .bl b => k = b
 | .int i => k = (i != 0)
 | .str y => y.length ≤ sizeLine ∧ k = ((y.length : Int) != 0)
 | .byt y => y.size ≤ sizeLine ∧ k = ((y.size : Int) != 0)
 | .ref p => (∃ xs, SqL K H p xs ∧ k = !xs.isEmpty) ∨ (∃ xs, SqT K H p xs ∧ k = !xs.isEmpty) ∨ ∃ kvs, H p = some (.dK kvs) ∧ k = !kvs.isEmpty
 | _ => False
theorem iw {κ : Type} {kvs : List (κ × V)} {vs : List (κ × Value)} (r : KV kvs vs) : (!vs.isEmpty) = !kvs.isEmpty := by
 cases r <;> rfl
theorem bh {xs : List V} {its : List Value} (r : Vals xs its) : (!its.toArray.isEmpty) = !xs.isEmpty := by
 cases r <;> simp
theorem F1 : (sizeLine : Nat) < 2 ^ 63 := by rw [sizeLine_eq]; decide
theorem gF : gf X (fun x H Q => ∃ k, Z4 X.K x H k ∧ Q k H) := by
 intro pins s σ H x v Q I rx h
 obtain ⟨k, e, q⟩ := h
 have hl := F1
 have hs : sizeLine = 16777216 := sizeLine_eq
 cases x with
 | non =>
  cases rx
  have e' : k = false := e
  subst e'
  exact truthy_none ⟨H, I, q⟩
 | bl b =>
  cases rx
  have e' : k = b := e
  subst e'
  exact wpAny_truthy_bool ⟨H, I, q⟩
 | int i =>
  obtain ⟨t, rfl⟩ := rx
  have e' : k = (i != 0) := e
  subst e'
  exact PySem.P.truthy_int ⟨H, I, q⟩
 | str y =>
  obtain ⟨t, rfl⟩ := rx
  obtain ⟨hy, e'⟩ : y.length ≤ sizeLine ∧ k = ((y.length : Int) != 0) := e
  subst e'
  exact PySem.P.truthy_str (by omega) ⟨H, I.tok _, q⟩
 | byt y =>
  obtain ⟨t, rfl⟩ := rx
  obtain ⟨hy, e'⟩ : y.size ≤ sizeLine ∧ k = ((y.size : Int) != 0) := e
  subst e'
  exact PySem.W.truthy_bytes (by omega) ⟨H, I.tok _, q⟩
 | ref p =>
  cases rx
  have e' : (∃ xs, SqL X.K H p xs ∧ k = !xs.isEmpty) ∨ (∃ xs, SqT X.K H p xs ∧ k = !xs.isEmpty) ∨ ∃ kvs, H p = some (.dK kvs) ∧ k = !kvs.isEmpty := e
  rcases e' with ⟨xs, hx, e'⟩ | ⟨xs, hx, e'⟩ | ⟨kvs, hx, e'⟩
  ·subst e'
   obtain ⟨its, r, pl, hz⟩ := I.list hx
   have hlen := r.length
   exact wpAny_truthy_list pl.isList (by simp only [List.size_toArray]; omega) ⟨H, I.tok _, by rw [bh r]; exact q⟩
  ·subst e'
   obtain ⟨its, r, pl, hz⟩ := I.tuple hx
   have hlen := r.length
   exact truthy_tuple pl (by simp only [List.size_toArray]; omega) ⟨H, I.tok _, by rw [bh r]; exact q⟩
  ·subst e'
   obtain ⟨hz, hS, vs, r, m⟩ : kvs.length ≤ sizeLine ∧ (p == sysModules) = false ∧ ∃ vs, KV kvs vs ∧ s.heap.DictOf (j7 X.prog X.w) p vs := I.hok p _ hx
   have hlen : kvs.length = vs.length := Paired.length r
   exact wpAny_truthy_dict hS m (by omega) ⟨H, I.tok _, by rw [iw r]; exact q⟩
 | _ => exact (show False from e).elim
theorem gm (ha : PE X a ta) (he : ∀ whole, isTrue a X.env whole = (do let v ← whole; standAt a.pos; holding [v] (truthy v))) :
  PT X a (fun σ H Q => ta σ H fun x H' => ∃ k, Z4 X.K x H' k ∧ Q k H') := by
 intro pins s σ H Q I h
 exact isTrue_plain (b0 (ha pins s σ H _ I h) fun v s1 ⟨x, H1, I1, r1, q1⟩ => gF pins s1 σ H1 x v Q I1 r1 q1) (he _)
theorem gK : OpR X (binaryOp .Add) (fun x y H Q => ∃ i j, x = .str i ∧ y = .str j ∧ i.length + j.length ≤ sizeLine ∧ Q (.str (i ++ j)) H) := by
 intro pins s σ H x y v u Q I rx ry h
 obtain ⟨i, j, rfl, rfl, hz, q⟩ := h
 obtain ⟨t, rfl⟩ := rx
 obtain ⟨t', rfl⟩ := ry
 exact add_str (fun t' tk => ⟨.str (i ++ j), H, I.tok _, ⟨_, rfl⟩, q⟩) hz
theorem S0 {x : V} {us : List Value} (r : Vals [x] us) : ∃ u, us = [u] ∧ c5 x u := by
 cases r with
 | cons r1 r2 => cases r2; exact ⟨_, rfl, r1⟩
theorem gy {x y : V} {us : List Value} (r : Vals [x, y] us) : ∃ u w', us = [u, w'] ∧ c5 x u ∧ c5 y w' := by
 cases r with
 | cons r1 r2 =>
  cases r2 with
  | cons r3 r4 => cases r4; exact ⟨_, _, rfl, r1, r3⟩
end
theorem RelO.some_of {v : V} {o : Option Value} (r : RelO (some v) o) : ∃ u, o = some u ∧ c5 v u := by
 cases o with
 | none => exact (show False from r).elim
 | some u => exact ⟨u, rfl, r⟩
section
variable {X : Cx} {pins : List (Addr × Obj)} {σ : St} {H : Hp} {s : Shared} {a C dx : Addr} {fs : List (Str × V)} {f : Str} {v : V} {A : Around} {E : Value → Shared → Prop}
theorem jn {prog : Program} {w : World} {env : Env} {e : Expr} {f : Str} {pos : Pos} {s : Shared} {Q : Value → Shared → Prop} (hb : attributeBase e f env (eval e env) = eval e env)
  (h : wpAny (model prog w) A (eval e env) (fun o s₁ => wpAny (model prog w) A (getAttr o f true) Q E s₁) E s) : wpAny (model prog w) A (eval (.Attribute e f pos) env) Q E s :=
 Attribute_any_ h (by rw [arm_eval_Attribute, hb])
end
structure Room (k : Nat) (A : Around) : Prop where
 hd : A.handled = none
 dp : A.depth + 3 * k + 5 < recursionLimit
 un : A.units + 16 * k + 200 < cLine
 gd : A.guards = some []
theorem Room.mono {j k : Nat} {A : Around} (r : Room k A) (h : j ≤ k) : Room j A := ⟨r.hd, by have := r.dp; omega, by have := r.un; omega, r.gd⟩
theorem Room.deeper {k : Nat} {A : Around} (r : Room (k + 1) A) (env : Env) : Room k (A.deeper env) :=
 ⟨r.hd, by have := r.dp; show A.depth + 1 + 3 * k + 5 < _; omega, by have := r.un; show A.units + 3 + 16 * k + 200 < _; omega, r.gd⟩
theorem ib {A : Around} {C : Addr} {us : List Value} {kw : List (Str × Value)} : (A.under (.builtin "type.__call__" ⟨.ref C :: us, kw⟩)).depth = A.depth + 1 := by
 first | rfl | simp [Around.under, Code.weight, Code.isCreation, Code.isGuard, Code.isCaller, Code.frames, Code.isFrame, guardIds]
theorem ft {A : Around} {C : Addr} {us : List Value} {kw : List (Str × Value)} : (A.under (.builtin "type.__call__" ⟨.ref C :: us, kw⟩)).units = A.units + 1 := by
 first | rfl | simp [Around.under, Code.cUnits, Code.frames, Code.isFrame]
theorem Room.make {k : Nat} {A : Around} (r : Room (k + 1) A) (C : Addr) (us : List Value) (kw : List (Str × Value)) : Room k (A.under (.builtin "type.__call__" ⟨.ref C :: us, kw⟩)) :=
 ⟨r.hd, by have := r.dp; rw [ib]; omega, by have := r.un; rw [ft]; omega, by have := r.gd; simp [Around.under, Code.guards, Code.isGuard, guardIds, pushGuards, this]⟩
theorem Room.depth {k : Nat} {A : Around} (r : Room k A) : A.depth < recursionLimit := by have := r.dp; omega
theorem Room.units {k : Nat} {A : Around} (r : Room k A) : A.units + 64 < cLine := by have := r.un; omega
noncomputable def aS : TA := fun _ H Q => Q [] H
noncomputable def S6 (ta : TE) (tr : TA) : TA := fun σ H Q => ta σ H fun x H1 => tr σ H1 fun xs H2 => Q (x :: xs) H2
section
variable {X : Cx} {e : Expr} {es : List Expr} {te : TE} {t : TA} {pos : Pos}
theorem F9 : PA X [] aS := fun _ _ _ _ H Q I h => Calls.spliced_nil ⟨[], H, I, .nil, h⟩
theorem A2 (ha : PE X e te) (hr : PA X es t) (hs : starEach (e :: es) X.env = (false, eval e X.env) :: starEach es X.env := by rfl) : PA X (e :: es) (S6 te t) := by
 intro pos pins s σ H Q I h
 rw [hs]
 show wpAny _ _ (spliced ((false, eval e X.env) :: backTo pos (starEach es X.env))) _ _ s
 refine Calls.spliced_cons (b0 (ha pins s σ H _ I h) fun u s1 ⟨x, H1, I1, r1, q1⟩ => ?_)
 exact b0 (hr pos pins s1 σ H1 _ I1 q1) fun us s2 ⟨xs, H2, I2, r2, q2⟩ => ⟨x :: xs, H2, I2, .cons r1 r2, q2⟩
noncomputable def dh (t : TA) : TE := fun σ H Q => t σ H fun xs H1 => xs.length ≤ sizeLine ∧ ∀ p, H1 p = none → Q (.ref p) (a7 H1 p (.tup xs))
noncomputable def dY (t : TA) : TE := fun σ H Q => t σ H fun xs H1 => xs.length ≤ sizeLine ∧ ∀ p, H1 p = none → Q (.ref p) (a7 H1 p (.lst xs))
theorem bP {x1} (h : PA X es t) : PE X (.Tuple es x1 pos) (dh t) := by
 intro pins s σ H Q I hq
 refine wpAny_Tuple_spliced (b0 (h pos pins s σ H _ I hq) fun us s1 ⟨xs, H1, I1, r, z, q⟩ => ⟨by rw [← r.length]; exact z, ?_⟩)
 have hf : H1 s1.heap.objs.size = none := I1.hok.fresh (Nat.le_refl _)
 refine ⟨.ref s1.heap.objs.size, a7 H1 s1.heap.objs.size (.tup xs), I1.laid (t' := s1.toks) (fun b u e => Heap.get?_push_of_some _ e) (Nat.le_refl _) ?_, rfl, q _ hf⟩
 exact ⟨z, us, r, ⟨_, Heap.get?_push_size _ rfl, rfl, _, rfl⟩⟩
theorem cE (h : PA X es t) : PE X (.List es pos) (dY t) := by
 intro pins s σ H Q I hq
 refine wpAny_List_spliced (b0 (h pos pins s σ H _ I hq) fun us s1 ⟨xs, H1, I1, r, z, q⟩ => ⟨by rw [← r.length]; exact z, ?_⟩)
 have hf : H1 s1.heap.objs.size = none := I1.hok.fresh (Nat.le_refl _)
 refine ⟨.ref s1.heap.objs.size, a7 H1 s1.heap.objs.size (.lst xs), I1.laid (t' := s1.toks) (fun b u e => Heap.get?_push_of_some _ e) (Nat.le_refl _) ?_, rfl, q _ hf⟩
 exact ⟨z, us, 0, r, Heap.get?_push_size _ rfl⟩
end
noncomputable abbrev Sp := List V → Hp → VK → XK → Prop
noncomputable abbrev n6 := List Env → Hp → Shared → XK → Value → Shared → Prop
structure Env0 (P : Program) (w : World) (K : PySem.W.Frag) (mg : Str → Option Value) (base : Heap) (A : Around) (outer : List Env) (s : Shared) (H : Hp) : Prop where
 frames : A.frames = some outer
 mod : Mod K mg base
 bs : ∀ b o, base.get? b = some o → s.heap.get? b = some o ∧ H b = none
 bsz : base.objs.size ≤ s.heap.objs.size
 funs : s.heap.FunFrames base outer
 frf : ∀ b ∈ o7 outer, H b = none
 hok : HOk P w H s.heap
 bare : AllBare s.gens
noncomputable def CE (outer : List Env) (P : Program) (w : World) (H : Hp) (s : Shared) (Q : VK) (u : Value) (s' : Shared) : Prop :=
 ∃ v H', s'.os = s.os ∧ AllBare s'.gens ∧ Un (o7 outer) [] H H' s.heap s'.heap ∧ HOk P w H' s'.heap ∧ c5 v u ∧ Q v H'
noncomputable def CR (CX : n6) (outer : List Env) (P : Program) (w : World) (H : Hp) (s : Shared) (Q : VK) (E : XK) (r : Result) (s' : Shared) : Prop :=
 match r with
 | .ok (.ret u) => CE outer P w H s Q u s'
 | .ok _ => False
 | .error e => CX outer H s E e s'
structure FnOk (P : Program) (w : World) (K : PySem.W.Frag) (mg : Str → Option Value) (base : Heap) (CX : n6) (k : Nat) (f : Addr) (fd : FuncData) (ps : List Str) (sp : Sp) : Prop where
 len : ∀ vs H Q E, sp vs H Q E → vs.length = ps.length
 run : ∀ (A : Around) (outer : List Env) (s : Shared) (H : Hp) (args : Args) (us : List Value) (vs : List V) (Q : VK) (E : XK), Room k A → Env0 P w K mg base A outer s H → BindsTo s fd args (ps.zip us) → Vals vs us → sp vs H Q E →
  codeAny (model P w) A (.call (.ref f) args) (CR CX outer P w H s Q E) s
section
variable {X : Cx} {pins : List (Addr × Obj)} {σ : St} {H : Hp} {s s' : Shared}
theorem Inv.env0 (I : Inv X pins σ H s) : Env0 X.prog X.w X.K X.mg X.base X.A X.stack s H :=
 ⟨I.ok.frames, I.ok.mod, I.bs, Nat.le_trans I.ok.bsz I.sz, I.stack, I.stkFree, I.hok, I.bare⟩
theorem Inv.after {Q : VK} {u : Value} (I : Inv X pins σ H s) (h : CE X.stack X.prog X.w H s Q u s') : EP X pins σ Q u s' := by
 obtain ⟨v, H', os, bare, un, hok, r, q⟩ := h
 obtain ⟨hh, g, d, t, os'⟩ := s'
 obtain rfl : os' = s.os := os
 exact ⟨v, H', I.call (h' := hh) (g' := g) (d' := d) (t' := t) (ch := []) un hok bare (fun b z => absurd z (by simp)), r, q⟩
end
noncomputable def aQ (sp : Sp) (dvs : List V) (E : XK) (t : TA) : TE := fun σ H Q => t σ H fun vs H1 => sp (vs ++ dvs) H1 Q E
noncomputable def Binds (K : PySem.W.Frag) (fd : FuncData) (ps : List Str) (ds : List Value) : Prop :=
 ∀ (s : Shared) (us : List Value), K.In s.heap → (us ++ ds).length = ps.length → BindsTo s fd ⟨us, []⟩ (ps.zip (us ++ ds))
theorem Binds.all {K : PySem.W.Frag} {fd : FuncData} {ps : List Str} (h : ∀ us : List Value, us.length = ps.length → bindArgs fd ⟨us, []⟩ = pure (ps.zip us)) : Binds K fd ps [] := fun s us _ hl => by
 rw [List.append_nil] at hl ⊢
 exact .of_eq (h us hl)
noncomputable def Q8 (CX : n6) (X : Cx) (E : XK) : Prop := ∀ (pins : List (Addr × Obj)) (σ : St) (H : Hp) (s : Shared) (e : Value) (s' : Shared), Inv X pins σ H s → CX X.stack H s E e s' → X.xe e s'
section
variable {X : Cx} {CX : n6} {k : Nat} {f C : Addr} {fd : FuncData} {ps : List Str} {sp : Sp} {dvs : List V} {ds : List Value} {E : XK} {x m : Str} {p pos apos : Pos} {e o : Expr} {es : List Expr} {ta : TE} {t : TA}
theorem bR {pins : List (Addr × Obj)} {σ : St} {H : Hp} {s : Shared} {Q : VK} {us : List Value} {vs : List V} (F : FnOk X.prog X.w X.K X.mg X.base CX k f fd ps sp) (hr : Room k X.A) (hb : Binds X.K fd ps ds) (hd : Vals dvs ds) (hx : Q8 CX X E)
  (I : Inv X pins σ H s) (r : Vals vs us) (h : sp (vs ++ dvs) H Q E) : wpAny (model X.prog X.w) X.A (call (.ref f) us) (EP X pins σ Q) X.xe s := by
 have r2 : Vals (vs ++ dvs) (us ++ ds) := r.append hd
 have hl : (us ++ ds).length = ps.length := by rw [← r2.length]; exact F.len _ _ _ _ h
 refine wpAny_call (codeAny_mono (F.run X.A X.stack s H ⟨us, []⟩ (us ++ ds) (vs ++ dvs) Q E hr I.env0 (hb s us I.kIn hl) r2 h) fun r s' hq => ?_)
 cases r with
 | error e => exact hx pins σ H s e s' I hq
 | ok fl =>
  cases fl with
  | ret u => exact I.after hq
  | next => exact False.elim hq
  | brk => exact False.elim hq
  | cont => exact False.elim hq
theorem jl (F : FnOk X.prog X.w X.K X.mg X.base CX k f fd ps sp) (hr : Room k X.A) (hg : Gl X x) (hm : X.mg x = some (.ref f)) (hk : PySem.W.keepIn X.K (.ref f) = true) (hb : Binds X.K fd ps ds) (hd : Vals dvs ds) (hx : Q8 CX X E)
  (ha : PA X (e :: es) t) (hdb : (x == ("__debug__" : Str)) = false := by decide) (he : starEach (e :: es) X.env = (false, eval e X.env) :: starEach es X.env := by rfl) (hpl : (backTo pos (starEach es X.env)).any (·.1) = false := by rfl) :
  PE X (.Call (.Name x p) (e :: es) [] pos) (aQ sp dvs E t) := by
 intro pins s σ H Q I h
 refine wpAny_Call_Name_kw (E6 I hg hm ?_ hdb)
 refine PySem.W.callWith_K (h₀ := X.base) I.ok.mod.kin hk (b0 (ha pos pins s σ H _ I h) fun us s1 ⟨vs, H1, I1, r, q⟩ => ⟨I1.kIn, ?_⟩) he hpl
 exact bR F hr hb hd hx I1 r q
end
structure FnScope (N P : List Str) (sc : Scope) : Prop where
 kind : sc.kind = .function
 co : sc.isCoroutine = false
 gen : sc.isGenerator = false
 nd : N.Nodup
 pre : N.take P.length = P
 par : ∀ x ∈ P, sc.names.lookup x = some .local ∨ sc.names.lookup x = some .cell
 nofree : ∀ y ∈ sc.names, y.2 ≠ .free
theorem bx {kindOf : Str → Option NameKind} {x : Str} : ∀ {binds : List (Str × Value)} {m : Str → Option Value}, (∀ v, (x, v) ∉ binds) → bindL kindOf binds m x = m x
 | [], _, _ => rfl
 | (n, v) :: r, m, h => by
  unfold bindL
  rw [bx fun w hw => h w (List.mem_cons_of_mem _ hw)]
  split
  ·have : x ≠ n := by rintro rfl; exact h v List.mem_cons_self
   simp [this]
  ·rfl
theorem bg {kindOf : Str → Option NameKind} {x : Str} : ∀ {binds : List (Str × Value)} {m : Str → Option Value}, (∀ v, (x, v) ∉ binds) → bindC kindOf binds m x = m x
 | [], _, _ => rfl
 | (n, v) :: r, m, h => by
  unfold bindC
  rw [bg fun w hw => h w (List.mem_cons_of_mem _ hw)]
  split
  ·rfl
  ·have : x ≠ n := by rintro rfl; exact h v List.mem_cons_self
   simp [this]
theorem B1 {kindOf : Str → Option NameKind} {x : Str} {v : Value} : ∀ {P : List Str} {vs : List Value} {i : Nat} {m : Str → Option Value}, P.Nodup → P[i]? = some x → vs[i]? = some v → kindOf x = some .local →
  bindL kindOf (P.zip vs) m x = some v
 | [], _, _, _, _, h, _, _ => by simp at h
 | _ :: _, [], _, _, _, _, h, _ => by simp at h
 | p :: P, w :: vs, 0, m, nd, h1, h2, hk => by
  simp at h1 h2; subst h1; subst h2
  show bindL kindOf ((p, w) :: P.zip vs) m p = _
  unfold bindL
  rw [bx fun v hv => (List.nodup_cons.mp nd).1 (List.of_mem_zip hv).1, if_pos hk]
  simp
 | p :: P, w :: vs, i + 1, m, nd, h1, h2, hk => by
  show bindL kindOf ((p, w) :: P.zip vs) m x = _
  unfold bindL
  exact B1 (i := i) (List.nodup_cons.mp nd).2 (by simpa using h1) (by simpa using h2) hk
theorem V7 {kindOf : Str → Option NameKind} {x : Str} {v : Value} : ∀ {P : List Str} {vs : List Value} {i : Nat} {m : Str → Option Value}, P.Nodup → P[i]? = some x → vs[i]? = some v → kindOf x ≠ some .local →
  bindC kindOf (P.zip vs) m x = some v
 | [], _, _, _, _, h, _, _ => by simp at h
 | _ :: _, [], _, _, _, _, h, _ => by simp at h
 | p :: P, w :: vs, 0, m, nd, h1, h2, hk => by
  simp at h1 h2; subst h1; subst h2
  show bindC kindOf ((p, w) :: P.zip vs) m p = _
  unfold bindC
  rw [bg fun v hv => (List.nodup_cons.mp nd).1 (List.of_mem_zip hv).1, if_neg hk]
  simp
 | p :: P, w :: vs, i + 1, m, nd, h1, h2, hk => by
  show bindC kindOf ((p, w) :: P.zip vs) m x = _
  unfold bindC
  exact V7 (i := i) (List.nodup_cons.mp nd).2 (by simpa using h1) (by simpa using h2) hk
noncomputable def start (N : List Str) (vs : List V) : St := vs.map some ++ List.replicate (N.length - vs.length) none
noncomputable def t7 (CX : n6) (P : Program) (w : World) (K : PySem.W.Frag) (mg : Str → Option Value) (base : Heap) (N : List Str) (qual : Str) (scope : Scope) (f : Addr) (cd : Value) (A : Around) (outer : List Env) (s : Shared) (H : Hp) (E : XK) : Cx where
 prog := P
 w := w
 K := K
 mg := mg
 base := base
 A := A.deeper (envOfC qual scope s.heap.objs.size f cd)
 N := N
 s₀ := s
 H₀ := H
 env := envOfC qual scope s.heap.objs.size f cd
 outer := outer
 stack := envOfC qual scope s.heap.objs.size f cd :: outer
 ex := []
 calm := true
 fn := fun _ => true
 pn := []
 xe := fun e s' => wpAny (model P w) (A.deeper (envOfC qual scope s.heap.objs.size f cd)) (leaving (envOfC qual scope s.heap.objs.size f cd) e) (fun _ s'' => CX outer H s E e s'') (fun e' s'' => CX outer H s E e' s'') s'
theorem X0 {sc : Scope} {n : Nat} {x : Str} (h : sc.names.lookup x = some .cell) : ∃ c, (cellsFrom n sc.names []).lookup x = some c := by
 have q := PySem.W.cellsFrom_some sc.names n [] (.inl h)
 exact Option.isSome_iff_exists.mp q
theorem fw {CX : n6} {P : Program} {w : World} {K : PySem.W.Frag} {mg : Str → Option Value} {base : Heap} {N ps : List Str} {qual : Str} {scope : Scope} {f : Addr} {cd : Value} {A : Around} {outer : List Env} {s s1 : Shared} {H : Hp} {E : XK} {us : List Value} {vs : List V}
  (S : FnScope N ps scope) (hd : A.handled = none) (e0 : Env0 P w K mg base A outer s H) (hl : vs.length = ps.length) (r : Vals vs us)
  (x : InCallC s s.heap.objs.size (bindL (envOfC qual scope s.heap.objs.size f cd).kindOf (ps.zip us) fun _ => none) (cellsFrom (s.heap.objs.size + 1) scope.names []) (bindC (envOfC qual scope s.heap.objs.size f cd).kindOf (ps.zip us) fun _ => none) s1) :
  Inv (t7 CX P w K mg base N qual scope f cd A outer s H E) [] (start N vs) H s1 := by
 have hpl : ps.length ≤ N.length := by have := congrArg List.length S.pre; rw [List.length_take] at this; omega
 obtain ⟨h1, tk, rfl, hk⟩ := x.done
 have noA : ∀ b : Addr, b ∉ (t7 CX P w K mg base N qual scope f cd A outer s H E).ex := fun b z => absurd (show b ∈ ([] : List Addr) from z) (by simp)
 refine ⟨⟨e0.mod, S.kind, rfl, rfl, Nat.le_refl _, fun y z c h1 h2 => ?_, fun y hy => ?_, fun y c _ h => ?_, fun _ => hd, Around.frames_deeper e0.frames, .inr ⟨rfl, rfl⟩, fun b z => absurd z (noA b), e0.bs, e0.bsz, fun b _ _ => noA b, fun b z => absurd z (noA b), e0.funs, e0.frf⟩,
  rfl, e0.bare, Un.kept hk, ⟨_, x.toInCall.ns, fun i y v h1 h2 h3 => ?_⟩, fun y c h => ⟨_, x.cell y c h⟩, e0.hok.fresh (Nat.le_refl _), fun y c h => ?_, fun p hp => absurd (show p ∈ ([] : List (Addr × Obj)) from hp) (by simp), e0.hok.kept hk, ?_⟩
 ·exact name_of_addr x.apart (PySem.mem_of_lookup h1) (PySem.mem_of_lookup h2)
 ·have hy : scope.names.lookup y = some .cell ∨ scope.names.lookup y = some .free := hy
  rcases hy with hy | hy
  ·exact X0 hy
  ·exact absurd rfl (S.nofree _ (PySem.mem_of_lookup hy))
 ·exact Nat.le_of_lt (x.above y c (PySem.mem_of_lookup h))
 ·have hi : i < vs.length := by
   unfold start at h2
   by_cases hi : i < vs.length
   ·exact hi
   ·rw [List.getElem?_append_right (by simpa using hi)] at h2
    rw [List.getElem?_replicate] at h2
    split at h2 <;> cases h2
  have ha : vs[i]? = some v := by
   unfold start at h2
   rw [List.getElem?_append_left (by simpa using hi), List.getElem?_map] at h2
   cases e : vs[i]? with
   | none => rw [e] at h2; cases h2
   | some a => rw [e] at h2; cases h2; rfl
  obtain ⟨u, hu, rv⟩ := r.get ha
  have hp : ps[i]? = some y := by
   rw [← S.pre, List.getElem?_take_of_lt (by omega)]; exact h1
  have ndP : ps.Nodup := by rw [← S.pre]; exact S.nd.sublist (List.take_sublist _ _)
  refine ⟨u, rv, ?_⟩
  rcases S.par y (List.mem_of_getElem? hp) with k | k
  ·exact .inl ⟨k, B1 ndP hp hu k⟩
  ·obtain ⟨c, e⟩ := X0 (n := s.heap.objs.size + 1) k
   refine .inr ⟨.inl k, c, e, ?_⟩
   have q := x.cell y c e
   rw [V7 ndP hp hu (by show scope.names.lookup y ≠ _; rw [k]; decide)] at q
   exact q
 ·exact e0.hok.fresh (Nat.le_of_lt (x.above y c (PySem.mem_of_lookup h)))
 ·unfold start
  show _ = N.length
  rw [List.length_append, List.length_map, List.length_replicate]
  omega
theorem fR {CX : n6} {P : Program} {w : World} {K : PySem.W.Frag} {mg : Str → Option Value} {base : Heap} {k : Nat} {f : Addr} {name qual : Str} {params : Arguments} {body : List Stmt} {scope : Scope} {dV kV doc pm cdv ct oc : Value} {an od : Option Addr}
  {osl : Array (Option Value)} {N ps : List Str} {sp : Sp} (lk : K.lookup f = some ⟨oc, od, .func (PySem.W.fnOf name qual params body scope dV kV doc pm an cdv ct), osl⟩) (hcd : PySem.W.codeIn K cdv qual = true) (S : FnScope N ps scope)
  (len : ∀ vs H Q E, sp vs H Q E → vs.length = ps.length)
  (hbody : ∀ (A : Around) (outer : List Env) (s : Shared) (H : Hp) (vs : List V) (Q : VK) (E : XK), Room k (A.deeper (envOfC qual scope s.heap.objs.size f cdv)) → sp vs H Q E →
   ∃ t, PSs (t7 CX P w K mg base N qual scope f cdv A outer s H E) body t ∧ t { nx := fun _ H' => Q .non H', rt := Q } (start N vs) H) :
  FnOk P w K mg base CX (k + 1) f (PySem.W.fnOf name qual params body scope dV kV doc pm an cdv ct) ps sp := by
 refine ⟨len, fun A outer s H args us vs Q E hr e0 hb r hsp => ?_⟩
 have hl := len _ _ _ _ hsp
 have KX : K.In s.heap := e0.mod.kin.keeps fun b o e => (e0.bs b o e).1
 have lim : s.heap.NoLimit := e0.mod.nolimit.keeps fun b o e => (e0.bs b o e).1
 have hkind : ∀ y ∈ ps.zip us, scope.names.lookup y.1 = some .local ∨ (scope.names.lookup y.1 = some .cell ∧ ((cellsFrom (s.heap.objs.size + 1) scope.names []).lookup y.1).isSome = true) := fun ⟨n, v⟩ hy => by
  rcases S.par n (List.of_mem_zip hy).1 with q | q
  ·exact .inl q
  ·exact .inr ⟨q, PySem.W.cellsFrom_some _ _ _ (.inl q)⟩
 refine codeAny_call_function hr.depth (KX _ _ lk) rfl S.co S.gen rfl (PySem.W.codeRec_of KX hcd) (hb _ _ _ _ ?_)
 refine wpAny_newFunctionEnv_cells S.kind hkind fun env he s1 x => ?_
 subst he
 refine ⟨lim.keeps x.toInCall.keep, codeAny_func ?_⟩
 obtain ⟨t, ht, hq⟩ := hbody A outer s H vs Q E (hr.deeper _) hsp
 have I : Inv (t7 CX P w K mg base N qual scope f cdv A outer s H E) [] (start N vs) H s1 := fw S hr.hd e0 hl r x
 refine wpAny_mono (ht [] s1 (start N vs) H _ I hq) (fun fl s' hs => ?_) fun e s' hs => hs
 have fin : ∀ {σ' : St} {H' : Hp} {v : V} {u : Value}, Inv (t7 CX P w K mg base N qual scope f cdv A outer s H E) [] σ' H' s' → c5 v u → Q v H' → CE outer P w H s Q u s' :=
  fun {σ' H' v u} J rv q => ⟨v, H', J.os, J.bare, J.base, J.hok, rv, q⟩
 cases fl with
 | ret u =>
  obtain ⟨v, σ', H', J, rv, q⟩ := hs
  exact fin J rv q
 | next =>
  obtain ⟨σ', H', J, q⟩ := hs
  exact fin (v := V.non) (u := Value.none) J rfl q
 | brk =>
  obtain ⟨_, _, _, q⟩ := hs
  exact False.elim q
 | cont =>
  obtain ⟨_, _, _, q⟩ := hs
  exact False.elim q
section
variable {X : Cx} {x : Str} {p pos : Pos} {e : Expr} {es : List Expr} {t : TA} {id T : String} {r : List V → Hp → VK → Prop}
noncomputable def U5 (r : List V → Hp → VK → Prop) (t : TA) : TE := fun σ H Q => t σ H fun vs H1 => r vs H1 Q
theorem S8 (hc : CallR X (.builtin id) r) (hg : Gl X x) (hm : X.mg x = none) (hv : bootBuiltins x = some (.builtin id)) (ha : PA X (e :: es) t) (hn : x ≠ "__name__" := by decide) (hdb : (x == ("__debug__" : Str)) = false := by decide)
  (he : starEach (e :: es) X.env = (false, eval e X.env) :: starEach es X.env := by rfl) (hpl : (backTo pos (starEach es X.env)).any (·.1) = false := by rfl) : PE X (.Call (.Name x p) (e :: es) [] pos) (U5 r t) := by
 intro pins s σ H Q I h
 refine wpAny_Call_Name_kw (Q6 I hg hm hv ?_ hn hdb)
 exact PyProof.Rows.callWith_builtin1 (b0 (ha pos pins s σ H _ I h) fun us s1 ⟨vs, H1, I1, r1, q1⟩ => hc pins s1 σ H1 vs us Q I1 r1 q1) he hpl
end
end L2
namespace HT
open PySem PyProof.Rows
section
variable {prog : Program} {w : World} {A : Around} {E : Value → Shared → Prop} {s : Shared}
theorem cat_tup {t b : Addr} {vs ws : List Value} {Q : Value → Shared → Prop} (ht : IsTup s.heap t vs.toArray) (hb : IsTup s.heap b ws.toArray) (hv : vs ≠ [])
  (h1 : ws = [] → Q (.ref t) s) (h2 : ws ≠ [] → Q (.ref s.heap.objs.size) { s with heap := s.heap.push { cls := .type "tuple", data := .seq (vs ++ ws).toArray } })
  (hsz : vs.length + ws.length ≤ sizeLine) : wpAny (model prog w) A (binaryOp .Add (.ref t) (.ref b)) Q E s := by
 obtain ⟨⟨cls, dd, data, sl⟩, ho, hc, n, hd⟩ := id ht
 obtain ⟨⟨cls2, dd2, data2, sl2⟩, ho2, hc2, n2, hd2⟩ := id hb
 simp only at hc hd hc2 hd2
 subst hc hd hc2 hd2
 have e : vs.toArray ++ ws.toArray = (vs ++ ws).toArray := by simp
 by_cases hw : ws = []
 ·exact concat_meets ⟨_, ho, rfl⟩ ⟨_, ho2, rfl⟩ noFill_tuple_add seq_tuple_add PySem.F.slot_tuple_add PySem.F.entry_tuple_add (PySem.F.args_tuple_add_2 _ _)
   (tuple_addW1 t b vs.toArray ws.toArray n n2 dd dd2 sl sl2 (by simpa using hv) (by simp [hw])) ⟨ho, ho2, h1 hw⟩
 ·refine concat_meets ⟨_, ho, rfl⟩ ⟨_, ho2, rfl⟩ noFill_tuple_add seq_tuple_add PySem.F.slot_tuple_add PySem.F.entry_tuple_add (PySem.F.args_tuple_add_2 _ _)
   (tuple_addW2 t b vs.toArray ws.toArray n n2 dd dd2 sl sl2 (by simpa using hv) (by simpa using hw) (by rw [List.size_toArray, List.size_toArray]; exact hsz)) ⟨ho, ho2, ?_⟩
  rw [e]
  exact h2 hw
noncomputable def sIx (n d : Nat) : Option Int → Nat
 | none => d
 | some v => if v < 0 then (v + (n : Int)).toNat else min v.toNat n
theorem sIx_nat (n d k : Nat) : sIx n d (some (k : Int)) = min k n := by
 show (if (k : Int) < 0 then ((k : Int) + (n : Int)).toNat else min (k : Int).toNat n) = min k n
 rw [if_neg (by omega), Int.toNat_natCast]
end
end HT
namespace L2
open PySem PySem.Spec PyProof.Rows
noncomputable abbrev TO := St → Hp → (Option Int → Hp → Prop) → Prop
noncomputable def PO (X : Cx) (e : Option Expr) (t : TO) : Prop :=
 ∀ (pins : List (Addr × Obj)) (s : Shared) (σ : St) (H : Hp) (Q : Option Int → Hp → Prop), Inv X pins σ H s → t σ H Q →
  wpAny (model X.prog X.w) X.A (evalPart e X.env) (fun u s' => ∃ o H', Inv X pins σ H' s' ∧ IsPart u o ∧ Q o H') X.xe s
noncomputable def iQ : TO := fun _ H Q => Q none H
noncomputable def fx (t : TE) : TO := fun σ H Q => t σ H fun x H1 => ∃ i, x = .int i ∧ Q (some i) H1
section
variable {X : Cx} {e : Expr} {te : TE} {lo hi : Option Expr} {tl th : TO} {pos p2 : Pos}
theorem gM : PO X none iQ := by
 intro pins s σ H Q I h
 rw [evalPart_none]
 exact wpAny_pure ⟨none, H, I, .none, h⟩
theorem cp (h : PE X e te) : PO X (some e) (fx te) := by
 intro pins s σ H Q I hw
 rw [evalPart_some]
 refine b0 (h pins s σ H _ I hw) fun u s1 ⟨x, H1, I1, r1, q1⟩ => ?_
 obtain ⟨i, rfl, q⟩ := q1
 obtain ⟨t, rfl⟩ := r1
 exact ⟨some i, H1, I1, .int i t, q⟩
noncomputable def SlR (X : Cx) (r : V → Option Int → Option Int → Hp → VK → Prop) : Prop :=
 ∀ (pins : List (Addr × Obj)) (s : Shared) (σ : St) (H : Hp) (x : V) (v vl vu : Value) (lo hi : Option Int) (sl : Addr) (Q : VK), Inv X pins σ H s → c5 x v → s.heap.IsSliceOf sl vl vu .none → IsPart vl lo → IsPart vu hi → r x lo hi H Q →
  ∃ T id, typeLookup (.type T) "__getitem__" = pure (some (.builtin id)) ∧ s.TypeIs v T ∧ wpAny (model X.prog X.w) X.A (getItem v (.ref sl)) (EP X pins σ Q) X.xe s
noncomputable def bM (r : V → Option Int → Option Int → Hp → VK → Prop) (te : TE) (tl th : TO) : TE := fun σ H Q => te σ H fun x H1 => tl σ H1 fun l H2 => th σ H2 fun u H3 => r x l u H3 Q
theorem hE {r : V → Option Int → Option Int → Hp → VK → Prop} (hr : SlR X r) (he : PE X e te) (hl : PO X lo tl) (hu : PO X hi th) : PE X (.Subscript e (.Slice lo hi none p2) pos) (bM r te tl th) := by
 intro pins s σ H Q I h
 refine Subscript_ (b0 (he pins s σ H _ I h) fun v s1 ⟨x, H1, I1, r1, q1⟩ => ?_)
 refine wpAny_Slice (b0 (hl pins s1 σ H1 _ I1 q1) fun vl s2 ⟨l, H2, I2, pl, q2⟩ => b0 (hu pins s2 σ H2 _ I2 q2) fun vu s3 ⟨u, H3, I3, pu, q3⟩ => ?_)
 rw [evalPart_none]
 refine wpAny_pure ?_
 have I4 : Inv X pins σ H3 { s3 with heap := s3.heap.push { cls := .type "slice", data := .fields #[vl, vu, .none] } } := I3.kept (t' := s3.toks) fun b ob q => Heap.get?_push_of_some _ q
 obtain ⟨T, id, hT, ht, hg⟩ := hr pins { s3 with heap := s3.heap.push { cls := .type "slice", data := .fields #[vl, vu, .none] } } σ H3 x v vl vu l u s3.heap.objs.size Q I4 r1 (Heap.IsSliceOf.new ..) pl pu q3
 show wpAny (model X.prog X.w) X.A (subscriptTail e (.Slice lo hi none p2) v (.ref s3.heap.objs.size)) (EP X pins σ Q) X.xe { s3 with heap := s3.heap.push { cls := .type "slice", data := .fields #[vl, vu, .none] } }
 exact tail_any (ops := [.ref s3.heap.objs.size, v]) ht hT hg (by with_unfolding_all rfl)
noncomputable def C5 (xs : List V) (lo hi : Option Int) : List V := (xs.drop (HT.sIx xs.length 0 lo)).take (HT.sIx xs.length xs.length hi - HT.sIx xs.length 0 lo)
theorem fg (xs : List V) (lo hi : Option Int) : (C5 xs lo hi).length ≤ xs.length := by
 unfold C5
 rw [List.length_take, List.length_drop]
 omega
noncomputable def aI (K : PySem.W.Frag) : R2 := fun x y H Q => ∃ a b xs ys, x = .ref a ∧ y = .ref b ∧ SqT K H a xs ∧ SqT K H b ys ∧ xs ≠ [] ∧ xs.length + ys.length ≤ sizeLine ∧
 (ys = [] → Q (.ref a) H) ∧ (ys ≠ [] → ∀ p, H p = none → Q (.ref p) (a7 H p (.tup (xs ++ ys))))
theorem Vals.nil_iff {xs : List V} {us : List Value} (r : Vals xs us) : us = [] ↔ xs = [] := by
 cases r with
 | nil => simp
 | cons _ _ => simp
theorem ic : OpR X (binaryOp .Add) (aI X.K) := by
 intro pins s σ H x y v u Q I rx ry h
 obtain ⟨a, b, xs, ys, rfl, rfl, ha, hb, hx, hz, q1, q2⟩ := h
 cases rx
 cases ry
 obtain ⟨its, r1, p1, _⟩ := I.tuple ha
 obtain ⟨its2, r2, p2, _⟩ := I.tuple hb
 refine HT.cat_tup p1 p2 (fun z => hx (r1.nil_iff.mp z)) (fun z => ⟨.ref a, H, I, rfl, q1 (r2.nil_iff.mp z)⟩) (fun z => ?_) (by rw [← r1.length, ← r2.length]; exact hz)
 refine ⟨.ref s.heap.objs.size, _, I.laid (t' := s.toks) (o := .tup (xs ++ ys)) (fun b ob q => Heap.get?_push_of_some _ q) (Nat.le_refl _) ?_, rfl, q2 (fun w => z (r2.nil_iff.mpr w)) _ (I.hok.fresh (Nat.le_refl _))⟩
 exact ⟨by rw [List.length_append]; exact hz, _, r1.append r2, IsTup.new _ _⟩
end
noncomputable def B3 (n : Nat) (i : Int) : Option Nat := if 0 ≤ i then (if i < n then some i.toNat else none) else if -(n : Int) ≤ i then some (i + n).toNat else none
noncomputable def l7 {α : Type} (xs : List α) (i : Int) : Option α := (B3 xs.length i).bind fun j => xs[j]?
theorem cz {n : Nat} {i : Int} {j : Nat} (h : B3 n i = some j) : seqIndex? i n = some j ∧ j < n ∧ -(n : Int) ≤ i ∧ i < n := by
 unfold B3 at h
 by_cases h0 : 0 ≤ i
 ·rw [if_pos h0] at h
  by_cases h1 : i < n
  ·rw [if_pos h1] at h
   have e : i.toNat = j := Option.some.inj h
   exact ⟨by rw [seqIndex_of h0 h1, e], by omega, by omega, h1⟩
  ·rw [if_neg h1] at h; cases h
 ·rw [if_neg h0] at h
  by_cases h1 : -(n : Int) ≤ i
  ·rw [if_pos h1] at h
   have e : (i + n).toNat = j := Option.some.inj h
   exact ⟨by rw [seqIndex_neg (by omega) h1, e], by omega, h1, by omega⟩
  ·rw [if_neg h1] at h; cases h
theorem aq {α : Type} {xs : List α} {i : Int} {v : α} (h : l7 xs i = some v) : ∃ j, seqIndex? i xs.length = some j ∧ xs[j]? = some v ∧ j < xs.length ∧ -(xs.length : Int) ≤ i ∧ i < xs.length := by
 unfold l7 at h
 cases e : B3 xs.length i with
 | none => rw [e] at h; cases h
 | some j =>
  rw [e] at h
  obtain ⟨h1, h2, h3, h4⟩ := cz e
  exact ⟨j, h1, h, h2, h3, h4⟩
noncomputable def aH (b : Expr) : Prop := ∀ o i, subscripted b false o i = operate [o, i] (getItem o i)
noncomputable def IxR (X : Cx) (r : R2) : Prop :=
 ∀ (value slice : Expr) (pins : List (Addr × Obj)) (s : Shared) (σ : St) (H : Hp) (x y : V) (v u : Value) (Q : VK), Inv X pins σ H s → c5 x v → c5 y u → r x y H Q →
  subscripted slice false v u = operate [v, u] (getItem v u) → wpAny (model X.prog X.w) X.A (subscriptTail value slice v u) (EP X pins σ Q) X.xe s
noncomputable def hU (X : Cx) (id : String) (r : V → List V → Hp → VK → Prop) : Prop :=
 ∀ (pins : List (Addr × Obj)) (s : Shared) (σ : St) (H : Hp) (x : V) (xs : List V) (v : Value) (us : List Value) (Q : VK), Inv X pins σ H s → c5 x v → Vals xs us → r x xs H Q →
  wpAny (model X.prog X.w) X.A (call (.builtin id) (v :: us)) (EP X pins σ Q) X.xe s
section
variable {X : Cx} {a b : Expr} {ta tb : TE} {pos : Pos}
theorem IxR.or {r r' : R2} (h : IxR X r) (h' : IxR X r') : IxR X (fun x y H Q => r x y H Q ∨ r' x y H Q) := by
 intro value slice pins s σ H x y v u Q I rx ry q hs
 rcases q with q | q
 ·exact h value slice pins s σ H x y v u Q I rx ry q hs
 ·exact h' value slice pins s σ H x y v u Q I rx ry q hs
theorem fq {r : R2} (hr : IxR X r) (ha : PE X a ta) (hb : PE X b tb) (hs : aH b) : PE X (.Subscript a b pos) (D6 r ta tb) := by
 intro pins s σ H Q I h
 exact Subscript_ (U4 ha hb I h fun v u s2 x y H2 I2 rx ry q => hr a b pins s2 σ H2 x y v u Q I2 rx ry q (hs _ _))
noncomputable def R4 (K : PySem.W.Frag) : R2 := fun x y H Q => ∃ p xs i v, x = .ref p ∧ y = .int i ∧ SqL K H p xs ∧ l7 xs i = some v ∧ Q v H
noncomputable def T5 (K : PySem.W.Frag) : R2 := fun x y H Q => ∃ p xs i v, x = .ref p ∧ y = .int i ∧ SqT K H p xs ∧ l7 xs i = some v ∧ Q v H
theorem ix_list : IxR X (R4 X.K) := by
 intro value slice pins s σ H x y v u Q I rx ry h hs
 obtain ⟨p, xs, i, z, rfl, rfl, hq, he, q⟩ := h
 cases rx
 obtain ⟨t, rfl⟩ := ry
 obtain ⟨its, r, pl, hz⟩ := I.list hq
 obtain ⟨j, h1, h2, h3, h4, h5⟩ := aq he
 obtain ⟨w, ew, rw'⟩ := r.get h2
 have hl := r.length
 have hn := F1
 have fin : EP X pins σ Q w s := ⟨z, H, I, rw', q⟩
 by_cases h0 : 0 ≤ i
 ·have hj : i.toNat = j := by
   rw [seqIndex_of h0 h5] at h1
   exact Option.some.inj h1
  exact item_listR pl.isList h0 (by omega) (by rw [hj]; simpa using ew) fin hs
 ·have hj : (i + (its.toArray.size : Int)).toNat = j := by
   rw [seqIndex_neg (by omega) h4] at h1
   rw [List.size_toArray, ← hl]
   exact Option.some.inj h1
  exact subscriptTail_builtinR (x := w) pl.isList.typeIs slot_list_getitem.lookup
   (wpAny_getItem_list_neg (Q := fun r s' => r = w ∧ EP X pins σ Q r s') pl.isList (by omega) (by rw [List.size_toArray] <;> omega) (by omega) (by rw [hj]; simpa using ew) ⟨rfl, fin⟩) hs
theorem ie : IxR X (T5 X.K) := by
 intro value slice pins s σ H x y v u Q I rx ry h hs
 obtain ⟨p, xs, i, z, rfl, rfl, hq, he, q⟩ := h
 cases rx
 obtain ⟨t, rfl⟩ := ry
 obtain ⟨its, r, pl, hz⟩ := I.tuple hq
 obtain ⟨j, h1, h2, h3, h4, h5⟩ := aq he
 obtain ⟨w, ew, rw'⟩ := r.get h2
 have hl := r.length
 have hn := F1
 have fin : EP X pins σ Q w s := ⟨z, H, I, rw', q⟩
 exact subscriptTail_builtinR (x := w) pl.typeIs slot_tuple_getitem.lookup
  (getItem_tuple (j := j) (Q := fun r s' => r = w ∧ EP X pins σ Q r s') pl (by omega) (by omega) (by rw [List.size_toArray, ← hl]; exact h1) (by simpa using ew) ⟨rfl, fin⟩) hs
theorem eI (lo hi : Option Int) (n : Nat) : (sliceBounds lo hi none n).1 = ((HT.sIx n 0 lo : Nat) : Int) ∧ (sliceBounds lo hi none n).2.1 = ((HT.sIx n n hi : Nat) : Int) ∧ (sliceBounds lo hi none n).2.2 = 1 := by
 have key : ∀ i : Int, (sliceBounds (some i) none none n).1 = ((HT.sIx n 0 (some i) : Nat) : Int) := fun i => by
  simp only [sliceBounds, HT.sIx, Option.getD_none, show (1 : Int) > 0 by decide, if_true]
  by_cases h : i < 0
  ·simp only [h, if_true] <;> omega
  ·simp only [h, if_false] <;> omega
 refine ⟨?_, ?_, rfl⟩
 ·cases lo with
  | none => simp [sliceBounds, HT.sIx]
  | some i => exact key i
 ·cases hi with
  | none => simp [sliceBounds, HT.sIx]
  | some i => exact key i
theorem dq (its : List Value) (lo hi : Option Int) : slicePick its.toArray lo hi none = ((its.drop (HT.sIx its.length 0 lo)).take (HT.sIx its.length its.length hi - HT.sIx its.length 0 lo)).toArray := by
 obtain ⟨h1, h2, h3⟩ := eI lo hi its.toArray.size
 unfold slicePick
 rw [h1, h2, h3]
 simp only [sliceRange_one, pick_run, List.size_toArray] <;> rfl
noncomputable def il (K : PySem.W.Frag) : V → Option Int → Option Int → Hp → VK → Prop := fun x lo hi H Q => ∃ a xs, x = .ref a ∧ SqL K H a xs ∧ ∀ p, H p = none → Q (.ref p) (a7 H p (.lst (C5 xs lo hi)))
theorem gn : SlR X (il X.K) := by
 intro pins s σ H x v vl vu lo hi sl Q I rx hs pl pu h
 obtain ⟨a, xs, rfl, hx, q⟩ := h
 cases rx
 obtain ⟨its, r, ht, hz⟩ := I.list hx
 have hlen := r.length
 refine ⟨"list", _, slot_list_getitem.lookup, ht.isList.typeIs, ?_⟩
 refine wpAny_getItem_list_slice ht.isList hs pl pu .none (by simp) ?_ (by rw [List.size_toArray] <;> omega)
 rw [dq, ← hlen]
 refine ⟨.ref s.heap.objs.size, _, I.laid (t' := s.toks) (o := .lst (C5 xs lo hi)) (fun b ob q => Heap.get?_push_of_some _ q) (Nat.le_refl _) ?_, rfl, q _ (I.hok.fresh (Nat.le_refl _))⟩
 exact ⟨Nat.le_trans (fg xs lo hi) hz, _, 0, (r.drop (HT.sIx xs.length 0 lo)).take (HT.sIx xs.length xs.length hi - HT.sIx xs.length 0 lo), Heap.get?_push_size _ rfl⟩
theorem call_len_seq : CallR X (.builtin "len") (fun xs H Q => ∃ p ys, xs = [.ref p] ∧ (SqL X.K H p ys ∨ SqT X.K H p ys) ∧ Q (.int ys.length) H) := by
 intro pins s σ H xs us Q I r h
 obtain ⟨p, ys, rfl, hq, q⟩ := h
 obtain ⟨u, rfl, rx⟩ := S0 r
 cases rx
 have hn := F1
 rcases hq with hq | hq
 ·obtain ⟨its, r', pl, hz⟩ := I.list hq
  have hlen := r'.length
  exact Calls.call_len_list pl.isList (by simp only [List.size_toArray] <;> omega) ⟨.int ys.length, H, I.tok _, ⟨s.toks + 1, by rw [List.size_toArray, hlen]⟩, q⟩
 ·obtain ⟨its, r', pl, hz⟩ := I.tuple hq
  have hlen := r'.length
  exact len_tuple pl (by simp only [List.size_toArray] <;> omega) ⟨.int ys.length, H, I.tok _, ⟨s.toks + 1, by rw [List.size_toArray, hlen]⟩, q⟩
theorem fV : CallR X (.builtin "len") (fun xs H Q => ∃ z, xs = [.str z] ∧ z.length ≤ sizeLine ∧ Q (.int z.length) H) := by
 intro pins s σ H xs us Q I r h
 obtain ⟨z, rfl, hz, q⟩ := h
 obtain ⟨u, rfl, t, rfl⟩ := S0 r
 have hn := F1
 exact len_str (by omega) ⟨.int z.length, H, I.tok _, ⟨_, rfl⟩, q⟩
theorem CallR.or {f : Value} {r r' : List V → Hp → VK → Prop} (h : CallR X f r) (h' : CallR X f r') : CallR X f (fun xs H Q => r xs H Q ∨ r' xs H Q) := by
 intro pins s σ H xs us Q I rs q
 rcases q with q | q
 ·exact h pins s σ H xs us Q I rs q
 ·exact h' pins s σ H xs us Q I rs q
noncomputable def aB (K : PySem.W.Frag) (T : String) (x : V) (H : Hp) : Prop := match x with
 | .str _ => T = "str"
 | .int _ => T = "int"
 | .ref p => (T = "list" ∧ ∃ xs, SqL K H p xs) ∨ (T = "tuple" ∧ ∃ o, K.lookup p = some o ∧ o.cls = .type "tuple" ∧ o.dict = none) ∨
   (T = "dict" ∧ ((∃ kvs, H p = some (.dK kvs)) ∨ ∃ kvs, H p = some (.dT kvs))) ∨ (T = "set" ∧ ∃ S n, H p = some (.set S n))
 | _ => False
theorem cR {pins : List (Addr × Obj)} {σ : St} {H : Hp} {s : Shared} {T : String} {x : V} {v : Value} (I : Inv X pins σ H s) (r : c5 x v) (ty : aB X.K T x H) :
  s.TypeIs v T ∧ ∀ a, v = .ref a → ∃ ob, s.heap.get? a = some ob ∧ ob.dict = none := by
 cases x with
 | str z =>
  obtain ⟨t, rfl⟩ := r
  cases (show T = "str" from ty)
  exact ⟨typeIs_str s z t, fun _ e => nomatch e⟩
 | int i =>
  obtain ⟨t, rfl⟩ := r
  cases (show T = "int" from ty)
  exact ⟨typeIs_int s i t, fun _ e => nomatch e⟩
 | ref p =>
  cases r
  rcases ty with ⟨rfl, xs, hq⟩ | ⟨rfl, o, hk, hc, hd⟩ | ⟨rfl, hk⟩ | ⟨rfl, S, n, hk⟩
  ·obtain ⟨its, _, pl, _⟩ := I.list hq
   refine ⟨pl.isList.typeIs, fun a e => ?_⟩
   cases e
   obtain ⟨o, n, e, c, hd, _⟩ := pl
   exact ⟨o, e, hd⟩
  ·refine ⟨⟨o, I.kIn p o hk, hc⟩, fun a e => ?_⟩
   cases e
   exact ⟨o, I.kIn _ o hk, hd⟩
  ·have z : ∃ o, s.heap.get? p = some o ∧ o.ExactDict := by
    rcases hk with ⟨kvs, hk⟩ | ⟨kvs, hk⟩
    ·obtain ⟨_, _, _, _, o, _, _, e, ex, _⟩ := I.hok p _ hk
     exact ⟨o, e, ex⟩
    ·obtain ⟨_, _, _, _, o, _, _, e, ex, _⟩ := I.hok p _ hk
     exact ⟨o, e, ex⟩
   obtain ⟨o, e, ex⟩ := z
   refine ⟨⟨o, e, ex.1⟩, fun a e2 => ?_⟩
   cases e2
   exact ⟨o, e, ex.2.1⟩
  ·obtain ⟨o, _, _, _, e, ex, _⟩ := I.hok p _ hk
   refine ⟨⟨o, e, ex.1⟩, fun a e2 => ?_⟩
   cases e2
   exact ⟨o, e, ex.2.1⟩
 | _ => exact False.elim ty
noncomputable def iD (K : PySem.W.Frag) (T : String) (r : V → List V → Hp → VK → Prop) (to : TE) (t : TA) : TE := fun σ H Q => to σ H fun x H1 => aB K T x H1 ∧ t σ H1 fun xs H2 => r x xs H2 Q
variable {o e : Expr} {es : List Expr} {to : TE} {t : TA} {name : Str} {apos cpos : Pos} {T id : String} {r : V → List V → Hp → VK → Prop}
theorem iL (pa : PlainAttrs T) (slot : Slot T name id) (hty : typeOf (.builtin id) = pure (.type "method_descriptor")) (hm : hU X id r) (ho : PE X o to) (ha : PA X (e :: es) t)
  (hbase : attributeBase o name X.env (eval o X.env) = eval o X.env := by rfl)
  (hfew : ((backTo cpos (starEach (e :: es) X.env)).all (fun x => !x.1) && (backToKw cpos (keywordEach [] X.env)).all (fun x => x.1.isSome)
   && decide ((e :: es).length + ([] : List Keyword).length + (if ([] : List Keyword).isEmpty then 0 else 1) < 30)) = true := by rfl)
  (hline : (apos.endLine == cpos.line) = true := by rfl) (hs : starEach (e :: es) X.env = (false, eval e X.env) :: starEach es X.env := by rfl) (hplain : (backTo cpos (starEach es X.env)).any (·.1) = false := by rfl) :
  PE X (.Call (.Attribute o name apos) (e :: es) [] cpos) (iD X.K T r to t) := by
 intro pins s σ H Q I h
 refine wpAny_Call_method_late hbase hfew hline rfl (b0 (ho pins s σ H _ I h) fun v s1 ⟨x, H1, I1, r1, ty, q1⟩ => ?_)
 obtain ⟨h1, h2⟩ := cR I1 r1 ty
 refine ⟨T, id, pa, slot, hty, h1, h2, ?_⟩
 have hA := ha cpos pins s1 σ H1 _ I1 q1
 rw [hs] at hA ⊢
 refine Calls.callWith_builtin (by show (false || (backTo cpos (starEach es X.env)).any (·.1)) = false; rw [hplain] <;> rfl) (Calls.evalArgs_plain ?_)
 exact b0 hA fun us s2 ⟨vs, H2, I2, r2, q2⟩ => hm pins s2 σ H2 x vs v us Q I2 r1 r2 q2
end
noncomputable def ef (X : Cx) (id : String) (r : V → List V → Hp → VK → Prop) : Prop :=
 ∀ (pins : List (Addr × Obj)) (s : Shared) (σ : St) (H : Hp) (x : V) (xs : List V) (v : Value) (us : List Value) (Q : VK), Inv X pins σ H s → c5 x v → Vals xs us → r x xs H Q →
  wpAny (model X.prog X.w) X.A (call (.builtin id) (v :: us)) (EP X pins σ Q) X.xe s
theorem Vals.one : ∀ {x : V} {us : List Value}, Vals [x] us → ∃ u, us = [u] ∧ c5 x u := by
 intro x us h
 cases h with
 | cons r t =>
  cases t
  exact ⟨_, rfl, r⟩
theorem Vals.rep {xs : List V} {us : List Value} (h : Vals xs us) : ∀ k : Nat, Vals (List.replicate k xs).flatten (List.replicate k us).flatten
 | 0 => .nil
 | k + 1 => by
  rw [List.replicate_succ, List.replicate_succ, List.flatten_cons, List.flatten_cons]
  exact Vals.append h (Vals.rep h k)
theorem aC (its : List Value) : ∀ (k : Nat) (acc : List Value),
  List.foldl (fun x1 x2 => x1 ++ x2) acc.toArray (List.replicate k its.toArray) = (acc ++ (List.replicate k its).flatten).toArray
 | 0, acc => by simp
 | k + 1, acc => by
  have e : acc.toArray ++ its.toArray = (acc ++ its).toArray := by simp
  have e2 : (acc ++ its) ++ (List.replicate k its).flatten = acc ++ (List.replicate (k + 1) its).flatten := by
   rw [List.replicate_succ, List.flatten_cons, List.append_assoc]
  rw [← e2, ← aC its k (acc ++ its), ← e, List.replicate_succ, List.foldl_cons]
section
variable {X : Cx} {pins : List (Addr × Obj)} {σ : St} {H : Hp} {s : Shared} {l b : Addr} {xs ys zs : List V}
theorem Inv.lset {its its' : List Value} {n : Nat} {f : Array Value → Array Value} {t' : Nat} (I : Inv X pins σ H s) (hH : H l = some (.lst xs))
  (e : s.heap.get? l = some { cls := .type "list", data := .seq its.toArray n }) (hf : f its.toArray = its'.toArray) (hv : Vals ys its') (hz : ys.length ≤ sizeLine) :
  Inv X pins σ (a7 H l (.lst ys)) { s with heap := s.heap.update l (Obj.mapSeq f), toks := t' } := by
 have q := PySem.IsL.update e f
 rw [hf] at q
 refine I.write (x := l) (e := l) (by rw [hH]; exact trivial) (.inl rfl) (fun b' u hb hu => (Heap.get?_update_other s.heap (Obj.mapSeq f) (Ne.symm hb)).trans hu) ⟨_, q⟩ ?_
 exact ⟨hz, its', _, hv, q⟩
theorem Inv.lnew {its : List Value} {t' : Nat} (I : Inv X pins σ H s) (hv : Vals ys its) (hz : ys.length ≤ sizeLine) :
  Inv X pins σ (a7 H s.heap.objs.size (.lst ys)) { s with heap := s.heap.push { cls := .type "list", data := .seq its.toArray }, toks := t' } :=
 I.laid (fun _ _ q => Heap.get?_push_of_some _ q) (Nat.le_refl _) ⟨hz, its, 0, hv, Heap.get?_push_size _ rfl⟩
theorem Inv.fresh (I : Inv X pins σ H s) : H s.heap.objs.size = none := I.hok.fresh (Nat.le_refl _)
theorem Inv.lstM (I : Inv X pins σ H s) (hH : H l = some (.lst xs)) : xs.length ≤ sizeLine ∧ ∃ (its : List Value) (n : Nat), Vals xs its ∧ xs.length = its.length ∧ s.heap.get? l = some { cls := .type "list", data := .seq its.toArray n } := by
 obtain ⟨z, its, n, r, e⟩ := I.hok l _ hH
 exact ⟨z, its, n, r, r.length, e⟩
theorem gs {n : Nat} (h : n ≤ sizeLine) : Builtin.List.listTooLong n = false := by
 unfold Builtin.List.listTooLong
 exact decide_eq_false (by omega)
end
section
variable {X : Cx}
noncomputable def di : V → List V → Hp → VK → Prop := fun x vs H Q => ∃ l xs y, x = .ref l ∧ vs = [y] ∧ H l = some (.lst xs) ∧ xs.length < sizeLine ∧ Q .non (a7 H l (.lst (xs ++ [y])))
theorem aG : ef X "list.append" di := by
 intro pins s σ H x vs v us Q I rx rv h
 obtain ⟨l, xs, y, rfl, rfl, hH, hz, q⟩ := h
 cases rx
 obtain ⟨u, rfl, ru⟩ := rv.one
 obtain ⟨z, its, n, r, hl, e⟩ := I.lstM hH
 refine call_meets F.slot_list_append ⟨_, e, rfl⟩ F.entry_list_append (F.args_list_append_2 _ _) (PySem.list_append l its.toArray n u (by rw [List.size_toArray]; omega)) ⟨e, ?_⟩
 refine ⟨.non, _, I.lset (its' := its ++ [u]) hH e (by simp) (r.append (.cons ru .nil)) ?_, rfl, q⟩
 rw [List.length_append, List.length_singleton]
 omega
noncomputable def O7 : R2 := fun x y H Q => ∃ l b xs zs, x = .ref l ∧ y = .ref b ∧ H l = some (.lst xs) ∧ H b = some (.lst zs) ∧ xs.length + zs.length ≤ sizeLine ∧ ∀ p, H p = none → Q (.ref p) (a7 H p (.lst (xs ++ zs)))
theorem Q1 : OpR X (binaryOp .Add) O7 := by
 intro pins s σ H x y v u Q I rx ry h
 obtain ⟨l, b, xs, zs, rfl, rfl, hH, hB, hz, q⟩ := h
 cases rx
 cases ry
 obtain ⟨z, its, n, r, hl, e⟩ := I.lstM hH
 obtain ⟨z2, its2, n2, r2, hl2, e2⟩ := I.lstM hB
 refine PySem.P.add_list e e2 ?_ (by rw [List.size_toArray, List.size_toArray]; omega)
 have ea : its.toArray ++ its2.toArray = (its ++ its2).toArray := by simp
 rw [ea]
 exact ⟨.ref _, _, I.lnew (t' := s.toks) (r.append r2) (by rw [List.length_append]; omega), rfl, q _ I.fresh⟩
noncomputable def bw : R2 := fun x y H Q => ∃ l k xs, x = .ref l ∧ y = .int k ∧ H l = some (.lst xs) ∧ -(2 ^ 63) ≤ k ∧ k < 2 ^ 63 ∧ xs.length * k.toNat ≤ sizeLine ∧
 ∀ p, H p = none → Q (.ref p) (a7 H p (.lst (List.replicate k.toNat xs).flatten))
theorem gG {α : Type} (xs : List α) (k : Nat) : (List.replicate k xs).flatten.length = k * xs.length := by
 induction k with
 | zero => simp
 | succ k ih => rw [List.replicate_succ, List.flatten_cons, List.length_append, ih, Nat.succ_mul, Nat.add_comm]
theorem eE : OpR X (binaryOp .Mult) bw := by
 intro pins s σ H x y v u Q I rx ry h
 obtain ⟨l, k, xs, rfl, rfl, hH, h1, h2, hz, q⟩ := h
 cases rx
 obtain ⟨t, rfl⟩ := ry
 obtain ⟨z, its, n, r, hl, e⟩ := I.lstM hH
 have hlen : its.toArray.size * k.toNat ≤ sizeLine := by rw [List.size_toArray, ← hl]; exact hz
 have hcap : ¬ its.toArray.size * k.toNat > (2 ^ 63 - 1) / 8 := by
  have : (sizeLine : Nat) ≤ (2 ^ 63 - 1) / 8 := by decide
  omega
 have hfit : ¬ (!Builtin.List.listFitsIndex k) = true := by
  rw [fitsIndex_both h1 h2]
  exact Bool.false_ne_true
 have hlong : ¬ Builtin.List.listTooLong (its.toArray.size * k.toNat) = true := by
  rw [gs hlen]
  exact Bool.false_ne_true
 have hnew : List.foldl (fun x1 x2 => x1 ++ x2) #[] (List.replicate (if its.toArray.isEmpty = true then 0 else k.toNat) its.toArray) = (List.replicate k.toNat its).flatten.toArray := by
  have f0 : ∀ m : Nat, List.foldl (fun x1 x2 => x1 ++ x2) #[] (List.replicate m its.toArray) = (List.replicate m its).flatten.toArray := fun m => by
   have := aC its m []
   rw [List.nil_append] at this
   exact this
  rw [f0]
  cases its with
  | nil => simp
  | cons a r' => rw [if_neg (by simp)]
 refine wpAny_binaryOp_repeat_ref (T := "list") (U := "int") (by decide) ⟨_, e, rfl⟩ (fun s' => typeIs_int s' k t) noFill_list_mul F.fills_int_mul F.slot_int_rmul repeat_list F.slot_int_index.lookup
  (call_meets F.slot_int_rmul (typeIs_int s k t) F.entry_int_rmul (F.args_int_rmul_2 _ _) (int___rmul___int_list k t l its.toArray n)
   ⟨e, rfl, ⟨_, e, rfl⟩, call_meets F.slot_list_mul ⟨_, e, rfl⟩ F.entry_list_mul (F.args_list_mul_2 _ _) (AutoListH.list___mul___list_int_3 l its.toArray n k t hfit hcap hlong) ⟨e, ?_⟩⟩)
 rw [hnew]
 exact ⟨.ref _, _, I.lnew (t' := s.toks) (r.rep k.toNat) (by rw [gG, Nat.mul_comm]; exact hz), rfl, q _ I.fresh⟩
end
section
variable {κ : Type} [DecidableEq κ]
noncomputable def i3 (kvs : List (κ × V)) (k : κ) : Option V := (kvs.find? fun kv => decide (kv.1 = k)).map (·.2)
noncomputable def c9 (kvs : List (κ × V)) (k : κ) (v : V) : List (κ × V) :=
 if (kvs.any fun kv => decide (kv.1 = k)) = true then kvs.map (fun kv => if kv.1 = k then (kv.1, v) else kv) else kvs ++ [(k, v)]
theorem L5 {k : κ} : i3 ([] : List (κ × V)) k = none := rfl
theorem A6 {p : κ × V} {r : List (κ × V)} {k : κ} (e : p.1 = k) : i3 (p :: r) k = some p.2 := by simp [i3, List.find?_cons, e]
theorem j9 {p : κ × V} {r : List (κ × V)} {k : κ} (e : ¬ p.1 = k) : i3 (p :: r) k = i3 r k := by simp [i3, List.find?_cons, e]
theorem M5 (k : κ) : ∀ kvs : List (κ × V), (kvs.any fun kv => decide (kv.1 = k)) = (i3 kvs k).isSome
 | [] => rfl
 | p :: r => by
  rw [List.any_cons]
  by_cases e : p.1 = k
  ·simp only [A6 e, decide_eq_true e, Bool.true_or, Option.isSome_some]
  ·rw [j9 e, decide_eq_false e, Bool.false_or]; exact M5 k r
theorem Q4 (kvs : List (κ × V)) (k : κ) (v : V) : (c9 kvs k v).length ≤ kvs.length + 1 := by
 unfold c9
 split
 ·rw [List.length_map]; omega
 ·rw [List.length_append, List.length_cons, List.length_nil]; omega
theorem J3 {kvs : List (κ × V)} {k : κ} (v : V) (h : i3 kvs k = none) : c9 kvs k v = kvs ++ [(k, v)] := by
 unfold c9
 rw [M5, h]
 exact if_neg (by decide)
theorem RelO.isSome_eq {o : Option V} {u : Option Value} (r : RelO o u) : o.isSome = u.isSome := by
 cases o with
 | none => cases u with
  | none => rfl
  | some _ => exact (show False from r).elim
 | some _ => cases u with
  | none => exact (show False from r).elim
  | some _ => rfl
theorem KV.val {kvs : List (κ × V)} {vs : List (κ × Value)} (r : KV kvs vs) (k : κ) : RelO (i3 kvs k) (valueAt vs k) := by
 unfold KV at r
 induction r with
 | nil => exact True.intro
 | @cons p q ps qs h t ih =>
  obtain ⟨h1, h2⟩ := h
  by_cases e : p.1 = k
  ·have e' : q.1 = k := h1.symm.trans e
   have b : valueAt (q :: qs) k = some q.2 := by simp [valueAt, List.find?_cons, e']
   rw [A6 e, b]; exact h2
  ·have e' : ¬ q.1 = k := fun z => e (h1.trans z)
   have b : valueAt (q :: qs) k = valueAt qs k := by simp [valueAt, List.find?_cons, e']
   rw [j9 e, b]; exact ih
theorem KV.any {kvs : List (κ × V)} {vs : List (κ × Value)} (r : KV kvs vs) (k : κ) : (kvs.any fun kv => decide (kv.1 = k)) = vs.any fun kv => decide (kv.1 = k) := by
 unfold KV at r
 induction r with
 | nil => rfl
 | cons h t ih => rw [List.any_cons, List.any_cons, ih, h.1]
theorem KV.repl {kvs : List (κ × V)} {vs : List (κ × Value)} (r : KV kvs vs) (k : κ) {y : V} {u : Value} (ry : c5 y u) :
  KV (kvs.map fun kv => if kv.1 = k then (kv.1, y) else kv) (vs.map fun kv => if kv.1 = k then (kv.1, u) else kv) := by
 unfold KV at r ⊢
 induction r with
 | nil => exact .nil
 | @cons p q ps qs h t ih =>
  rw [List.map_cons, List.map_cons]
  refine .cons ?_ ih
  obtain ⟨h1, h2⟩ := h
  by_cases e : p.1 = k
  ·rw [if_pos e, if_pos (h1.symm.trans e)]; exact ⟨h1, ry⟩
  ·rw [if_neg e, if_neg (fun z => e (h1.trans z))]; exact ⟨h1, h2⟩
theorem KV.put {kvs : List (κ × V)} {vs : List (κ × Value)} (r : KV kvs vs) (k : κ) {y : V} {u : Value} (ry : c5 y u) : KV (c9 kvs k y) (stored vs k u) := by
 unfold c9 stored
 rw [r.any k]
 by_cases e : (vs.any fun kv => decide (kv.1 = k)) = true
 ·rw [if_pos e, if_pos e]; exact r.repl k ry
 ·rw [if_neg e, if_neg e]; exact Paired.snoc r ⟨rfl, ry⟩
theorem KV.length {kvs : List (κ × V)} {vs : List (κ × Value)} (r : KV kvs vs) : kvs.length = vs.length := Paired.length r
end
theorem K1 {P : Program} {w : World} {k : a6} {u : Value} (r : c5 (kV k) u) : (j7 P w).is k u = true := by
 cases k with
 | inl i => obtain ⟨t, e⟩ := (show ∃ t, u = Value.int i t from r); subst e; exact dP P w i t
 | inr x => obtain ⟨t, e⟩ := (show ∃ t, u = Value.str x t from r); subst e; exact gP P w x t
theorem Y2 {P : Program} {w : World} : ∀ {ks : List a6} {us : List Value}, Vals (ks.map kV) us → ItemsAre (j7 P w) ks us
 | [], _, r => by rw [List.map_nil] at r; cases r; exact .nil
 | k :: ks, _, r => by
  rw [List.map_cons] at r
  cases r with
  | cons h t => exact .cons (K1 h) (Y2 t)
noncomputable abbrev KT (H : Hp) : List (List a6 × V) → List (List a6 × Addr × Value) → Prop := Paired fun p q => p.1 = q.1 ∧ H q.2.1 = some (.tup (p.1.map kV)) ∧ c5 p.2 q.2.2
theorem KT.val {H : Hp} {kvs : List (List a6 × V)} {xs : List (List a6 × Addr × Value)} (r : KT H kvs xs) (k : List a6) : RelO (i3 kvs k) ((atKey xs k).map (·.2)) := by
 induction r with
 | nil => exact True.intro
 | @cons p q ps qs h t ih =>
  obtain ⟨h1, _, h2⟩ := h
  by_cases e : p.1 = k
  ·have e' : q.1 = k := h1.symm.trans e
   have b : atKey (q :: qs) k = some q.2 := by simp [atKey, List.find?_cons, e']
   rw [A6 e, b]; exact h2
  ·have e' : ¬ q.1 = k := fun z => e (h1.trans z)
   have b : atKey (q :: qs) k = atKey qs k := by simp [atKey, List.find?_cons, e']
   rw [j9 e, b]; exact ih
theorem KT.repl {H : Hp} {kvs : List (List a6 × V)} {xs : List (List a6 × Addr × Value)} (r : KT H kvs xs) (k : List a6) {y : V} {u : Value} (ry : c5 y u) :
  KT H (kvs.map fun kv => if kv.1 = k then (kv.1, y) else kv) (xs.map (putAt k u)) := by
 induction r with
 | nil => exact .nil
 | @cons p q ps qs h t ih =>
  rw [List.map_cons, List.map_cons]
  refine .cons ?_ ih
  obtain ⟨h1, h2, h3⟩ := h
  unfold putAt
  by_cases e : p.1 = k
  ·rw [if_pos e, if_pos (h1.symm.trans e)]; exact ⟨h1, h2, ry⟩
  ·rw [if_neg e, if_neg (fun z => e (h1.trans z))]; exact ⟨h1, h2, h3⟩
theorem KT.put {H : Hp} {kvs : List (List a6 × V)} {xs : List (List a6 × Addr × Value)} (r : KT H kvs xs) (k : List a6) {b : Addr} {y : V} {u : Value} (hb : H b = some (.tup (k.map kV))) (ry : c5 y u) :
  KT H (c9 kvs k y) (storedH xs k b u) := by
 have e : (kvs.any fun kv => decide (kv.1 = k)) = (atKey xs k).isSome := by
  rw [M5, (r.val k).isSome_eq, Option.isSome_map]
 unfold c9 storedH
 rw [e]
 by_cases q : (atKey xs k).isSome = true
 ·rw [if_pos q, if_pos q]; exact r.repl k ry
 ·rw [if_neg q, if_neg q]; exact Paired.snoc r ⟨rfl, hb, ry⟩
theorem KT.keeps {H H' : Hp} {kvs : List (List a6 × V)} {xs : List (List a6 × Addr × Value)} (r : KT H kvs xs) (ht : ∀ b ys, H b = some (.tup ys) → H' b = some (.tup ys)) : KT H' kvs xs :=
 Paired.mapP r fun _ _ z => ⟨z.1, ht _ _ z.2.1, z.2.2⟩
section
variable {P : Program} {w : World} {H : Hp} {h : Heap} {a : Addr}
theorem aF {u : HO} (ok : HOk P w H h) (e : Rd H a u) : ObjOk P w H h a u := e.ok ok
theorem U9 {kvs : List (a6 × V)} (ok : HOk P w H h) (e : Rd H a (.dK kvs)) : kvs.length ≤ sizeLine ∧ (a == sysModules) = false ∧ ∃ vs, KV kvs vs ∧ h.DictOf (j7 P w) a vs :=
 show ObjOk P w H h a (.dK kvs) from aF ok e
theorem aj {kvs : List (a6 × V)} (ok : HOk P w H h) (e : H a = some (.dK kvs)) : kvs.length ≤ sizeLine ∧ (a == sysModules) = false ∧ ∃ vs, KV kvs vs ∧ h.DictOf (j7 P w) a vs := U9 ok (.inl e)
theorem P8 {ks : List a6} (ok : HOk P w H h) (e : H a = some (.tup (ks.map kV))) : (tupleKind (j7 P w)).is h ks a := by
 obtain ⟨_, its, r, o, h1, h2, n, h3⟩ := (show ObjOk P w H h a (.tup (ks.map kV)) from ok a _ e)
 exact ⟨o, its.toArray, n, h1, h2, h3, by simpa using Y2 r⟩
theorem T3 {kvs : List (List a6 × V)} (ok : HOk P w H h) (e : Rd H a (.dT kvs)) : kvs.length ≤ sizeLine ∧ (a == sysModules) = false ∧
  ∃ xs, KT H kvs xs ∧ h.DictOfH (tupleKind (j7 P w)) a xs := by
 obtain ⟨z, y, xs, r, o, es, ep, h1, h2, h3, h4, h5⟩ := (show ObjOk P w H h a (.dT kvs) from aF ok e)
 refine ⟨z, y, xs, r, o, es, ep, h1, h2, h3, h4, fun x hx => ?_, h5⟩
 have all : ∀ {l : List (List a6 × V)} {m : List (List a6 × Addr × Value)}, KT H l m → ∀ x ∈ m, (tupleKind (j7 P w)).is h x.1 x.2.1 := by
  intro l m q
  induction q with
  | nil => intro x hx; exact nomatch hx
  | @cons p q ps qs hq t ih =>
   intro x hx
   rcases List.mem_cons.mp hx with e | hx
   ·subst e
    exact P8 ok (by rw [← hq.1]; exact hq.2.1)
   ·exact ih x hx
 exact all r x hx
theorem dg {kvs : List (List a6 × V)} (ok : HOk P w H h) (e : H a = some (.dT kvs)) : kvs.length ≤ sizeLine ∧ (a == sysModules) = false ∧
  ∃ xs, KT H kvs xs ∧ h.DictOfH (tupleKind (j7 P w)) a xs := T3 ok (.inl e)
end
noncomputable def DGet (H : Hp) (a : Addr) (y : V) (r : Option V) : Prop :=
 (∃ kvs k, Rd H a (.dK kvs) ∧ y = kV k ∧ r = i3 kvs k) ∨ ∃ kvs k b, Rd H a (.dT kvs) ∧ y = .ref b ∧ H b = some (.tup (k.map kV)) ∧ r = i3 kvs k
noncomputable def DPut (H : Hp) (a : Addr) (y v : V) (H' : Hp) : Prop :=
 (∃ kvs k, H a = some (.dK kvs) ∧ y = kV k ∧ kvs.length < sizeLine ∧ H' = a7 H a (.dK (c9 kvs k v))) ∨
 ∃ kvs k b, H a = some (.dT kvs) ∧ y = .ref b ∧ H b = some (.tup (k.map kV)) ∧ kvs.length < sizeLine ∧ H' = a7 H a (.dT (c9 kvs k v))
theorem DGet.k {H : Hp} {a : Addr} {kvs : List (a6 × V)} {k : a6} (e : H a = some (.dK kvs)) : DGet H a (kV k) (i3 kvs k) := .inl ⟨kvs, k, .inl e, rfl, rfl⟩
theorem DPut.k {H : Hp} {a : Addr} {kvs : List (a6 × V)} {k : a6} {v : V} (e : H a = some (.dK kvs)) (hl : kvs.length < sizeLine) : DPut H a (kV k) v (a7 H a (.dK (c9 kvs k v))) := .inl ⟨kvs, k, e, rfl, hl, rfl⟩
section
variable {X : Cx} {pins : List (Addr × Obj)} {σ : St} {H : Hp} {s : Shared} {a : Addr} {y v : V} {u r : Value} {o : Option V} {A : Around} {E : Value → Shared → Prop}
theorem Inv.big (I : Inv X pins σ H s) : sysModules < s.heap.objs.size := by
 have h : mainGlobals < s.heap.objs.size := (I.mod.glob.keeps I.bk).lt
 exact Nat.lt_trans (by decide) h
theorem bW {Q : Value → Shared → Prop} (hu : A.units + 1 < cLine) (I : Inv X pins σ H s) (g : DGet H a y (some v)) (ry : c5 y u) (h : ∀ w' s', Inv X pins σ H s' → c5 v w' → Q w' s') :
  wpAny (model X.prog X.w) A (getItem (.ref a) u) Q E s := by
 rcases g with ⟨kvs, k, e, ey, l⟩ | ⟨kvs, k, b, e, ey, eb, l⟩
 ·subst ey
  obtain ⟨z, hd, vs, rel, dd⟩ := U9 I.hok e
  obtain ⟨w', hw, rw'⟩ := RelO.some_of (v := v) (o := valueAt vs k) (by rw [l]; exact rel.val k)
  exact wpAny_getItem_of (K1 ry) dd.mapOf hw (h w' _ (I.tok _) rw')
 ·subst ey
  cases (show u = Value.ref b from ry)
  obtain ⟨z, hd, xs, rel, dd⟩ := T3 I.hok e
  obtain ⟨w', hw, rw'⟩ := RelO.some_of (v := v) (o := (atKey xs k).map (·.2)) (by rw [l]; exact rel.val k)
  obtain ⟨p, hp, hp2⟩ := Option.map_eq_some_iff.mp hw
  refine wpAny_getItem_heap (tupleKind_room_in1 hu) (P8 I.hok eb) dd hp ?_
  rw [hp2]
  exact h w' _ (I.tok _) rw'
theorem T9 {h' : Heap} {t' : Nat} {ob : HO} (I : Inv X pins σ H s) (mu : E8 (H a)) (hs : Heap.SameBut a s.heap h') (he : ∃ q, h'.get? a = some q) (new : ObjOk X.prog X.w (a7 H a ob) h' a ob) :
  Inv X pins σ (a7 H a ob) { s with heap := h', toks := t' } :=
 I.write (x := a) (e := a) mu (.inl rfl) (fun b q hb z => (hs.2 b hb).trans z) he new
theorem V2 {P : Program} {w : World} {H' : Hp} {h' : Heap} {kvs : List (a6 × V)} {vs : List (a6 × Value)} (z : kvs.length ≤ sizeLine) (hd : (a == sysModules) = false) (rel : KV kvs vs) (dd : h'.DictOf (j7 P w) a vs) :
  ObjOk P w H' h' a (.dK kvs) := ⟨z, hd, vs, rel, dd⟩
theorem ju {H' : Hp} {Q : Unit → Shared → Prop} (hu : A.units + 1 < cLine) (I : Inv X pins σ H s) (g : DPut H a y v H') (ry : c5 y u) (rv : c5 v r) (h : ∀ s', Inv X pins σ H' s' → Q () s') :
  wpAny (model X.prog X.w) A (setItem (.ref a) u r) Q E s := by
 rcases g with ⟨kvs, k, e, ey, l, eH⟩ | ⟨kvs, k, b, e, ey, eb, l, eH⟩
 ·subst ey eH
  obtain ⟨z, hd, vs, rel, dd⟩ := aj I.hok e
  have hz : vs.length ≤ sizeLine := by rw [← rel.length]; exact z
  have hl : (c9 kvs k v).length ≤ sizeLine := by have := Q4 kvs k v; omega
  refine wpAny_setItem_pairs (hsz := hz) (K1 ry) dd fun h' dd' hs => h _ ?_
  have he : ∃ q, h'.get? a = some q := let ⟨q, _, _, hq, _⟩ := dd'; ⟨q, hq⟩
  exact T9 I (by rw [e]; exact True.intro) hs he (V2 hl hd (rel.put k rv) dd')
 ·subst ey eH
  cases (show u = Value.ref b from ry)
  obtain ⟨z, hd, xs, rel, dd⟩ := dg I.hok e
  have hz : xs.length ≤ sizeLine := by rw [← Paired.length rel]; exact z
  have hl : (c9 kvs k v).length ≤ sizeLine := by have := Q4 kvs k v; omega
  refine wpAny_setItem_heap (hsz := hz) (tupleKind_room_in1 hu) (P8 I.hok eb) dd fun h' dd' hs => h _ ?_
  obtain ⟨q, es, ep, hq, h2, h3, h4, _, h5⟩ := dd'
  refine T9 I (by rw [e]; exact True.intro) hs ⟨q, hq⟩ ⟨hl, hd, _, (rel.put k eb rv).keeps fun c ys ec => ?_, q, es, ep, hq, h2, h3, h4, h5⟩
  rw [a8 (dF ec e (fun z => nomatch z))]
  exact ec
end
noncomputable def X5 (i : Expr) : Prop := ∀ ov iv, subscripted i false ov iv = operate [ov, iv] (getItem ov iv)
theorem iY {prog : Program} {w : World} {A : Around} {E : Value → Shared → Prop} {s : Shared} {env : Env} {value slice : Expr} {pos : Pos} {T id : String} {Q : Value → Shared → Prop}
  (hl : typeLookup (.type T) "__getitem__" = pure (some (.builtin id))) (hs : X5 slice)
  (h : wpAny (model prog w) A (eval value env) (fun o s₁ => wpAny (model prog w) A (eval slice env) (fun i s₂ => s₂.TypeIs o T ∧ wpAny (model prog w) A (getItem o i) Q E s₂) E s₁) E s) :
  wpAny (model prog w) A (eval (.Subscript value slice pos) env) Q E s := by
 refine Subscript_ (wpAny_mono h (fun o s₁ h₁ => wpAny_mono h₁ (fun i s₂ h₂ => ?_) fun _ _ x => x) fun _ _ x => x)
 obtain ⟨hT, h₂⟩ := h₂
 unfold subscriptTail
 refine wpAny_bind ?_
 rw [getitemInPython_of_ne hT.not_modules]
 refine wpAny_bind (wpAny_specialOf hT hl ?_)
 have fin : wpAny (model prog w) A (subscripted slice false o i) (fun r s₃ => wpAny (model prog w) A (letTemporaryGo value o r >>= fun _ => pure r) Q E s₃) E s₂ := by
  rw [hs o i]
  exact wpAny_operating (wpAny_mono h₂ (fun r s₃ h₃ => wpAny_bind (wpAny_letTemporaryGo (wpAny_pure h₃))) fun _ _ x => x)
 first
  | exact wpAny_pure (wpAny_bind fin)
  | exact wpAny_bind (wpAny_pure (wpAny_bind fin))
  | exact wpAny_bind fin
theorem gT {X : Cx} {pins : List (Addr × Obj)} {σ : St} {H : Hp} {s : Shared} {a : Addr} {y : V} {o : Option V} (I : Inv X pins σ H s) (g : DGet H a y o) : s.TypeIs (.ref a) "dict" := by
 rcases g with ⟨kvs, k, e, _, _⟩ | ⟨kvs, k, b, e, _, _, _⟩
 ·obtain ⟨_, _, vs, _, dd⟩ := U9 I.hok e
  exact dd.typeIs
 ·obtain ⟨_, _, xs, _, dd⟩ := T3 I.hok e
  exact dd.typeIs
noncomputable def cK (td ty : TE) : TE := fun σ H Q => td σ H fun x H1 => ty σ H1 fun y H2 => ∃ a v, x = .ref a ∧ DGet H2 a y (some v) ∧ Q v H2
noncomputable def cc (td ty tv : TE) : TS := fun D σ H => tv σ H fun v H1 => td σ H1 fun x H2 => ty σ H2 fun y H3 => ∃ a H4, x = .ref a ∧ DPut H3 a y v H4 ∧ D.nx σ H4
section
variable {X : Cx} {o i e value : Expr} {pos pos' tpos : Pos} {td ty tv : TE}
theorem dv (hu : X.A.units + 1 < cLine) (ho : PE X o td) (hi : PE X i ty) (hs : X5 i) : PE X (.Subscript o i pos) (cK td ty) := by
 intro pins s σ H Q I h
 refine iY PySem.F.slot_dict_getitem.lookup hs (b0 (ho pins s σ H _ I h) fun u s1 ⟨x, H1, I1, rx, q1⟩ => b0 (hi pins s1 σ H1 _ I1 q1) fun iv s2 ⟨y, H2, I2, ry, a, v, ex, g, q2⟩ => ?_)
 subst ex
 obtain rfl : u = Value.ref a := rx
 exact ⟨gT I2 g, bW hu I2 g ry fun w' s3 I3 rw' => ⟨v, H2, I3, rw', q2⟩⟩
theorem gW (hu : X.A.units + 1 < cLine) (ho : PE X o td) (hi : PE X i ty) (hv : PE X value tv) (hs : swapsWith value (some (.Subscript o i pos')) pos.line X.env = pure false) :
  PS X (.Assign [.Subscript o i pos'] value pos) (cc td ty tv) := by
 intro pins s σ H D I h
 refine wpAny_Assign_Subscript (b0 (hv pins s σ H _ I h) fun r s1 ⟨v, H1, I1, rv, q1⟩ => b0 (ho pins s1 σ H1 _ I1 q1) fun u s2 ⟨x, H2, I2, rx, q2⟩ => b0 (hi pins s2 σ H2 _ I2 q2) fun iv s3 ⟨y, H3, I3, ry, a, H4, ex, g, q3⟩ => ?_) hs
 subst ex
 obtain rfl : u = Value.ref a := rx
 exact ju hu I3 g ry rv fun s4 I4 => ⟨σ, H4, I4, q3⟩
end
theorem du {P : Program} {w : World} {H : Hp} (h : Heap) (hb : sysModules < h.objs.size) : ObjOk P w H (h.push { cls := .type "dict", data := .dict #[] }) h.objs.size (.dK []) :=
 ⟨Nat.zero_le _, beq_eq_false_iff_ne.mpr (Ne.symm (Nat.ne_of_lt hb)), [], .nil, Heap.DictOf.new h⟩
noncomputable def R0 : List (TE × TE) → St → Hp → (List (V × V) → Hp → Prop) → Prop
 | [], _, H, Q => Q [] H
 | (tk, tv) :: r, σ, H, Q => tk σ H fun x H1 => tv σ H1 fun y H2 => R0 r σ H2 fun ps H3 => Q ((x, y) :: ps) H3
noncomputable abbrev VV : List (V × V) → List (Value × Value) → Prop := Paired fun p q => c5 p.1 q.1 ∧ c5 p.2 q.2
noncomputable def N2 (X : Cx) (pos : Pos) (keys : List (Option Expr)) (values : List Expr) (trs : List (TE × TE)) : Prop :=
 ∀ (pins : List (Addr × Obj)) (s : Shared) (σ : St) (H : Hp) (Q : List (V × V) → Hp → Prop), Inv X pins σ H s → R0 trs σ H Q →
  wpAny (model X.prog X.w) X.A (evalPairs (pairTrees keys values X.env pos)) (fun vs s' => ∃ ps H', Inv X pins σ H' s' ∧ VV ps vs ∧ Q ps H') X.xe s
theorem cC {X : Cx} {pos : Pos} : N2 X pos [] [] [] := fun pins s σ H Q I h => pairTrees_nil_walk ⟨[], H, I, .nil, h⟩
theorem L9 {X : Cx} {pos : Pos} {k v : Expr} {ks : List (Option Expr)} {vs : List Expr} {tk tv : TE} {trs : List (TE × TE)} (hk : PE X k tk) (hv : PE X v tv) (hr : N2 X pos ks vs trs) :
  N2 X pos (some k :: ks) (v :: vs) ((tk, tv) :: trs) := fun pins s σ H Q I h =>
 pairTrees_cons_walk (b0 (hk pins s σ H _ I h) fun u s1 ⟨x, H1, I1, rx, q1⟩ => b0 (hv pins s1 σ H1 _ I1 q1) fun w2 s2 ⟨y, H2, I2, ry, q2⟩ =>
  b0 (hr pins s2 σ H2 _ I2 q2) fun ws s3 ⟨ps, H3, I3, rel, q3⟩ => ⟨(x, y) :: ps, H3, I3, .cons ⟨rx, ry⟩ rel, q3⟩)
noncomputable def C6 (kvs more : List (a6 × V)) : List (a6 × V) := more.foldl (fun acc kv => c9 acc kv.1 kv.2) kvs
theorem KV.merge : ∀ {more : List (a6 × V)} {rs : List (a6 × Value)} {kvs : List (a6 × V)} {vs : List (a6 × Value)}, KV more rs → KV kvs vs → KV (C6 kvs more) (merged vs rs) := by
 intro more rs kvs vs r
 unfold KV at r
 induction r generalizing kvs vs with
 | nil => intro q; exact q
 | @cons p q ps qs h t ih =>
  intro r0
  have e : KV (c9 kvs p.1 p.2) (stored vs q.1 q.2) := by
   have := r0.put p.1 h.2
   rw [← h.1]; exact this
  exact ih e
theorem W9 : ∀ (more kvs : List (a6 × V)), (C6 kvs more).length ≤ kvs.length + more.length
 | [], kvs => by show kvs.length ≤ kvs.length + 0; omega
 | p :: r, kvs => by
  have h1 := W9 r (c9 kvs p.1 p.2)
  have h2 := Q4 kvs p.1 p.2
  show (C6 (c9 kvs p.1 p.2) r).length ≤ _
  rw [List.length_cons]; omega
theorem W7 {P : Program} {w : World} : ∀ {kvs : List (a6 × V)} {ws : List (Value × Value)}, VV (kvs.map fun kv => (kV kv.1, kv.2)) ws → ∃ rs, Carries (j7 P w) ws rs ∧ KV kvs rs
 | [], _, r => by rw [List.map_nil] at r; cases r; exact ⟨[], True.intro, .nil⟩
 | p :: kvs, _, r => by
  rw [List.map_cons] at r
  cases r with
  | @cons a b as bs h t =>
   obtain ⟨rs, c, q⟩ := W7 (P := P) (w := w) t
   obtain ⟨b1, b2⟩ := b
   exact ⟨(p.1, b2) :: rs, ⟨K1 h.1, rfl, c⟩, .cons ⟨rfl, h.2⟩ q⟩
noncomputable def gB (trs : List (TE × TE)) : TE := fun σ H Q => ∀ p, H p = none → R0 trs σ (a7 H p (.dK [])) fun ps H2 => H2 p = some (.dK []) ∧ ∃ kvs : List (a6 × V), ps = kvs.map (fun kv => (kV kv.1, kv.2)) ∧ kvs.length ≤ 15 ∧ Q (.ref p) (a7 H2 p (.dK (C6 [] kvs)))
theorem jr {X : Cx} {pos : Pos} {keys : List (Option Expr)} {values : List Expr} {trs : List (TE × TE)} (h : N2 X pos keys values trs) (hall : keys.all (·.isSome) = true) (hl : keys.length = values.length) (h0 : keys ≠ [])
  (h15 : keys.length ≤ 15) : PE X (.Dict keys values pos) (gB trs) := by
 intro pins s σ H Q I q
 have hn := I.hok.fresh (Nat.le_refl s.heap.objs.size)
 have I1 := I.laid (a := s.heap.objs.size) (o := .dK []) (h' := s.heap.push { cls := .type "dict", data := .dict #[] }) (t' := s.toks) (fun _ _ q => Heap.get?_push_of_some _ q) (Nat.le_refl _) (du s.heap I.big)
 refine wpAny_Dict_walk (knd := j7 X.prog X.w) hall hl h0 h15 (b0 (h pins _ σ _ _ I1 (q _ hn)) fun ws s2 ⟨ps, H2, I2, rel, e, kvs, ep, lk, q2⟩ => ?_)
 subst ep
 obtain ⟨rs, c, rk⟩ := W7 (P := X.prog) (w := X.w) rel
 obtain ⟨z, hd, vs0, r0, dd⟩ := aj I2.hok e
 cases r0
 refine ⟨rs, c, dd, fun h' dd' hs => ⟨.ref s.heap.objs.size, _, ?_, rfl, q2⟩⟩
 have hz : (C6 [] kvs).length ≤ sizeLine := by
  have h1 := W9 kvs []
  rw [List.length_nil] at h1
  rw [sizeLine_eq]; omega
 have he : ∃ q, h'.get? s.heap.objs.size = some q := let ⟨q, _, _, hq, _⟩ := dd'; ⟨q, hq⟩
 exact T9 I2 (by rw [e]; exact True.intro) hs he (V2 hz hd (rk.merge .nil) dd')
end L2
namespace Att
open PySem PySem.W PySem.Calls PyProof.Rows
theorem eQ {P : Params} {h : Heap} : ∀ (ns : List Int) (vs : List Value), WellAll P h vs (ns.map WData.int) → IntsAre vs ns := by
 intro ns
 induction ns with
 | nil =>
  intro vs w
  rw [List.map_nil] at w
  cases w
  exact .nil
 | cons n ns ih =>
  intro vs w
  rw [List.map_cons] at w
  cases w with
  | cons a b =>
   cases a
   exact .cons _ _ (ih _ b)
theorem gw {l : OpenLaw} {n : Nat} (hn : l.most = some n) {P : Params} {h : Heap} {args : List WData} {vals : List Value}
  (hpre : l.row.toRowW.claim.pre args = true) (hwl : WellAll P h vals args) :
  ∃ a vs ns, vals = [Value.ref a] ∧ args = [WData.list (ns.map WData.int)] ∧ h.get? a = some { cls := .type "list", data := .seq vs.toArray } ∧ IntsAre vs ns ∧ ns.length ≤ n := by
 have hsh : WShape.hasAll [] args [.list .int] = true := (pre_splitW hpre).1
 have hc : l.pre.holds [] { args := args } = true := (pre_splitW hpre).2
 obtain ⟨d, r, rfl, h1, h2⟩ := hasAllW_cons hsh
 obtain rfl := hasAllW_nil h2
 obtain ⟨xs, rfl, h3⟩ := hasW_list h1
 obtain ⟨ns, rfl⟩ := items_int h3
 have hlen : ns.length ≤ n := by
  unfold OpenLaw.pre at hc
  have h4 : (WTm.not (.lt (.lit (.int (n : Int))) (.len (.arg 0)))).holds [] { args := [.list (ns.map .int)] } = true := by
   have h4 := (holds_andW hc).1
   rw [hn] at h4
   exact h4
  have h5 := condW_of h4 (w_not (w_lt w_lit (w_len_list (w_arg rfl))))
  rw [List.length_map] at h5
  refine Nat.le_of_not_lt fun q => ?_
  have q' : (n : Int) < ((ns.length : Nat) : Int) := by omega
  first
   | (rw [decide_eq_true q'] at h5; exact absurd h5 (by decide))
   | (simp at h5; omega)
 cases hwl with
 | cons w1 w2 =>
  cases w2
  cases w1 with
  | list ho hall => exact ⟨_, _, ns, rfl, rfl, ho, eQ ns _ hall, hlen⟩
theorem cq (l : OpenLaw) (args : List WData) : l.row.toRowW.claim.post args (.bool true) args = true :=
 postW_of (r := l.row.toRowW) (X := (true == true))
  (show WShape.has [] (.bool true) .bool = true by first | rfl | decide | simp [WShape.has, WShape.arms, WShape.armsAll])
  (show (WTm.eq .res (.lit (.bool true))).value [] { args := args, res := some (.bool true), after := args } = some (.bool (true == true)) from w_eq_bool (w_res rfl) w_lit) rfl
theorem attach_call {l : OpenLaw} {n : Nat} {q : Program} {loose : List Str} {XP : (Str → Option Value) → Heap → Prop} {YP : World → Heap → Prop} {d : DefRec}
  (hn : l.most = some n) (hdf : d.params.defaults = [])
  (call : ∀ (w : World) (s₀ s₁ : Shared) (mg mb : Str → Option Value) (fa : Addr) (o : Obj) (pm cd doc : Value) (a : Addr) (vs : List Value) (ns : List Int),
   Ground q loose [] XP w s₀ mg mb s₁.heap → YP w s₁.heap →
   s₁.heap.get? fa = some o → o.data = .func (docDef d.name d.params d.body d.scope pm cd doc) → s₁.heap.CodeRec cd d.name → mg d.name = some (.ref fa) →
   s₁.heap.get? a = some { cls := .type "list", data := .seq vs.toArray } → IntsAre vs ns → ns.length ≤ n → s₁.gens = #[] →
   codeAny (model l.prog w) callerA (.call (.ref fa) ⟨[.ref a], []⟩) (fun r s' => r = .ok (.ret (.bool true)) ∧ OldK s₁.heap s'.heap ∧ s'.os = s₁.os ∧ AllBare s'.gens) s₁) :
  WalkO q loose XP YP l.row.toRowW d [] (fun f vs => PySem.call f vs) := by
 intro w s₀ s₁ mg mb G Y fa o pm cd doc dV kV ho hd hcd hD hmg hg args vals as hpre hlay hrd hwl hlo
 obtain rfl : dV = .none := Dflts.none hD hdf
 obtain rfl : kV = .none := Dflts.noKw hD
 obtain ⟨a, vs, ns, rfl, rfl, hobj, hints, hlen⟩ := gw hn hpre hwl
 refine enter_call (codeAny_mono (call w s₀ s₁ mg mb fa o pm cd doc a vs ns G Y ho (fd_plain hd) hcd hmg hobj hints hlen hg) fun r s' hq => ?_)
 obtain ⟨rfl, h2, h3, h4⟩ := hq
 exact ⟨.inl ⟨.bool true, .bool true, [], rfl, fun _ => rfl, .bool true, cq l _, fun _ => ⟨List.Pairwise.nil, fun _ hm => (nomatch hm)⟩⟩, h2, h3, h4⟩
end Att
namespace L2
open PySem PySem.Spec PyProof.Rows
theorem aD : ∀ {vs : List Value} {ns : List Int}, IntsAre vs ns → Vals (ns.map V.int) vs
 | _, _, .nil => .nil
 | _, _, .cons n t h => .cons ⟨t, rfl⟩ (aD h)
noncomputable def U6 (H : Hp) : Prop := ∀ b, H b = none ∨ ∃ o xs, H b = some (.frz o (.lst xs))
theorem hR {P : Program} {w : World} {K : PySem.W.Frag} {mg mb : Str → Option Value} {CX : n6} {k : Nat} {fa a : Addr} {fd : FuncData} {x : Str} {sp : Sp} {s₁ : Shared} {vs : List Value} {ns : List Int}
  (KX : K.In s₁.heap) (hns : s₁.heap.Ns mainGlobals mg) (hb : s₁.heap.Ns builtinsNs mb) (hbb : ∀ x : Str, x ≠ "__name__" → mb x = bootBuiltins x) (hlim : s₁.heap.NoLimit) (hg : s₁.gens = #[])
  (ha : s₁.heap.get? a = some { cls := .type "list", data := .seq vs.toArray }) (hi : IntsAre vs ns) (hl : ns.length ≤ sizeLine) (hr : Room k callerA)
  (F : ∀ base : Heap, K.In base → base.Ns mainGlobals mg → FnOk P w K mg base CX k fa fd [x] sp) (hbind : ∀ (s : Shared) (u : Value), BindsTo s fd ⟨[u], []⟩ [(x, u)])
  (hsp : ∀ H : Hp, U6 H → SqL K H a (ns.map V.int) → sp [.ref a] H (fun v _ => v = .bl true) fun _ _ _ => False)
  (hCX : ∀ H e s', CX [] H s₁ (fun _ _ _ => False) e s' → False) :
  codeAny (model P w) callerA (.call (.ref fa) ⟨[.ref a], []⟩) (fun r s' => r = .ok (.ret (.bool true)) ∧ OldK s₁.heap s'.heap ∧ s'.os = s₁.os ∧ AllBare s'.gens) s₁ := by
 have rv := aD hi
 have lenV := hi.length
 have core : ∀ H : Hp, U6 H → SqL K H a (ns.map V.int) → HOk P w H s₁.heap → (∀ b, H b ≠ none → b = a) → (H a ≠ none → K.lookup a = none) →
   codeAny (model P w) callerA (.call (.ref fa) ⟨[.ref a], []⟩) (fun r s' => r = .ok (.ret (.bool true)) ∧ OldK s₁.heap s'.heap ∧ s'.os = s₁.os ∧ AllBare s'.gens) s₁ := by
  intro H hO hS hok hA hK
  have base_of : ∀ {b : Addr} {o : Obj}, s₁.heap.get? b = some o → H b = none → (u6 s₁.heap H).get? b = some o := fun e n => gU e n
  have noA : ∀ {b : Addr} {o : Obj} {es : Array DictEntry} {ep : Nat}, s₁.heap.get? b = some o → o.data = .dict es ep → H b = none := fun {b o es ep} e d => by
   cases q : H b with
   | none => rfl
   | some u =>
    have e' : b = a := hA b (by rw [q]; simp)
    subst e'
    rw [ha] at e; cases e
    have d' : Data.seq vs.toArray _ = Data.dict es ep := d
    cases d'
  have nsK : ∀ {b : Addr} {m : Str → Option Value}, s₁.heap.Ns b m → (u6 s₁.heap H).Ns b m := fun {b m} ⟨o, es, ep, e, d, r⟩ => ⟨o, es, ep, base_of e (noA e d), d, r⟩
  have hKb : K.In (u6 s₁.heap H) := fun b o e => base_of (KX b o e) (by
   cases q : H b with
   | none => rfl
   | some u =>
    have e' : b = a := hA b (by rw [q]; simp)
    subst e'
    rw [hK (by rw [q]; simp)] at e; cases e)
  have hM : Mod K mg (u6 s₁.heap H) := ⟨hKb, nsK hns, ⟨mb, nsK hb, hbb⟩, let ⟨mc, h1, h2⟩ := hlim; ⟨mc, nsK h1, h2⟩⟩
  have e0 : Env0 P w K mg (u6 s₁.heap H) callerA [] s₁ H := ⟨rfl, hM, fun b o e => ej e, Nat.le_of_eq (iZ _ _), trivial, fun b hb => absurd (show b ∈ ([] : List Addr) from hb) (by simp), hok, .of_eq hg⟩
  refine codeAny_mono ((F _ hKb (nsK hns)).run callerA [] s₁ H ⟨[.ref a], []⟩ [.ref a] [.ref a] _ _ hr e0 (hbind s₁ (.ref a)) (.cons rfl .nil) (hsp H hO hS)) fun r s' h => ?_
  cases r with
  | error e => exact (hCX H e s' h).elim
  | ok fl =>
   cases fl with
   | next => exact False.elim h
   | brk => exact False.elim h
   | cont => exact False.elim h
   | ret u =>
    obtain ⟨v, H', os, bare, un, hok', r', q⟩ := h
    have q' : v = .bl true := q
    subst q'
    obtain rfl : u = Value.bool true := r'
    refine ⟨rfl, OldK.of_keep fun b o e => ?_, os, bare⟩
    cases q : H b with
    | none => exact un.keep b o e q (by intro z; exact absurd (show b ∈ ([] : List Addr) from z) (by simp)) (by simp)
    | some u =>
     rcases hO b with z | ⟨ob, xs, z⟩
     ·rw [q] at z; cases z
     ·have z2 := un.frzs b ob _ z
      obtain ⟨e1, _⟩ := hok b _ z
      obtain ⟨e2, _⟩ := hok' b _ z2
      rw [e] at e1; cases e1
      exact e2
 cases hk : K.lookup a with
 | some o =>
  have e := KX a o hk
  rw [ha] at e
  cases e
  refine core (fun _ => none) (fun _ => .inl rfl) (.inr ⟨_, vs.toArray, _, hk, rfl, rfl, rfl, by rw [List.size_toArray, lenV]; exact hl, by simpa using rv⟩) (fun b u z => by have z' : (none : Option HO) = some u := z; cases z') (fun b z => absurd rfl z) fun z => absurd rfl z
 | none =>
  refine core (fun b => if b = a then some (.frz { cls := .type "list", data := .seq vs.toArray } (.lst (ns.map V.int))) else none) (fun b => ?_) (.inl (.inr ⟨{ cls := .type "list", data := .seq vs.toArray }, if_pos rfl⟩)) (fun b u z => ?_) (fun b z => ?_) fun _ => hk
  ·by_cases hb : b = a
   ·exact .inr ⟨_, _, if_pos hb⟩
   ·exact .inl (if_neg hb)
  ·by_cases hb : b = a
   ·have z' := (if_pos hb).symm.trans z
    cases z'
    subst hb
    exact ⟨ha, by rw [List.length_map]; exact hl, vs, _, rv, ha⟩
   ·have z' := (if_neg hb).symm.trans z
    cases z'
  ·by_cases hb : b = a
   ·exact hb
   ·exact absurd (if_neg hb) z
theorem walk_of {l : PySem.W.OpenLaw} {n k : Nat} {q : Program} {loose : List Str} {XP : (Str → Option Value) → Heap → Prop} {YP : World → Heap → Prop} {d : DefRec} {K : Params → PySem.W.Frag} {CX : World → n6} {sp : World → Sp} {x : Str}
  (hn : l.most = some n) (hn2 : n ≤ sizeLine) (hdf : d.params.defaults = []) (hr : Room k callerA)
  (hY : ∀ (w : World) (h : Heap), YP w h → (K w.params).In h)
  (F : ∀ (w : World) (mg : Str → Option Value) (fa : Addr) (h : Heap), (K w.params).In h → h.Ns mainGlobals mg → mg d.name = some (.ref fa) →
   ∃ fd : FuncData, (∀ (s : Shared) (u : Value), BindsTo s fd ⟨[u], []⟩ [(x, u)]) ∧
    ∀ base : Heap, (K w.params).In base → base.Ns mainGlobals mg → FnOk l.prog w (K w.params) mg base (CX w) k fa fd [x] (sp w))
  (hsp : ∀ (w : World) (H : Hp) (a : Addr) (ns : List Int), ns.length ≤ n → U6 H → SqL (K w.params) H a (ns.map V.int) → sp w [.ref a] H (fun v _ => v = .bl true) fun _ _ _ => False)
  (hCX : ∀ (w : World) (H : Hp) (s : Shared) (e : Value) (s' : Shared), CX w [] H s (fun _ _ _ => False) e s' → False) :
  PySem.W.WalkO q loose XP YP l.row.toRowW d [] (fun f vs => PySem.call f vs) := by
 refine Att.attach_call hn hdf fun w s₀ s₁ mg mb fa o pm cd doc a vs ns G Y ho hd hcd hmg hobj hints hlen hg => ?_
 have KX := hY w _ Y
 obtain ⟨fd, hb, hF⟩ := F w mg fa _ KX G.T.g hmg
 exact hR KX G.T.g G.T.b G.T.builtins G.T.nolimit hg hobj hints (Nat.le_trans hlen hn2) hr hF hb (fun H hO hS => hsp w H a ns hlen hO hS) fun H e s' => hCX w H s₁ e s'
noncomputable def w9 (s : Stmt) : Arguments := match s with
 | .FunctionDef _ a _ _ _ _ _ _ _ _ => a
 | _ => { posonlyargs := [], args := [], vararg := none, kwonlyargs := [], kw_defaults := [], kwarg := none, defaults := [] }
noncomputable def m8 (s : Stmt) : List Stmt := match s with
 | .FunctionDef _ _ b _ _ _ _ _ _ _ => b
 | _ => []
noncomputable def e6 (s : Stmt) : Scope := match s with
 | .FunctionDef _ _ _ _ _ _ sc _ _ _ => sc
 | _ => { kind := .function, names := [], isGenerator := false, isCoroutine := false }
noncomputable abbrev p0 : n6 := fun _ _ _ _ _ _ => False
noncomputable abbrev E0 : XK := fun _ _ _ => False
theorem et {X : Cx} : Q8 p0 X E0 := fun _ _ _ _ _ _ _ h => h.elim
structure Fun (K : PySem.W.Frag) (x qual : Str) (st : Stmt) (f : Addr) (fd : FuncData) : Prop where
 ex : ∃ (oc : Value) (od : Option Addr) (kV doc pm : Value) (an : Option Addr) (cdv ct : Value) (osl : Array (Option Value)),
  fd = PySem.W.fnOf x qual (w9 st) (m8 st) (e6 st) .none kV doc pm an cdv ct ∧ K.lookup f = some ⟨oc, od, .func fd, osl⟩ ∧ PySem.W.codeIn K cdv qual = true
 kp : PySem.W.keepIn K (.ref f) = true
section
variable {P : Program} {w : World} {K : PySem.W.Frag} {mg : Str → Option Value} {base : Heap}
theorem Fun.ok {x qual : Str} {st : Stmt} {f : Addr} {fd : FuncData} {N ps : List Str} {k : Nat} {sp : Sp} (F : Fun K x qual st f fd) (S : FnScope N ps (e6 st)) (len : ∀ vs H Q E, sp vs H Q E → vs.length = ps.length)
  (hbody : ∀ (cdv : Value) (A : Around) (outer : List Env) (s : Shared) (H : Hp) (vs : List V) (Q : VK) (E : XK), Room k (A.deeper (envOfC qual (e6 st) s.heap.objs.size f cdv)) → sp vs H Q E →
   ∃ t, PSs (t7 p0 P w K mg base N qual (e6 st) f cdv A outer s H E).nox (m8 st) t ∧ t { nx := fun _ H' => Q .non H', rt := Q } (start N vs) H) : FnOk P w K mg base p0 (k + 1) f fd ps sp := by
 obtain ⟨oc, od, kV, doc, pm, an, cdv, ct, osl, rfl, lk, hcd⟩ := F.ex
 refine fR lk hcd S len fun A outer s H vs Q E hr hsp => ?_
 obtain ⟨t, h, q⟩ := hbody cdv A outer s H vs Q E hr hsp
 exact ⟨t, h.nox, q⟩
theorem Fun.binds {x qual : Str} {st : Stmt} {f : Addr} {fd : FuncData} {ps : List Str} (F : Fun K x qual st f fd)
  (h : ∀ (kV doc pm : Value) (an : Option Addr) (cdv ct : Value) (us : List Value), us.length = ps.length → bindArgs (PySem.W.fnOf x qual (w9 st) (m8 st) (e6 st) .none kV doc pm an cdv ct) ⟨us, []⟩ = pure (ps.zip us)) : Binds K fd ps [] := by
 obtain ⟨oc, od, kV, doc, pm, an, cdv, ct, osl, rfl, lk, hcd⟩ := F.ex
 exact .all (h kV doc pm an cdv ct)
theorem dH {x qual : Str} {st : Stmt} {f : Addr} {oc : Value} {od an : Option Addr} {osl : Array (Option Value)} {kV doc pm cdv ct : Value} (l : K.lookup f = some ⟨oc, od, .func (PySem.W.fnOf x qual (w9 st) (m8 st) (e6 st) .none kV doc pm an cdv ct), osl⟩)
  (c : PySem.W.codeIn K cdv qual = true) (k : PySem.W.keepIn K (.ref f) = true) : Fun K x qual st f (PySem.W.fnOf x qual (w9 st) (m8 st) (e6 st) .none kV doc pm an cdv ct) := ⟨⟨oc, od, kV, doc, pm, an, cdv, ct, osl, rfl, l, c⟩, k⟩
end
theorem aa {A : Around} {k : Nat} (hr : Room k A) : A.units + 1 < cLine := Nat.lt_of_le_of_lt (Nat.add_le_add_left (by decide : 1 ≤ 64) _) hr.units
section
variable {X : Cx}
theorem pv (i : Nat) {x : Str} {pos : Pos} (hN : X.N[i]? = some x := by rfl) (hv : S5 X.env.scope x := by first | exact Or.inl rfl | exact Or.inr (Or.inl rfl) | exact Or.inr (Or.inr rfl)) (hd : (x == ("__debug__" : Str)) = false := by decide)
  (hcd : (x == ("__classdict__" : Str)) = false := by decide) : PE X (.Name x pos) (w6 i) := cL hN hv hd hcd
end
theorem dk {A B : Prop} (h : B) : if false = true then A else B := by
 rw [if_neg Bool.false_ne_true]
 exact h
theorem iX {A B : Prop} (h : A) : if true = true then A else B := by
 rw [if_pos rfl]
 exact h
noncomputable def i0 (X : Cx) (N' : List Str) (scope : Scope) (cl : List (Str × Addr)) (C : Addr) (s0 : Shared) (H0 : Hp) (ex : List Addr) : Cx :=
 { X with N := N', env := compEnvC scope cl C X.env, s₀ := s0, H₀ := H0, outer := X.stack, stack := X.stack, ex := ex, fn := fun _ => false, pn := [], xe := fun _ _ => False }
noncomputable def M9 (X : Cx) (ifs : List Expr) (t : TT) : Prop :=
 ∀ (pins : List (Addr × Obj)) (s : Shared) (σ : St) (H : Hp) (Q : Bool → Hp → Prop), Inv X pins σ H s → t σ H Q →
  wpAny (model X.prog X.w) X.A (forIn ifs true fun c r => if r = true then do let ok ← isTrue c X.env (eval c X.env); pure (ForInStep.yield ok) else pure (ForInStep.yield r)) (TP X pins σ Q) X.xe s
noncomputable def gr : TT := fun _ H Q => Q true H
theorem cP {X : Cx} : M9 X [] gr := fun pins s σ H Q I h => wpAny_tests_nil ⟨H, I, h⟩
noncomputable def i5 (n : Nat) (idx : List Nat) (σ : St) : St := List.replicate n none ++ idx.map fun i => (σ[i]?).join
noncomputable def K3 (n : Nat) (idx : List Nat) (wi : TI) (g : TG) (tc : TT) (te : TE) : TE := fun σ H Q => wi σ H fun J H1 => ∀ D, H1 D = none →
 ∃ W : Nat → Nat → Hp → Prop, (∃ m, W 0 m (a7 H1 D (.lst []))) ∧ ∀ i m H, W i m H →
  (J.stop i H ∧ Q (.ref D) H) ∨ (J.go i H ∧ ∀ x H', J.yld i H x H' → g x (i5 n idx σ) H' fun σ2 H2 => (σ2.length = (i5 n idx σ).length ∧ ∀ (j : Nat) (v : V), (i5 n idx σ)[j]? = some (some v) → σ2[j]? = some (some v)) ∧ tc σ2 H2 fun b H3 =>
   if b = true then te σ2 H3 fun v H4 => ∃ ys, H4 D = some (.lst ys) ∧ ys.length < sizeLine ∧ ∃ m', m' < m ∧ W (i + 1) m' (a7 H4 D (.lst (ys ++ [v]))) else ∃ m', m' < m ∧ W (i + 1) m' H3)
structure CompOk (X : Cx) (scope : Scope) (cl : List (Str × Addr)) (N' : List Str) (n : Nat) (idx : List Nat) : Prop where
 clos : closureFor scope X.env = pure cl
 sub : ∀ x c, cl.lookup x = some c → X.env.cells.lookup x = some c
 cell : ∀ y ∈ scope.names, y.2 ≠ .cell
 kind : scope.kind = .function
 names : ∀ y ∈ scope.names, y.2 = .local → scope.names.lookup y.1 = some .local
 has : ∀ x, ((relabel scope X.env).names.lookup x = some .cell ∨ (relabel scope X.env).names.lookup x = some .free) → ∃ c, cl.lookup x = some c
 len : N'.length = n + idx.length
 cap : ∀ (j i : Nat) (y : Str), idx[j]? = some i → N'[n + j]? = some y → X.N[i]? = some y ∧ (X.env.scope.names.lookup y = some .cell ∨ X.env.scope.names.lookup y = some .free) ∧ ((relabel scope X.env).names.lookup y = some .cell ∨ (relabel scope X.env).names.lookup y = some .free)
section
variable {X : Cx} {scope : Scope} {cl : List (Str × Addr)} {N' : List Str} {n : Nat} {idx : List Nat} {tg iter elt : Expr} {ifs : List Expr} {pos : Pos} {wi : TI} {g : TG} {tc : TT} {te : TE}
theorem iC (σ : St) : (i5 n idx σ).length = n + idx.length := by simp [i5]
theorem cH {σ : St} {j : Nat} {v : V} (h : (i5 n idx σ)[j]? = some (some v)) : ∃ k i, j = n + k ∧ idx[k]? = some i ∧ σ[i]? = some (some v) := by
 unfold i5 at h
 by_cases hj : j < n
 ·rw [List.getElem?_append_left (by simpa using hj)] at h
  simp [hj] at h
 ·rw [List.getElem?_append_right (by simpa using Nat.le_of_not_lt hj)] at h
  simp only [List.length_replicate, List.getElem?_map] at h
  refine ⟨j - n, ?_⟩
  cases e : idx[j - n]? with
  | none => rw [e] at h; simp at h
  | some i =>
   rw [e] at h
   simp only [Option.map_some, Option.some.injEq] at h
   exact ⟨i, by omega, rfl, by simpa using Option.join_eq_some_iff.mp h⟩
theorem bO (k : CompOk X scope cl N' n idx) {pins : List (Addr × Obj)} {s2 : Shared} {σ : St} {H2 : Hp} {fp : List Addr} {C : Addr} {h4 : Heap} {t4 : Nat} {m : Str → Option Value} (I : Inv X pins σ H2 s2) (f : ∀ b ∈ fp, u5 X pins H2 b) (fo : ∀ b ∈ fp, b < s2.heap.objs.size)
  (hC : s2.heap.objs.size + 1 ≤ C) (ns : h4.Ns C m) (keep : ∀ b o, s2.heap.get? b = some o → h4.get? b = some o) (hD : h4.get? s2.heap.objs.size = some { cls := .type "list", data := .seq ([] : List Value).toArray }) :
  Inv (i0 X N' scope cl C s2 H2 fp) [] (i5 n idx σ) (a7 H2 s2.heap.objs.size (.lst [])) { s2 with heap := h4, toks := t4 } := by
 have fresh : H2 s2.heap.objs.size = none := I.hok.fresh (Nat.le_refl _)
 have fC : H2 C = none := I.hok.fresh (by omega)
 have cellsub : ∀ x c, (i0 X N' scope cl C s2 H2 fp).env.cells.lookup x = some c → X.env.cells.lookup x = some c := fun x c e => k.sub x c e
 have cellLt : ∀ x c, X.env.cells.lookup x = some c → c < s2.heap.objs.size := fun x c e => by
  obtain ⟨v, q⟩ := I.cell x c e
  exact q.lt
 have ok : (i0 X N' scope cl C s2 H2 fp).Ok := {
  mod := I.ok.mod
  kind := k.kind
  glob := I.ok.glob
  blt := I.ok.blt
  above := by show s2.heap.objs.size ≤ C; omega
  inj := fun x y c e1 e2 => I.ok.inj x y c (cellsub x c e1) (cellsub y c e2)
  has := fun x h => k.has x h
  cab := fun x c h _ => by cases h
  hd := I.ok.hd
  frames := I.ok.frames
  stk := .inl rfl
  exf := fun b hb => ⟨Nat.ne_of_lt (Nat.lt_of_lt_of_le (fo b hb) (by show s2.heap.objs.size ≤ C; omega)), fun x c e z => (f b hb).2.2.2.2.1 x c (cellsub x c e) z⟩
  bs := fun b o e => I.bs b o e
  bsz := Nat.le_trans I.ok.bsz I.sz
  noex := fun b o e hb => by
   rcases (f b hb).2.2.2.1 with z | z
   ·exact I.ok.noex b o e z
   ·exact absurd (Nat.lt_of_lt_of_le (Heap.lt_size e) (Nat.le_trans I.ok.bsz z)) (Nat.lt_irrefl _)
  exfs := fun b hb z => by
   rcases List.mem_cons.mp (I.stkSub b z) with y | y
   ·exact (f b hb).2.1 y
   ·exact (f b hb).2.2.1 y
  funs := I.stack
  frf := I.stkFree }
 refine ⟨ok, rfl, I.bare, Un.laid keep (Nat.le_refl _) fresh, ⟨m, ns, fun j y v e1 e2 e3 => ?_⟩, fun x c e => ?_, ?_, fun x c e => ?_, fun p hp => (by cases hp), I.hok.laid keep (Nat.le_refl _) ⟨Nat.zero_le _, [], _, .nil, hD⟩, ?_⟩
 ·obtain ⟨kk, i, rfl, hk, hv⟩ := cH e2
  obtain ⟨hN, ok, hkind⟩ := k.cap kk i y hk e1
  obtain ⟨c, hc⟩ := k.has y hkind
  obtain ⟨m0, _, hl⟩ := I.loc
  have hc' := k.sub y c hc
  obtain ⟨u, r, l⟩ := hl i y v hN hv (by rcases ok with z | z; exact .inr (.inl z); exact .inr (.inr z))
  refine ⟨u, r, .inr ⟨hkind, c, hc, ?_⟩⟩
  rcases l with ⟨z, _⟩ | ⟨_, c', e', q⟩
  ·have z' : X.env.scope.names.lookup y = some .local := z
   rcases ok with w | w <;> · rw [w] at z'; cases z'
  ·rw [hc'] at e'; cases e'
   obtain ⟨o, ho, hd⟩ := q
   exact ⟨o, keep _ o ho, hd⟩
 ·obtain ⟨v, q⟩ := I.cell x c (cellsub x c e)
  obtain ⟨o, ho, hd⟩ := q
  exact ⟨v, o, keep c o ho, hd⟩
 ·show a7 H2 s2.heap.objs.size (.lst []) C = none
  rw [a8 (Nat.ne_of_gt hC)]; exact fC
 ·have := cellLt x c (cellsub x c e)
  rw [a8 (Nat.ne_of_lt this)]
  exact I.freeC x c (cellsub x c e)
 ·rw [iC, ← k.len]; rfl
theorem dM {prog : Program} {w : World} {A : Around} {R : Result → Shared → Prop} {s : Shared} {elt target iter : Expr} {ifs : List Expr} {scope : Scope} {pos : Pos} {it acc : Value} {env : Env} (I : Nat → Shared → Prop)
  (turn : ∀ n s, I n s → wpAny (model prog w) A (pyNext it) (fun r s1 => match r with
   | none => R (.ok .next) s1
   | some v => wpAny (model prog w) A (letOwnedTupleGo target it v) (fun _ s1' => wpAny (model prog w) A (assign target env v) (fun _ s2 =>
     wpAny (model prog w) A (forIn ifs true fun c r => if r = true then do let ok ← isTrue c env (eval c env); pure (ForInStep.yield ok) else pure (ForInStep.yield r)) (fun ok s3 =>
      if ok = true then wpAny (model prog w) A (eval elt env) (fun x s4 =>
       wpAny (model prog w) A (call (.builtin "list.append") [acc, x]) (fun _ s5 => ∃ m, m < n ∧ I m s5) (notedBy (model prog w) A env fun e s' => R (.error e) s') s4) (notedBy (model prog w) A env fun e s' => R (.error e) s') s3
      else ∃ m, m < n ∧ I m s3) (notedBy (model prog w) A env fun e s' => R (.error e) s') s2) (notedBy (model prog w) A env fun e s' => R (.error e) s') s1') (notedBy (model prog w) A env fun e s' => R (.error e) s') s1) (notedBy (model prog w) A env fun e s' => R (.error e) s') s)
  (n : Nat) (h : I n s) :
  codeAny (model prog w) A (.compLoop (.ListComp elt [⟨target, iter, ifs, 0⟩] scope pos) 0 it acc env) R s := by
 refine codeAny_loop rfl I (fun n s hI => ?_) n h
 show wpAny _ A ((compTurn (.ListComp elt [⟨target, iter, ifs, 0⟩] scope pos) 0 it acc env).onRaise (fun x => do noteFrame x env; theTreesLotGoes x)) _ _ s
 refine wpAny_noted ?_
 rw [compTurn_list]
 refine wpAny_bind (wpAny_standAt (wpAny_bind (wpAny_mono (turn n s hI) (fun r s₁ h₁ => ?_) fun _ _ h' => h')))
 cases r with
 | none => exact wpAny_pure h₁
 | some v =>
  refine wpAny_bind (wpAny_mono h₁ (fun _ s1' h1' => ?_) fun _ _ h' => h')
  refine wpAny_bind (wpAny_mono h1' (fun _ s₂ h₂ => wpAny_bind (wpAny_mono h₂ (fun ok s₃ h₃ => ?_) fun _ _ h' => h')) fun _ _ h' => h')
  cases ok with
  | false => exact wpAny_pure ⟨rfl, h₃⟩
  | true =>
   exact wpAny_bind (wpAny_bind (wpAny_mono h₃ (fun x s₄ h₄ => wpAny_bind (wpAny_mono h₄ (fun _ s₅ h₅ => wpAny_pure (wpAny_pure ⟨rfl, h₅⟩)) fun _ _ h' => h')) fun _ _ h' => h'))
end
section
variable {X : Cx} {scope : Scope} {cl : List (Str × Addr)} {N' : List Str} {n : Nat} {idx : List Nat} {tg iter elt : Expr} {ifs : List Expr} {pos : Pos} {wi : TI} {g : TG} {tc : TT} {te : TE}
theorem gq {use : Option (Value → Sem Unit)} {Q' : Value → Shared → Prop} {pos2 : Pos} (hc : X.calm = true) (k : CompOk X scope cl N' n idx) (hi : PI X tg iter wi)
  (hg : ∀ C s0 H0 ex, PG (i0 X N' scope cl C s0 H0 ex) tg g) (ht : ∀ C s0 H0 ex, M9 (i0 X N' scope cl C s0 H0 ex) ifs tc) (he : ∀ C s0 H0 ex, PE (i0 X N' scope cl C s0 H0 ex) elt te)
  (hs : ∀ x, foldedSetIterable iter X.env x = pure x) {pins : List (Addr × Obj)} {s : Shared} {σ : St} {H : Hp} {Q : VK} (I0 : Inv X pins σ H s) (h : K3 n idx wi g tc te σ H Q)
  (last : ∀ (C D : Addr) (s' : Shared) (H' : Hp) (m : Str → Option Value), Inv X pins σ H' s' → u5 X pins H' C → s'.heap.Ns C m → Q (.ref D) H' → compPost (model X.prog X.w) X.A X.xe use Q' (.ref D) C (.ok .next) s') :
  wpAny (model X.prog X.w) X.A (comprehension (.ListComp elt [⟨tg, iter, ifs, 0⟩] scope pos) scope X.env pos2 (newList []) false (eval iter X.env) use) Q' X.xe s := by
 refine wpAny_comprehension_free (use := use) rfl hs k.clos k.kind k.names (b0 (hi pins s σ H _ I0 h) fun v s1 h1 => b0 h1 fun itv s2 h2 => ?_)
 obtain ⟨it, fp, tn, J, H2, e, I2, T, st2, f2, hW⟩ := h2
 subst e
 have fo2 : ∀ b ∈ fp, b < s2.heap.objs.size := fun b hb => by
  obtain ⟨o, e, _⟩ := T.obj _ _ st2 b hb
  exact Heap.lt_size e
 obtain ⟨W, ⟨m0, w0⟩, turn⟩ := hW s2.heap.objs.size (I2.hok.fresh (Nat.le_refl _))
 refine wpAny_newObj_type (wpAny_newFunctionEnv k.cell (by intro y hy; simp at hy) (fun h4 hns4 hsb4 => ?_) k.kind)
 dsimp only at hns4 hsb4 ⊢
 generalize hH3 : s2.heap.push { cls := .type "list", dict := none, data := .seq ([] : List Value).toArray } = h3 at hns4 hsb4 ⊢
 have hCe : h3.objs.size = s2.heap.objs.size + 1 := by rw [← hH3, Heap.size_push]
 have k34 : ∀ b o, b ≠ h3.objs.size → h3.get? b = some o → h4.get? b = some o := fun b o nb e => hsb4.extBut b o nb (Heap.get?_push_of_some _ e)
 have keep : ∀ b o, s2.heap.get? b = some o → h4.get? b = some o := fun b o e => k34 b o (Nat.ne_of_lt (by rw [hCe]; exact Nat.lt_succ_of_lt (Heap.lt_size e))) (by rw [← hH3]; exact Heap.get?_push_of_some _ e)
 have hD : h4.get? s2.heap.objs.size = some { cls := .type "list", data := .seq ([] : List Value).toArray } := k34 _ _ (Nat.ne_of_lt (by rw [hCe]; exact Nat.lt_succ_self _)) (by rw [← hH3]; exact Heap.get?_push_size _ rfl)
 have I4 := bO k I2 f2 fo2 (Nat.le_of_eq hCe.symm) hns4 keep hD (t4 := s2.toks + ([] : List (Str × Value)).length)
 have stat : ∀ {H' : Hp}, (∀ b ∈ fp, H' b = none) → ∀ b ∈ fp, u5 (i0 X N' scope cl h3.objs.size s2 H2 fp) [] H' b := fun hn b hb =>
  ⟨hn b hb, Nat.ne_of_lt (by rw [hCe]; exact Nat.lt_succ_of_lt (fo2 b hb)), fun z => (List.mem_cons.mp (I2.stkSub b z)).elim (f2 b hb).2.1 (f2 b hb).2.2.1, .inl hb, fun x c e => (f2 b hb).2.2.2.2.1 x c (k.sub x c e), fun p hp => (by cases hp)⟩
 have fr4 : ∀ b ∈ fp, a7 H2 s2.heap.objs.size (.lst []) b = none := fun b hb => by rw [a8 (Nat.ne_of_lt (fo2 b hb))]; exact (f2 b hb).1
 have fin : ∀ (s' : Shared) (H' : Hp), Inv (i0 X N' scope cl h3.objs.size s2 H2 fp) [] (i5 n idx σ) H' s' → Q (.ref s2.heap.objs.size) H' →
   compPost (model X.prog X.w) X.A X.xe use Q' (.ref s2.heap.objs.size) h3.objs.size (.ok .next) s' := fun s' H' I' q => by
  obtain ⟨m', hn', _⟩ := I'.loc
  have B := I'.base
  refine last _ _ s' H' m' ?_ (I2.fpOk (by rw [hCe]; exact Nat.le_succ _) I'.free) hn' q
  refine I2.call' (s' := s') (ch := fp) (show s'.os = s2.os from I'.os) ⟨fun b o e nn hb hx => B.keep b o e nn hb hx, fun b o e nn hb hx => B.slot b o e nn hb hx, B.free, fun b o e hx => B.there b o e hx, B.tups, B.frzs, B.tbls⟩ I'.hok I'.bare fun b hb => ?_
  obtain ⟨p1, p2, p3, p4, p5, p6⟩ := f2 b hb
  exact ⟨p4, p2, p5, p6⟩
 have loop : ∀ s4 : Shared, s4 = { s2 with heap := h4, toks := s2.toks + ([] : List (Str × Value)).length } →
   codeAny (model X.prog X.w) X.A (.compLoop (.ListComp elt [⟨tg, iter, ifs, 0⟩] scope pos) 0 (.ref it) (.ref s2.heap.objs.size) (compEnvC scope cl h3.objs.size X.env)) (compPost (model X.prog X.w) X.A X.xe use Q' (.ref s2.heap.objs.size) h3.objs.size) s4 := by
  rintro s4 rfl
  refine dM (fun m s' => ∃ i H', Inv (i0 X N' scope cl h3.objs.size s2 H2 fp) [] (i5 n idx σ) H' s' ∧ tn i s'.heap ∧ (∀ b ∈ fp, H' b = none) ∧ W i m H') ?_ m0 ⟨0, _, I4, T.keep _ _ _ st2 (fun b _ o e => keep b o e), fr4, w0⟩
  rintro m s3 ⟨i, H3, I3, st3, fr3, w3⟩
  rcases turn i m H3 w3 with ⟨stop, q⟩ | ⟨go, step⟩
  ·refine wpAny_mono (T.done (i0 X N' scope cl h3.objs.size s2 H2 fp) rfl rfl rfl hc i [] s3 _ H3 (fun _ _ => False) I3 (stat fr3) st3 stop) (fun r s5 ⟨hr, I5⟩ => ?_) fun _ _ z => z.elim
   subst hr
   exact fin s5 H3 I5 q
  ·refine wpAny_mono (T.item (i0 X N' scope cl h3.objs.size s2 H2 fp) rfl rfl rfl hc i [] s3 _ H3 (fun _ _ => False) I3 (stat fr3) st3 go) (fun r s5 ⟨u, hr, h5⟩ => ?_) fun _ _ z => z.elim
   subst hr
   refine wpAny_mono h5 (fun _ s6 ⟨x, H6, I6, r6, y6, st6, fr6⟩ => ?_) fun _ _ z => z.elim
   have I6' := I6.pinned (stat fr6) (T.obj _ _ st6)
   have again : ∀ {σ7 : St} {H7 : Hp} {s7 : Shared}, Inv (i0 X N' scope cl h3.objs.size s2 H2 fp) ([] ++ G5 fp s6.heap) σ7 H7 s7 → σ7.length = (i5 n idx σ).length → (∀ (j : Nat) v, (i5 n idx σ)[j]? = some (some v) → σ7[j]? = some (some v)) → (∃ m', m' < m ∧ W (i + 1) m' H7) →
     ∃ m', m' < m ∧ ∃ i H', Inv (i0 X N' scope cl h3.objs.size s2 H2 fp) [] (i5 n idx σ) H' s7 ∧ tn i s7.heap ∧ (∀ b ∈ fp, H' b = none) ∧ W i m' H' := fun {σ7 H7 s7} I7 hl hw ⟨m', hm, w7⟩ => by
    refine ⟨m', hm, i + 1, H7, (I7.unpinned).weak hl.symm hw, T.keep _ _ _ st6 fun b hb o e => (I7.pin (b, o) (List.mem_append_right _ (List.mem_append_right _ (N3 hb e)))).1, fun b hb => ?_, w7⟩
    obtain ⟨o, e, d⟩ := T.obj _ _ st6 b hb
    exact (I7.pin (b, o) (List.mem_append_right _ (List.mem_append_right _ (N3 hb e)))).2.1
   refine wpAny_mono (hg _ _ _ _ _ s6 _ H6 x u _ I6' r6 (step x H6 y6)) (fun _ s7 ⟨σ7, H7, I7, ⟨hl, hw⟩, q7⟩ => ?_) fun _ _ z => z.elim
   refine wpAny_mono (ht _ _ _ _ _ s7 σ7 H7 _ I7 q7) (fun ok s8 ⟨H8, I8, q8⟩ => ?_) fun _ _ z => z.elim
   cases ok with
   | false =>
    rw [if_neg Bool.false_ne_true] at q8 ⊢
    exact again I8 hl hw q8
   | true =>
    rw [if_pos rfl] at q8 ⊢
    refine wpAny_mono (he _ _ _ _ _ s8 σ7 H8 _ I8 q8) (fun v9 s9 ⟨x9, H9, I9, r9, ys, e9, l9, q9⟩ => ?_) fun _ _ z => z.elim
    refine wpAny_mono (aG (X := i0 X N' scope cl h3.objs.size s2 H2 fp) _ s9 σ7 H9 (.ref s2.heap.objs.size) [x9] (.ref s2.heap.objs.size) [v9] (fun _ H' => H' = a7 H9 s2.heap.objs.size (.lst (ys ++ [x9]))) I9 rfl (.cons r9 .nil) ⟨s2.heap.objs.size, ys, x9, rfl, rfl, e9, l9, rfl⟩) (fun _ s10 ⟨_, H10, I10, _, e10⟩ => ?_) fun _ _ z => z.elim
    subst e10
    exact again I10 hl hw q9
 exact codeAny_compStart_list (loop _ rfl) (T.self _ 0 _ _ _ (T.keep _ _ _ st2 (fun b _ o e => keep b o e)) (loop _ rfl))
theorem ji (hc : X.calm = true) (k : CompOk X scope cl N' n idx) (hi : PI X tg iter wi)
  (hg : ∀ C s0 H0 ex, PG (i0 X N' scope cl C s0 H0 ex) tg g) (ht : ∀ C s0 H0 ex, M9 (i0 X N' scope cl C s0 H0 ex) ifs tc) (he : ∀ C s0 H0 ex, PE (i0 X N' scope cl C s0 H0 ex) elt te)
  (hs : ∀ x, foldedSetIterable iter X.env x = pure x := by intro _; rfl) : PE X (.ListComp elt [⟨tg, iter, ifs, 0⟩] scope pos) (K3 n idx wi g tc te) := by
 intro pins s σ H Q I0 h
 rw [eval_ListComp]
 refine gq (use := none) (Q' := EP X pins σ Q) hc k hi hg ht he hs I0 h ?_
 intro C D' s' H' m IX fC hn q
 exact ⟨m, hn, fun h' hsb => ⟨.ref D', H', IX.turned (t' := s'.toks) (it := C) (h' := h') (fun b o nb e => (hsb.2 b nb).trans e) fC.1 fC.2.1 fC.2.2.2.1 fC.2.2.2.2.1 fC.2.2.2.2.2, rfl, q⟩⟩
end
end L2
namespace DL
open PySem PySem.Spec L2
theorem d8 {α β γ : Type} {o : Option (α × β)} {f : α × β → Option γ} {r : γ} {G : Prop} (h : o.bind f = some r) (k : ∀ x y, o = some (x, y) → f (x, y) = some r → G) : G := by
 obtain ⟨⟨x, y⟩, a, b⟩ := Option.bind_eq_some_iff.mp h
 exact k x y a b
theorem F0 {α γ : Type} {o : Option α} {f : α → Option γ} {r : γ} {G : Prop} (h : o.bind f = some r) (k : ∀ x, o = some x → f x = some r → G) : G := by
 obtain ⟨x, a, b⟩ := Option.bind_eq_some_iff.mp h
 exact k x a b
theorem mapP {α β γ : Type} {o : Option (α × β)} {f : α × β → γ} {r : γ} {G : Prop} (h : o.map f = some r) (k : ∀ x y, o = some (x, y) → f (x, y) = r → G) : G := by
 obtain ⟨⟨x, y⟩, a, b⟩ := Option.map_eq_some_iff.mp h
 exact k x y a b
theorem v3 {α γ : Type} {o : Option α} {f : α → γ} {r : γ} {G : Prop} (h : o.map f = some r) (k : ∀ x, o = some x → f x = r → G) : G := by
 obtain ⟨x, a, b⟩ := Option.map_eq_some_iff.mp h
 exact k x a b
inductive D where
 | non | bl (b : Bool) | int (i : Int) | str (x : Str) | tup (ds : List D) | lst (ds : List D)
 | feed | scr (ns : List Int) | fn (x : Str) | exc (c : Str) (ds : List D)
mutual
noncomputable def D.py : D → PyData
 | .non => .none
 | .bl b => .bool b
 | .int i => .int i
 | .str x => .str x
 | .tup ds => .tuple (D.pys ds)
 | .lst ds => .list (D.pys ds)
 | .feed => .none
 | .scr _ => .none
 | .fn _ => .none
 | .exc _ _ => .none
noncomputable def D.pys : List D → List PyData
 | [] => []
 | d :: r => D.py d :: D.pys r
end
mutual
noncomputable def D.plain : D → Bool
 | .non => true
 | .bl _ => true
 | .int _ => true
 | .str _ => true
 | .tup ds => D.plains ds
 | .lst ds => D.plains ds
 | .feed => false
 | .scr _ => false
 | .fn _ => false
 | .exc _ _ => false
noncomputable def D.plains : List D → Bool
 | [] => true
 | d :: r => D.plain d && D.plains r
end
structure FS where
 cells : List Int
 pos : Int
 left : Int
 turn : Int
 kind : Nat
noncomputable def eU (c : Addr) (f : FS) : List V := if f.kind = 1 then [V.ref c, V.int f.pos, V.int f.left] else [V.ref c, V.int f.pos, V.int f.left, V.int f.turn]
noncomputable def D4 (c : Addr) (f : FS) : HO := if f.kind = 0 then .dK [(Sum.inr ("cells" : Str), V.ref c), (Sum.inr ("at" : Str), V.int f.pos), (Sum.inr ("left" : Str), V.int f.left), (Sum.inr ("turn" : Str), V.int f.turn)] else .lst (eU c f)
theorem P5 {c : Addr} {f : FS} (h : f.kind = 0) : D4 c f = .dK [(Sum.inr ("cells" : Str), V.ref c), (Sum.inr ("at" : Str), V.int f.pos), (Sum.inr ("left" : Str), V.int f.left), (Sum.inr ("turn" : Str), V.int f.turn)] := if_pos h
theorem ix {c : Addr} {f : FS} {xs : List V} (h : D4 c f = .tup xs) : False := by unfold D4 at h; split at h <;> cases h
theorem iy {c : Addr} {f : FS} {o : Obj} {u : HO} (h : D4 c f = .frz o u) : False := by unfold D4 at h; split at h <;> cases h
noncomputable def FeedR (N : Addr → Prop) (H : Hp) : Option Addr → Option FS → Prop
 | none, none => True
 | some a, some f => f.cells.length ≤ 63 ∧ ∃ c, H a = some (D4 c f) ∧ ¬ N c ∧ H c = some (.lst (f.cells.map V.int))
 | _, _ => False
noncomputable def SqF (K : PySem.W.Frag) (H : Hp) (a : Addr) (xs : List V) : Prop :=
 (∃ o, H a = some (.frz o (.lst xs))) ∨
  ∃ (o : Obj) (its : Array Value) (n : Nat), K.lookup a = some o ∧ o.cls = .type "list" ∧ o.dict = none ∧ o.data = .seq its n ∧ its.size ≤ sizeLine ∧ Vals xs its.toList
theorem SqF.sq {K : PySem.W.Frag} {H : Hp} {a : Addr} {xs : List V} (h : SqF K H a xs) : SqL K H a xs := by
 rcases h with ⟨o, h⟩ | h
 ·exact .inl (.inr ⟨o, h⟩)
 ·exact .inr h
noncomputable def fnm : List Str := ["word", "at"]
noncomputable def ExO (H : Hp) (a C : Addr) (xs : List V) : Prop := ∃ o, H a = some (.frz o (.own a)) ∧ o.cls = .ref C ∧ (∃ vs, o.data = .fields vs) ∧ xs.length ≤ 2 ∧ (xs = [] ∨ ∃ dx od, o.dict = some dx ∧ H dx = some (.frz od (.xd (fnm.zip xs))))
mutual
noncomputable def Rep (K : PySem.W.Frag) (N : Addr → Prop) (fa : Option Addr) (H : Hp) : D → V → Prop
 | .non, v => v = .non
 | .bl b, v => v = .bl b
 | .int i, v => v = .int i
 | .str x, v => v = .str x ∧ x.length ≤ sizeLine
 | .tup ds, v => ∃ a xs, v = .ref a ∧ SqT K H a xs ∧ Reps K N fa H ds xs
 | .lst ds, v => ∃ a xs, v = .ref a ∧ ¬ N a ∧ H a = some (.lst xs) ∧ Reps K N fa H ds xs
 | .feed, v => ∃ a, fa = some a ∧ v = .ref a
 | .scr ns, v => ns.length ≤ 63 ∧ ∃ a, v = .ref a ∧ SqF K H a (ns.map V.int)
 | .fn x, v => ∃ a, v = .ref a ∧ PySem.W.nsIn K mainGlobals x = some (some (.ref a))
 | .exc c ds, v => ∃ a C xs, v = .ref a ∧ PySem.W.nsIn K mainGlobals c = some (some (.ref C)) ∧ ExO H a C xs ∧ Reps K N fa H ds xs
noncomputable def Reps (K : PySem.W.Frag) (N : Addr → Prop) (fa : Option Addr) (H : Hp) : List D → List V → Prop
 | [], xs => xs = []
 | d :: r, xs => ∃ x ys, xs = x :: ys ∧ Rep K N fa H d x ∧ Reps K N fa H r ys
end
noncomputable def RepB (K : PySem.W.Frag) (N : Addr → Prop) (fa : Option Addr) (H : Hp) : D → V → Prop
 | .lst ds, v => ∃ a xs, v = .ref a ∧ fa ≠ some a ∧ H a = some (.lst xs) ∧ Reps K N fa H ds xs
 | d, v => Rep K N fa H d v
noncomputable def A7 (K : PySem.W.Frag) (N : Addr → Prop) (fa : Option Addr) (H : Hp) : List D → List V → Prop
 | [], xs => xs = []
 | d :: r, xs => ∃ x ys, xs = x :: ys ∧ RepB K N fa H d x ∧ A7 K N fa H r ys
noncomputable def X7 (K : PySem.W.Frag) (H : Hp) (a : Addr) : Sum (List V) (Obj × HO) → Prop
 | .inl xs => SqF K H a xs
 | .inr p => H a = some (.frz p.1 p.2)
structure Car (K : PySem.W.Frag) (N : Addr → Prop) (fa : Option Addr) (H : Hp) (N' : Addr → Prop) (fa' : Option Addr) (H' : Hp) : Prop where
 ls : ∀ b xs, ¬ N b → H b = some (.lst xs) → H' b = some (.lst xs) ∧ ¬ N' b
 tp : ∀ b xs, SqT K H b xs → SqT K H' b xs
 fz : ∀ b xs, X7 K H b xs → X7 K H' b xs
 fe : ∀ a, fa = some a → fa' = some a
section
variable {K : PySem.W.Frag} {N N' : Addr → Prop} {fa fa' : Option Addr} {H H' : Hp}
theorem ExO.go {a C : Addr} {xs : List V} (c : Car K N fa H N' fa' H') (h : ExO H a C xs) : ExO H' a C xs := by
 obtain ⟨o, e, q, r, l, z⟩ := h
 refine ⟨o, c.fz a (.inr (o, _)) e, q, r, l, z.imp id ?_⟩
 rintro ⟨dx, od, y, w⟩
 exact ⟨dx, od, y, c.fz dx (.inr (od, _)) w⟩
mutual
theorem Rep.go (c : Car K N fa H N' fa' H') : ∀ (d : D) (v : V), Rep K N fa H d v → Rep K N' fa' H' d v
 | .non, v, h => by simpa only [Rep] using h
 | .bl b, v, h => by simpa only [Rep] using h
 | .int i, v, h => by simpa only [Rep] using h
 | .str x, v, h => by simpa only [Rep] using h
 | .tup ds, v, h => by
  simp only [Rep] at h ⊢
  obtain ⟨a, xs, e, q, r⟩ := h
  exact ⟨a, xs, e, c.tp a xs q, Reps.go c ds xs r⟩
 | .lst ds, v, h => by
  simp only [Rep] at h ⊢
  obtain ⟨a, xs, e, n, q, r⟩ := h
  obtain ⟨q', n'⟩ := c.ls a xs n q
  exact ⟨a, xs, e, n', q', Reps.go c ds xs r⟩
 | .feed, v, h => by
  simp only [Rep] at h ⊢
  obtain ⟨a, e, q⟩ := h
  exact ⟨a, c.fe a e, q⟩
 | .scr ns, v, h => by
  simp only [Rep] at h ⊢
  obtain ⟨l, a, e, q⟩ := h
  exact ⟨l, a, e, c.fz a (.inl _) q⟩
 | .fn x, v, h => by simpa only [Rep] using h
 | .exc x ds, v, h => by
  simp only [Rep] at h ⊢
  obtain ⟨a, C, xs, e, n, q, r⟩ := h
  exact ⟨a, C, xs, e, n, q.go c, Reps.go c ds xs r⟩
theorem Reps.go (c : Car K N fa H N' fa' H') : ∀ (ds : List D) (xs : List V), Reps K N fa H ds xs → Reps K N' fa' H' ds xs
 | [], xs, h => by simpa only [Reps] using h
 | d :: r, xs, h => by
  simp only [Reps] at h ⊢
  obtain ⟨x, ys, e, h1, h2⟩ := h
  exact ⟨x, ys, e, Rep.go c d x h1, Reps.go c r ys h2⟩
end
theorem Rep.b (hN : ∀ a, fa = some a → N a) {d : D} {v : V} (h : Rep K N fa H d v) : RepB K N fa H d v := by
 cases d with
 | lst ds =>
  simp only [Rep] at h
  obtain ⟨a, xs, e, n, q, r⟩ := h
  exact ⟨a, xs, e, fun z => n (hN a z), q, r⟩
 | _ => simpa only [RepB] using h
noncomputable def p9 (K : PySem.W.Frag) (N : Addr → Prop) (fa : Option Addr) (H : Hp) : D → V → Prop
 | .lst ds, v => ∃ a xs, v = .ref a ∧ H a = some (.lst xs) ∧ Reps K N fa H ds xs
 | d, v => Rep K N fa H d v
theorem Rep.o {d : D} {v : V} (h : Rep K N fa H d v) : p9 K N fa H d v := by
 cases d with
 | lst ds =>
  simp only [Rep] at h
  obtain ⟨a, xs, e, _, q, r⟩ := h
  exact ⟨a, xs, e, q, r⟩
 | _ => simpa only [p9] using h
theorem RepB.o {d : D} {v : V} (h : RepB K N fa H d v) : p9 K N fa H d v := by
 cases d with
 | lst ds =>
  obtain ⟨a, xs, e, _, q, r⟩ := h
  exact ⟨a, xs, e, q, r⟩
 | _ => simpa only [p9, RepB] using h
theorem Reps.length : ∀ {ds : List D} {xs : List V}, Reps K N fa H ds xs → xs.length = ds.length
 | [], xs, h => by simp only [Reps] at h; subst h; rfl
 | d :: r, xs, h => by
  simp only [Reps] at h
  obtain ⟨x, ys, e, h1, h2⟩ := h
  subst e
  simp [Reps.length h2]
theorem Reps.get : ∀ {ds : List D} {xs : List V} {i : Nat} {d : D}, Reps K N fa H ds xs → ds[i]? = some d → ∃ x, xs[i]? = some x ∧ Rep K N fa H d x
 | [], xs, i, d, h, e => by simp at e
 | d :: r, xs, 0, d', h, e => by
  simp only [Reps] at h
  obtain ⟨x, ys, e1, h1, h2⟩ := h
  simp at e
  subst e1; subst e
  exact ⟨x, rfl, h1⟩
 | d :: r, xs, i + 1, d', h, e => by
  simp only [Reps] at h
  obtain ⟨x, ys, e1, h1, h2⟩ := h
  subst e1
  obtain ⟨y, e2, h3⟩ := Reps.get h2 (by simpa using e)
  exact ⟨y, by simpa using e2, h3⟩
theorem Reps.append : ∀ {ds es : List D} {xs ys : List V}, Reps K N fa H ds xs → Reps K N fa H es ys → Reps K N fa H (ds ++ es) (xs ++ ys)
 | [], es, xs, ys, h, q => by simp only [Reps] at h; subst h; simpa using q
 | d :: r, es, xs, ys, h, q => by
  simp only [Reps] at h
  obtain ⟨x, zs, e1, h1, h2⟩ := h
  subst e1
  simp only [List.cons_append, Reps]
  exact ⟨x, _, rfl, h1, Reps.append h2 q⟩
theorem Reps.one {d : D} {x : V} (h : Rep K N fa H d x) : Reps K N fa H [d] [x] := by
 simp only [Reps]
 exact ⟨x, [], rfl, h, rfl⟩
theorem Reps.nil : Reps K N fa H [] [] := by simp only [Reps]
theorem Reps.ints : ∀ {ns : List Int}, Reps K N fa H (ns.map D.int) (ns.map V.int)
 | [] => by simp only [List.map_nil, Reps]
 | n :: r => by
  simp only [List.map_cons, Reps, Rep]
  exact ⟨_, _, rfl, rfl, Reps.ints⟩
end
inductive Sl where
 | no | val (d : D) | own (ds : List D)
structure DS where
 sl : List Sl
 fs : Option FS
noncomputable def NN (F : Addr → Prop) (fa : Option Addr) (O : List Addr) : Addr → Prop := fun b => F b ∨ b ∈ O ∨ fa = some b
noncomputable def SlR (K : PySem.W.Frag) (N : Addr → Prop) (fa : Option Addr) (H : Hp) : List Sl → List (Option V) → List Addr → Prop
 | [], σ, O => σ = [] ∧ O = []
 | .no :: r, σ, O => ∃ v τ, σ = v :: τ ∧ SlR K N fa H r τ O
 | .val d :: r, σ, O => ∃ u τ, σ = some u :: τ ∧ Rep K N fa H d u ∧ SlR K N fa H r τ O
 | .own ds :: r, σ, O => ∃ a xs τ P, σ = some (.ref a) :: τ ∧ O = a :: P ∧ H a = some (.lst xs) ∧ Reps K N fa H ds xs ∧ SlR K N fa H r τ P
structure Stp (fa : Option Addr) (O : List Addr) (H : Hp) (fa' : Option Addr) (O' : List Addr) (H' : Hp) : Prop where
 sub : ∀ b ∈ O', b ∈ O ∨ H b = none
 fe : fa' = fa ∨ (fa = none ∧ ∀ a, fa' = some a → H a = none)
 same : ∀ b u, H b = some u → b ∉ O → fa ≠ some b → H' b = some u
 mon : ∀ b, H' b = none → H b = none
structure StE (fa : Option Addr) (O : List Addr) (H : Hp) (fa' : Option Addr) (O' : List Addr) (H' : Hp) : Prop where
 sub : ∀ b ∈ O', b ∈ O
 fe : fa' = fa ∨ (fa = none ∧ ∀ a, fa' = some a → H a = none)
 same : ∀ b u, H b = some u → fa ≠ some b → H' b = some u
 mon : ∀ b, H' b = none → H b = none
structure DI (K : PySem.W.Frag) (F : Addr → Prop) (H0 : Hp) (fa0 : Option Addr) (σ : St) (H : Hp) (fa : Option Addr) (O : List Addr) (s : DS) : Prop where
 nd : O.Nodup
 sl : SlR K (NN F fa O) fa H s.sl σ O
 fr : ∀ b ∈ O, H0 b = none
 st : Stp fa0 [] H0 fa [] H
 tr : ∀ b, F b → H0 b ≠ none
 ff : ∀ a, fa0 = some a → F a
 fd : FeedR (NN F fa O) H fa s.fs
 nf : ∀ a, fa = some a → a ∉ O
section
variable {fa fa' fa'' : Option Addr} {O O' O'' : List Addr} {H H' H'' : Hp}
theorem StE.stp (h : StE fa O H fa' O' H') : Stp fa O H fa' O' H' := ⟨fun b hb => .inl (h.sub b hb), h.fe, fun b u e _ n => h.same b u e n, h.mon⟩
theorem StE.refl : StE fa O H fa O H := ⟨fun _ h => h, .inl rfl, fun _ _ e _ => e, fun _ h => h⟩
theorem Stp.refl : Stp fa O H fa O H := StE.refl.stp
theorem StE.trans (a : StE fa O H fa' O' H') (b : StE fa' O' H' fa'' O'' H'') : StE fa O H fa'' O'' H'' := by
 refine ⟨fun c hc => a.sub c (b.sub c hc), ?_, fun c u e n => ?_, fun c h => a.mon c (b.mon c h)⟩
 ·rcases a.fe with e | ⟨e, h⟩
  ·rcases b.fe with e' | ⟨e', h'⟩
   ·exact .inl (e'.trans e)
   ·exact .inr ⟨e ▸ e', fun c z => a.mon c (h' c z)⟩
  ·rcases b.fe with e' | ⟨e', h'⟩
   ·exact .inr ⟨e, fun c z => h c (e' ▸ z)⟩
   ·exact .inr ⟨e, fun c z => a.mon c (h' c z)⟩
 ·refine b.same c u (a.same c u e n) fun z => ?_
  rcases a.fe with q | ⟨q, h⟩
  ·rw [q] at z; exact n z
  ·rw [h c z] at e; cases e
theorem Stp.trans (a : Stp fa O H fa' O' H') (b : Stp fa' O' H' fa'' O'' H'') : Stp fa O H fa'' O'' H'' := by
 refine ⟨fun c hc => ?_, ?_, fun c u e hc n => ?_, fun c h => a.mon c (b.mon c h)⟩
 ·rcases b.sub c hc with q | q
  ·exact a.sub c q
  ·exact .inr (a.mon c q)
 ·rcases a.fe with e | ⟨e, h⟩
  ·rcases b.fe with e' | ⟨e', h'⟩
   ·exact .inl (e'.trans e)
   ·exact .inr ⟨e ▸ e', fun c z => a.mon c (h' c z)⟩
  ·rcases b.fe with e' | ⟨e', h'⟩
   ·exact .inr ⟨e, fun c z => h c (e' ▸ z)⟩
   ·exact .inr ⟨e, fun c z => a.mon c (h' c z)⟩
 ·refine b.same c u (a.same c u e hc n) (fun z => ?_) fun z => ?_
  ·rcases a.sub c z with q | q
   ·exact hc q
   ·rw [q] at e; cases e
  ·rcases a.fe with q | ⟨q, h⟩
   ·rw [q] at z; exact n z
   ·rw [h c z] at e; cases e
theorem Stp.fa_keep (a : Stp fa O H fa' O' H') {x : Addr} (h : fa = some x) : fa' = some x := by
 rcases a.fe with e | ⟨e, _⟩
 ·rw [e, h]
 ·rw [h] at e; cases e
variable {K : PySem.W.Frag} {F : Addr → Prop} {H0 : Hp} {fa0 : Option Addr} {σ : St} {s : DS}
theorem FeedR.no_frz {N : Addr → Prop} {fs : Option FS} {a : Addr} {o : Obj} {u : HO} (h : FeedR N H fa fs) (e : fa = some a) (q : H a = some (.frz o u)) : False := by
 subst e
 cases fs with
 | none => exact h
 | some f =>
  obtain ⟨_, c, h1, _⟩ := h
  rw [h1] at q; exact iy (Option.some.inj q)
theorem FeedR.no_tup {N : Addr → Prop} {fs : Option FS} {a : Addr} {xs : List V} (h : FeedR N H fa fs) (e : fa = some a) (z : Rd H a (.tup xs)) : False := by
 rcases z with z | ⟨o, z⟩
 ·subst e
  cases fs with
  | none => exact h
  | some f =>
   obtain ⟨_, c, h1, _⟩ := h
   rw [h1] at z; exact ix (Option.some.inj z)
 ·exact h.no_frz e z
theorem FeedR.tracked {N : Addr → Prop} {fs : Option FS} {a : Addr} (h : FeedR N H fa fs) (e : fa = some a) : H a ≠ none := by
 subst e
 cases fs with
 | none => exact h.elim
 | some f =>
  obtain ⟨_, c, h1, _⟩ := h
  rw [h1]; simp
theorem SqT.stp' (a : Stp fa O H fa' O' H') (hf : ∀ x, fa = some x → ∀ xs, ¬ Rd H x (.tup xs)) (hO : ∀ x ∈ O, ∀ xs, ¬ Rd H x (.tup xs)) {b : Addr} {xs : List V} (h : SqT K H b xs) : SqT K H' b xs := by
 rcases h with h | h
 ·refine .inl ?_
  have n1 : b ∉ O := fun z => hO b z xs h
  have n2 : fa ≠ some b := fun z => hf b z xs h
  rcases h with h | ⟨o, h⟩
  ·exact .inl (a.same _ _ h n1 n2)
  ·exact .inr ⟨o, a.same _ _ h n1 n2⟩
 ·exact .inr h
theorem SlR.owned : ∀ {sl : List Sl} {N : Addr → Prop} {σ : List (Option V)} {O : List Addr}, SlR K N fa H sl σ O → ∀ b ∈ O, ∃ xs, H b = some (.lst xs)
 | [], N, σ, O, h, b, hb => by simp only [SlR] at h; rw [h.2] at hb; cases hb
 | .no :: r, N, σ, O, h, b, hb => by
  simp only [SlR] at h
  obtain ⟨v, τ, _, h⟩ := h
  exact SlR.owned h b hb
 | .val d :: r, N, σ, O, h, b, hb => by
  simp only [SlR] at h
  obtain ⟨v, τ, _, _, h⟩ := h
  exact SlR.owned h b hb
 | .own ds :: r, N, σ, O, h, b, hb => by
  simp only [SlR] at h
  obtain ⟨a, xs, τ, P, _, rfl, e, _, h⟩ := h
  rcases List.mem_cons.mp hb with z | z
  ·subst z; exact ⟨xs, e⟩
  ·exact SlR.owned h b z
theorem DI.owned (I : DI K F H0 fa0 σ H fa O s) {b : Addr} (hb : b ∈ O) : ∃ xs, H b = some (.lst xs) := SlR.owned I.sl b hb
theorem DI.trF (I : DI K F H0 fa0 σ H fa O s) {b : Addr} (hb : F b) : H b ≠ none := fun z => I.tr b hb (I.st.mon b z)
theorem DI.nn_tracked (I : DI K F H0 fa0 σ H fa O s) {b : Addr} (h : NN F fa O b) : H b ≠ none := by
 rcases h with h | h | h
 ·exact I.trF h
 ·obtain ⟨xs, e⟩ := I.owned h
  rw [e]; simp
 ·exact I.fd.tracked h
theorem DI.nf_step (I : DI K F H0 fa0 σ H fa O s) (h : fa' = fa ∨ (fa = none ∧ ∀ a, fa' = some a → H a = none)) : ∀ a, fa' = some a → a ∉ O := fun a e m => by
 rcases h with z | ⟨z, y⟩
 ·rw [z] at e; exact I.nf a e m
 ·obtain ⟨xs, q⟩ := I.owned m
  rw [y a e] at q; cases q
theorem DI.car (I : DI K F H0 fa0 σ H fa O s) (a : Stp fa O H fa' O' H') : Car K (NN F fa O) fa H (NN F fa' O') fa' H' := by
 have nt : ∀ x xs, H x = some (.lst xs) → ∀ ys, ¬ Rd H x (.tup ys) := fun x xs e ys z => by
  rcases z with z | ⟨o, z⟩ <;> · rw [e] at z; cases z
 refine ⟨fun b xs n q => ?_, fun b xs q => ?_, fun b xs q => ?_, fun x e => a.fa_keep e⟩
 ·have n1 : b ∉ O := fun z => n (.inr (.inl z))
  have n2 : fa ≠ some b := fun z => n (.inr (.inr z))
  have tr : H b ≠ none := by rw [q]; simp
  refine ⟨a.same _ _ q n1 n2, fun z => ?_⟩
  ·rcases z with z | z | z
   ·exact n (.inl z)
   ·rcases a.sub b z with y | y
    ·exact n1 y
    ·exact tr y
   ·rcases a.fe with e | ⟨e, h⟩
    ·rw [e] at z; exact n2 z
    ·exact tr (h b z)
 ·refine SqT.stp' a (fun x e ys z => ?_) (fun x hx ys => ?_) q
  ·exact I.fd.no_tup e z
  ·obtain ⟨xs, e⟩ := I.owned hx
   exact nt x xs e ys
 ·have fz : ∀ o u, H b = some (.frz o u) → H' b = some (.frz o u) := fun o u q => by
   refine a.same _ _ q (fun z => ?_) fun z => ?_
   ·obtain ⟨ys, e⟩ := I.owned z
    rw [e] at q; cases q
   ·exact I.fd.no_frz z q
  cases xs with
  | inl xs => exact q.imp (fun ⟨o, q⟩ => ⟨o, fz _ _ q⟩) id
  | inr p => exact fz _ _ q
end
structure Gh where
 F : Addr → Prop
 H0 : Hp
 fa0 : Option Addr
noncomputable abbrev GI (K : PySem.W.Frag) (g : Gh) := DI K g.F g.H0 g.fa0
section
variable {K : PySem.W.Frag} {N N' : Addr → Prop} {fa fa' : Option Addr} {H H' : Hp} {g : Gh} {σ : L2.St} {O O' : List Addr} {s : DS}
theorem SlR.go (c : Car K N fa H N' fa' H') : ∀ {sl : List Sl} {σ : List (Option V)} {O : List Addr}, (∀ a xs, a ∈ O → H a = some (.lst xs) → H' a = some (.lst xs)) → SlR K N fa H sl σ O → SlR K N' fa' H' sl σ O
 | [], σ, O, _, h => by simpa only [SlR] using h
 | .no :: r, σ, O, ho, h => by
  simp only [SlR] at h ⊢
  obtain ⟨v, τ, e, h⟩ := h
  exact ⟨v, τ, e, SlR.go c ho h⟩
 | .val d :: r, σ, O, ho, h => by
  simp only [SlR] at h ⊢
  obtain ⟨u, τ, e, q, h⟩ := h
  exact ⟨u, τ, e, Rep.go c d u q, SlR.go c ho h⟩
 | .own ds :: r, σ, O, ho, h => by
  simp only [SlR] at h ⊢
  obtain ⟨a, xs, τ, P, e, rfl, ha, q, h⟩ := h
  exact ⟨a, xs, τ, P, e, rfl, ho a xs (List.mem_cons_self ..) ha, Reps.go c ds xs q, SlR.go c (fun b ys hb => ho b ys (List.mem_cons_of_mem _ hb)) h⟩
theorem SlR.val : ∀ {sl : List Sl} {σ : List (Option V)} {O : List Addr} {i : Nat} {d : D}, SlR K N fa H sl σ O → sl[i]? = some (.val d) → ∃ u, σ[i]? = some (some u) ∧ Rep K N fa H d u
 | [], σ, O, i, d, h, e => by simp at e
 | .no :: r, σ, O, i, d, h, e => by
  simp only [SlR] at h
  obtain ⟨v, τ, rfl, h⟩ := h
  cases i with
  | zero => simp at e
  | succ i => simpa using SlR.val h (by simpa using e)
 | .val d' :: r, σ, O, i, d, h, e => by
  simp only [SlR] at h
  obtain ⟨u, τ, rfl, q, h⟩ := h
  cases i with
  | zero => simp at e; subst e; exact ⟨u, rfl, q⟩
  | succ i => simpa using SlR.val h (by simpa using e)
 | .own ds :: r, σ, O, i, d, h, e => by
  simp only [SlR] at h
  obtain ⟨a, xs, τ, P, rfl, rfl, ha, q, h⟩ := h
  cases i with
  | zero => simp at e
  | succ i => simpa using SlR.val h (by simpa using e)
theorem SlR.own : ∀ {sl : List Sl} {σ : List (Option V)} {O : List Addr} {i : Nat} {ds : List D}, SlR K N fa H sl σ O → sl[i]? = some (.own ds) → ∃ a xs, σ[i]? = some (some (.ref a)) ∧ a ∈ O ∧ H a = some (.lst xs) ∧ Reps K N fa H ds xs
 | [], σ, O, i, d, h, e => by simp at e
 | .no :: r, σ, O, i, d, h, e => by
  simp only [SlR] at h
  obtain ⟨v, τ, rfl, h⟩ := h
  cases i with
  | zero => simp at e
  | succ i => simpa using SlR.own h (by simpa using e)
 | .val d' :: r, σ, O, i, d, h, e => by
  simp only [SlR] at h
  obtain ⟨u, τ, rfl, q, h⟩ := h
  cases i with
  | zero => simp at e
  | succ i => simpa using SlR.own h (by simpa using e)
 | .own ds :: r, σ, O, i, d, h, e => by
  simp only [SlR] at h
  obtain ⟨a, xs, τ, P, rfl, rfl, ha, q, h⟩ := h
  cases i with
  | zero => simp at e; subst e; exact ⟨a, xs, rfl, List.mem_cons_self .., ha, q⟩
  | succ i =>
   obtain ⟨b, ys, e1, m, e2, q2⟩ := SlR.own h (by simpa using e)
   exact ⟨b, ys, by simpa using e1, List.mem_cons_of_mem _ m, e2, q2⟩
theorem SlR.put : ∀ {sl : List Sl} {σ : List (Option V)} {O : List Addr} (i : Nat) {d : D} {u : V}, SlR K N fa H sl σ O → Rep K N fa H d u →
  ∃ P, P.Sublist O ∧ SlR K N fa H (sl.set i (.val d)) (σ.set i (some u)) P ∧ (O.Nodup → ∀ a, sl[i]?.isSome = true → (∃ ds, sl[i]? = some (.own ds)) → σ[i]? = some (some (.ref a)) → a ∉ P)
 | [], σ, O, i, d, u, h, q => by
  simp only [SlR] at h
  refine ⟨O, List.Sublist.refl _, ?_, fun _ a z => by simp at z⟩
  rw [h.1, h.2]
  simp [SlR]
 | .no :: r, σ, O, i, d, u, h, q => by
  simp only [SlR] at h
  obtain ⟨v, τ, rfl, h⟩ := h
  cases i with
  | zero => exact ⟨O, List.Sublist.refl _, by simp only [List.set_cons_zero, SlR]; exact ⟨u, τ, rfl, q, h⟩, fun _ a _ z => by obtain ⟨ds, z⟩ := z; simp at z⟩
  | succ i =>
   obtain ⟨P, hs, h1, h2⟩ := SlR.put i h q
   exact ⟨P, hs, by simp only [List.set_cons_succ, SlR]; exact ⟨v, _, rfl, h1⟩, by simpa using h2⟩
 | .val d' :: r, σ, O, i, d, u, h, q => by
  simp only [SlR] at h
  obtain ⟨v, τ, rfl, qv, h⟩ := h
  cases i with
  | zero => exact ⟨O, List.Sublist.refl _, by simp only [List.set_cons_zero, SlR]; exact ⟨u, τ, rfl, q, h⟩, fun _ a _ z => by obtain ⟨ds, z⟩ := z; simp at z⟩
  | succ i =>
   obtain ⟨P, hs, h1, h2⟩ := SlR.put i h q
   exact ⟨P, hs, by simp only [List.set_cons_succ, SlR]; exact ⟨v, _, rfl, qv, h1⟩, by simpa using h2⟩
 | .own ds :: r, σ, O, i, d, u, h, q => by
  simp only [SlR] at h
  obtain ⟨a, xs, τ, P, rfl, rfl, ha, qv, h⟩ := h
  cases i with
  | zero =>
   refine ⟨P, List.sublist_cons_self .., by simp only [List.set_cons_zero, SlR]; exact ⟨u, τ, rfl, q, h⟩, fun nd b _ _ e => ?_⟩
   simp at e; subst e
   exact (List.nodup_cons.mp nd).1
  | succ i =>
   obtain ⟨P', hs, h1, h2⟩ := SlR.put i h q
   refine ⟨a :: P', hs.cons_cons a, by simp only [List.set_cons_succ, SlR]; exact ⟨a, xs, _, P', rfl, rfl, ha, qv, h1⟩, fun nd b e1 e2 e3 => ?_⟩
   have nd' := List.nodup_cons.mp nd
   have n1 := h2 nd'.2 b (by simpa using e1) (by simpa using e2) (by simpa using e3)
   intro z
   rcases List.mem_cons.mp z with z | z
   ·subst z
    obtain ⟨dz, e2⟩ := e2
    obtain ⟨b', _, e4, m, _⟩ := SlR.own h (i := i) (by simpa using e2)
    rw [List.getElem?_cons_succ] at e3
    rw [e3] at e4
    cases e4
    exact nd'.1 m
   ·exact n1 z
theorem SlR.putN : ∀ {sl : List Sl} {σ : List (Option V)} {O : List Addr} (i : Nat) {ds : List D} {p : Addr} {xs : List V}, SlR K N fa H sl σ O → i < sl.length → p ∉ O → O.Nodup → H p = some (.lst xs) → Reps K N fa H ds xs →
  ∃ P, (∀ b ∈ P, b = p ∨ b ∈ O) ∧ P.Nodup ∧ SlR K N fa H (sl.set i (.own ds)) (σ.set i (some (.ref p))) P
 | [], σ, O, i, ds, p, xs, h, hi, hp, nd, e, q => by simp at hi
 | .no :: r, σ, O, i, ds, p, xs, h, hi, hp, nd, e, q => by
  simp only [SlR] at h
  obtain ⟨v, τ, rfl, h⟩ := h
  cases i with
  | zero => exact ⟨p :: O, fun b hb => List.mem_cons.mp hb, List.nodup_cons.mpr ⟨hp, nd⟩, by simp only [List.set_cons_zero, SlR]; exact ⟨p, xs, τ, O, rfl, rfl, e, q, h⟩⟩
  | succ i =>
   obtain ⟨P, h1, h2, h3⟩ := SlR.putN i h (by simpa using hi) hp nd e q
   exact ⟨P, h1, h2, by simp only [List.set_cons_succ, SlR]; exact ⟨v, _, rfl, h3⟩⟩
 | .val d' :: r, σ, O, i, ds, p, xs, h, hi, hp, nd, e, q => by
  simp only [SlR] at h
  obtain ⟨v, τ, rfl, qv, h⟩ := h
  cases i with
  | zero => exact ⟨p :: O, fun b hb => List.mem_cons.mp hb, List.nodup_cons.mpr ⟨hp, nd⟩, by simp only [List.set_cons_zero, SlR]; exact ⟨p, xs, τ, O, rfl, rfl, e, q, h⟩⟩
  | succ i =>
   obtain ⟨P, h1, h2, h3⟩ := SlR.putN i h (by simpa using hi) hp nd e q
   exact ⟨P, h1, h2, by simp only [List.set_cons_succ, SlR]; exact ⟨v, _, rfl, qv, h3⟩⟩
 | .own ds' :: r, σ, O, i, ds, p, xs, h, hi, hp, nd, e, q => by
  simp only [SlR] at h
  obtain ⟨a, ys, τ, P, rfl, rfl, ha, qv, h⟩ := h
  have nd' := List.nodup_cons.mp nd
  cases i with
  | zero =>
   refine ⟨p :: P, fun b hb => (List.mem_cons.mp hb).imp id fun z => List.mem_cons_of_mem _ z, List.nodup_cons.mpr ⟨fun z => hp (List.mem_cons_of_mem _ z), nd'.2⟩, ?_⟩
   simp only [List.set_cons_zero, SlR]
   exact ⟨p, xs, τ, P, rfl, rfl, e, q, h⟩
  | succ i =>
   obtain ⟨P', h1, h2, h3⟩ := SlR.putN i h (by simpa using hi) (fun z => hp (List.mem_cons_of_mem _ z)) nd'.2 e q
   refine ⟨a :: P', fun b hb => ?_, List.nodup_cons.mpr ⟨fun z => ?_, h2⟩, by simp only [List.set_cons_succ, SlR]; exact ⟨a, ys, _, P', rfl, rfl, ha, qv, h3⟩⟩
   ·rcases List.mem_cons.mp hb with z | z
    ·exact .inr (by rw [z]; exact List.mem_cons_self ..)
    ·exact (h1 b z).imp id fun y => List.mem_cons_of_mem _ y
   ·rcases h1 a z with y | y
    ·exact hp (by rw [y]; exact List.mem_cons_self ..)
    ·exact nd'.1 y
theorem SlR.rew : ∀ {sl : List Sl} {σ : List (Option V)} {O : List Addr} {i : Nat} {ds es : List D} {a : Addr} {ys : List V}, SlR K N fa H sl σ O → O.Nodup → (∀ b ∈ O, N b) → sl[i]? = some (.own ds) → σ[i]? = some (some (.ref a)) → H' a = some (.lst ys) →
  Car K N fa H N fa H' → (∀ b u, b ≠ a → H b = some u → H' b = some u) → Reps K N fa H' es ys → SlR K N fa H' (sl.set i (.own es)) σ O
 | [], σ, O, i, ds, es, a, ys, h, nd, hN, e1, e2, e3, c, k, q => by simp at e1
 | .no :: r, σ, O, i, ds, es, a, ys, h, nd, hN, e1, e2, e3, c, k, q => by
  simp only [SlR] at h
  obtain ⟨v, τ, rfl, h⟩ := h
  cases i with
  | zero => simp at e1
  | succ i => simp only [List.set_cons_succ, SlR]; exact ⟨v, τ, rfl, SlR.rew h nd hN (by simpa using e1) (by simpa using e2) e3 c k q⟩
 | .val d' :: r, σ, O, i, ds, es, a, ys, h, nd, hN, e1, e2, e3, c, k, q => by
  simp only [SlR] at h
  obtain ⟨v, τ, rfl, qv, h⟩ := h
  cases i with
  | zero => simp at e1
  | succ i => simp only [List.set_cons_succ, SlR]; exact ⟨v, τ, rfl, Rep.go c _ _ qv, SlR.rew h nd hN (by simpa using e1) (by simpa using e2) e3 c k q⟩
 | .own ds' :: r, σ, O, i, ds, es, a, ys, h, nd, hN, e1, e2, e3, c, k, q => by
  simp only [SlR] at h
  obtain ⟨b, zs, τ, P, rfl, rfl, ha, qv, h⟩ := h
  have nd' := List.nodup_cons.mp nd
  cases i with
  | zero =>
   simp at e2
   subst e2
   simp only [List.set_cons_zero, SlR]
   exact ⟨b, ys, τ, P, rfl, rfl, e3, q, SlR.go c (fun x xs hx z => k x _ (fun y => nd'.1 (y ▸ hx)) z) h⟩
  | succ i =>
   have nb : b ≠ a := fun z => by
    obtain ⟨a', _, e4, m, _⟩ := SlR.own h (i := i) (by simpa using e1)
    rw [List.getElem?_cons_succ] at e2
    rw [e2] at e4
    cases e4
    exact nd'.1 (z ▸ m)
   simp only [List.set_cons_succ, SlR]
   exact ⟨b, zs, τ, P, rfl, rfl, k b _ nb ha, Reps.go c _ _ qv, SlR.rew h nd'.2 (fun x hx => hN x (List.mem_cons_of_mem _ hx)) (by simpa using e1) (by simpa using e2) e3 c k q⟩
theorem RepB.stp {d : D} {v : V} (I : GI K g σ H fa O s) (a : StE fa O H fa' O' H') (h : RepB K (NN g.F fa O) fa H d v) : RepB K (NN g.F fa' O') fa' H' d v := by
 have c := I.car a.stp
 cases d with
 | lst ds =>
  obtain ⟨x, xs, e, nf, q, r⟩ := h
  refine ⟨x, xs, e, fun z => ?_, a.same _ _ q nf, Reps.go c ds xs r⟩
  rcases a.fe with y | ⟨_, y⟩
  ·rw [y] at z; exact nf z
  ·rw [y x z] at q; cases q
 | _ =>
  simp only [RepB] at h ⊢
  exact Rep.go c _ _ h
theorem Rep.stp {d : D} {v : V} (I : GI K g σ H fa O s) (a : Stp fa O H fa' O' H') (h : Rep K (NN g.F fa O) fa H d v) : Rep K (NN g.F fa' O') fa' H' d v := Rep.go (I.car a) d v h
theorem Reps.stp {ds : List D} {xs : List V} (I : GI K g σ H fa O s) (a : Stp fa O H fa' O' H') (h : Reps K (NN g.F fa O) fa H ds xs) : Reps K (NN g.F fa' O') fa' H' ds xs := Reps.go (I.car a) ds xs h
theorem j8 {p : Addr} {o : HO} (h : H p = none) : StE fa O H fa O (a7 H p o) :=
 ⟨fun _ h => h, .inl rfl, fun b u e _ => by rw [a8 (g5 e h)]; exact e, fun b z => by
  by_cases hb : b = p
  ·subst hb; exact h
  ·rw [a8 hb] at z; exact z⟩
theorem FeedR.car {fs : Option FS} (c : Car K N fa H N' fa H') (h : ∀ a, fa = some a → H' a = H a) (f : FeedR N H fa fs) : FeedR N' H' fa fs := by
 cases fa with
 | none => cases fs <;> simpa only [FeedR] using f
 | some a =>
  cases fs with
  | none => simpa only [FeedR] using f
  | some x =>
   simp only [FeedR] at f ⊢
   obtain ⟨l, b, h1, h2, h3⟩ := f
   obtain ⟨q, n⟩ := c.ls b _ h2 h3
   exact ⟨l, b, by rw [h a rfl]; exact h1, n, q⟩
theorem FeedR.same_new {fs : Option FS} {p : Addr} {o : HO} (f : FeedR N H fa fs) (h : H p = none) : ∀ a, fa = some a → a7 H p o a = H a := fun a e => a8 fun z => f.tracked e (z ▸ h)
theorem DI.new {p : Addr} {o : HO} (I : GI K g σ H fa O s) (h : H p = none) : GI K g σ (a7 H p o) fa O s := by
 have a : StE fa O H fa O (a7 H p o) := j8 h
 refine ⟨I.nd, SlR.go (I.car a.stp) (fun b xs hb e => ?_) I.sl, I.fr, I.st.trans ((j8 (O := []) h).stp), I.tr, I.ff, I.fd.car (I.car a.stp) (I.fd.same_new h), I.nf⟩
 rw [a8 (g5 e h)]; exact e
end
noncomputable abbrev DE := DS → Option (D × DS)
noncomputable abbrev DT := DS → Option (Bool × DS)
noncomputable abbrev DA := DS → Option (List D × DS)
inductive Fl where
 | next | brk | cont | ret (d : D)
noncomputable abbrev DM := DS → Option (Fl × DS)
structure NewL (K : PySem.W.Frag) (g : Gh) (σ : L2.St) (H : Hp) (fa : Option Addr) (O : List Addr) (s : DS) (p : Addr) (xs : List V) (ds : List D) : Prop where
 gi : GI K g σ H fa O s
 ls : H p = some (.lst xs)
 sl : SlR K (fun b => NN g.F fa O b ∨ b = p) fa H s.sl σ O
 fd : FeedR (fun b => NN g.F fa O b ∨ b = p) H fa s.fs
 rs : Reps K (fun b => NN g.F fa O b ∨ b = p) fa H ds xs
 nf : fa ≠ some p
section
variable (K : PySem.W.Frag) (g : Gh)
noncomputable def liftE (f : DE) : TE := fun σ H Q => ∃ fa O s d s', GI K g σ H fa O s ∧ f s = some (d, s') ∧
 ∀ v H' fa' O', StE fa O H fa' O' H' → GI K g σ H' fa' O' s' → Rep K (NN g.F fa' O') fa' H' d v → Q v H'
noncomputable def liftB (f : DE) : TE := fun σ H Q => ∃ fa O s d s', GI K g σ H fa O s ∧ f s = some (d, s') ∧
 ∀ v H' fa' O', StE fa O H fa' O' H' → GI K g σ H' fa' O' s' → RepB K (NN g.F fa' O') fa' H' d v → Q v H'
noncomputable def liftF (f : DA) : TE := fun σ H Q => ∃ fa O s ds s', GI K g σ H fa O s ∧ f s = some (ds, s') ∧
 ∀ p xs H' fa' O', StE fa O H fa' O' H' → NewL K g σ H' fa' O' s' p xs ds → H p = none → Q (.ref p) H'
noncomputable def liftT (f : DT) : TT := fun σ H Q => ∃ fa O s d s', GI K g σ H fa O s ∧ f s = some (d, s') ∧
 ∀ H' fa' O', StE fa O H fa' O' H' → GI K g σ H' fa' O' s' → Q d H'
noncomputable def liftA (f : DA) : TA := fun σ H Q => ∃ fa O s ds s', GI K g σ H fa O s ∧ f s = some (ds, s') ∧
 ∀ vs H' fa' O', StE fa O H fa' O' H' → GI K g σ H' fa' O' s' → Reps K (NN g.F fa' O') fa' H' ds vs → Q vs H'
noncomputable def liftBA (f : DA) : TA := fun σ H Q => ∃ fa O s ds s', GI K g σ H fa O s ∧ f s = some (ds, s') ∧
 ∀ vs H' fa' O', StE fa O H fa' O' H' → GI K g σ H' fa' O' s' → A7 K (NN g.F fa' O') fa' H' ds vs → Q vs H'
noncomputable def FlK (E : Ends) (fa : Option Addr) (O : List Addr) (H : Hp) (fl : Fl) (s' : DS) : Prop :=
 match fl with
 | .next => ∀ σ' H' fa' O', Stp fa O H fa' O' H' → GI K g σ' H' fa' O' s' → E.nx σ' H'
 | .brk => ∀ σ' H' fa' O', Stp fa O H fa' O' H' → GI K g σ' H' fa' O' s' → E.bk σ' H'
 | .cont => ∀ σ' H' fa' O', Stp fa O H fa' O' H' → GI K g σ' H' fa' O' s' → E.ct σ' H'
 | .ret d => ∀ σ' v H' fa' O', Stp fa O H fa' O' H' → GI K g σ' H' fa' O' s' → Rep K (NN g.F fa' O') fa' H' d v → E.rt v H'
noncomputable def liftS (f : DM) : TS := fun E σ H => ∃ fa O s fl s', GI K g σ H fa O s ∧ f s = some (fl, s') ∧ FlK K g E fa O H fl s'
end
section
variable {K : PySem.W.Frag} {g : Gh} {σ : L2.St} {H : Hp} {G : Prop}
theorem liftE.elim {f : DE} {Q : VK} (h : liftE K g f σ H Q) (k : ∀ fa O s d s', GI K g σ H fa O s → f s = some (d, s') → (∀ v H' fa' O', StE fa O H fa' O' H' → GI K g σ H' fa' O' s' → Rep K (NN g.F fa' O') fa' H' d v → Q v H') → G) : G := by
 obtain ⟨fa, O, s, d, s', a, b, c⟩ := h
 exact k fa O s d s' a b c
theorem liftB.elim {f : DE} {Q : VK} (h : liftB K g f σ H Q) (k : ∀ fa O s d s', GI K g σ H fa O s → f s = some (d, s') → (∀ v H' fa' O', StE fa O H fa' O' H' → GI K g σ H' fa' O' s' → RepB K (NN g.F fa' O') fa' H' d v → Q v H') → G) : G := by
 obtain ⟨fa, O, s, d, s', a, b, c⟩ := h
 exact k fa O s d s' a b c
theorem liftF.elim {f : DA} {Q : VK} (h : liftF K g f σ H Q) (k : ∀ fa O s d s', GI K g σ H fa O s → f s = some (d, s') → (∀ p xs H' fa' O', StE fa O H fa' O' H' → NewL K g σ H' fa' O' s' p xs d → H p = none → Q (.ref p) H') → G) : G := by
 obtain ⟨fa, O, s, d, s', a, b, c⟩ := h
 exact k fa O s d s' a b c
theorem liftT.elim {f : DT} {Q : Bool → Hp → Prop} (h : liftT K g f σ H Q) (k : ∀ fa O s d s', GI K g σ H fa O s → f s = some (d, s') → (∀ H' fa' O', StE fa O H fa' O' H' → GI K g σ H' fa' O' s' → Q d H') → G) : G := by
 obtain ⟨fa, O, s, d, s', a, b, c⟩ := h
 exact k fa O s d s' a b c
theorem liftA.elim {f : DA} {Q : List V → Hp → Prop} (h : liftA K g f σ H Q) (k : ∀ fa O s d s', GI K g σ H fa O s → f s = some (d, s') → (∀ vs H' fa' O', StE fa O H fa' O' H' → GI K g σ H' fa' O' s' → Reps K (NN g.F fa' O') fa' H' d vs → Q vs H') → G) : G := by
 obtain ⟨fa, O, s, d, s', a, b, c⟩ := h
 exact k fa O s d s' a b c
theorem liftBA.elim {f : DA} {Q : List V → Hp → Prop} (h : liftBA K g f σ H Q) (k : ∀ fa O s d s', GI K g σ H fa O s → f s = some (d, s') → (∀ vs H' fa' O', StE fa O H fa' O' H' → GI K g σ H' fa' O' s' → A7 K (NN g.F fa' O') fa' H' d vs → Q vs H') → G) : G := by
 obtain ⟨fa, O, s, d, s', a, b, c⟩ := h
 exact k fa O s d s' a b c
theorem liftS.elim {f : DM} {E : Ends} (h : liftS K g f E σ H) (k : ∀ fa O s d s', GI K g σ H fa O s → f s = some (d, s') → (FlK K g E fa O H d s') → G) : G := by
 obtain ⟨fa, O, s, d, s', a, b, c⟩ := h
 exact k fa O s d s' a b c
end
structure EO (X : Cx) (g : Gh) (e : Expr) (f : DE) : Prop where
 pe : PE X e (liftE X.K g f)
structure BO (X : Cx) (g : Gh) (e : Expr) (f : DE) : Prop where
 pe : PE X e (liftB X.K g f)
structure FO (X : Cx) (g : Gh) (e : Expr) (f : DA) : Prop where
 pe : PE X e (liftF X.K g f)
structure TO (X : Cx) (g : Gh) (e : Expr) (f : DT) : Prop where
 pe : PT X e (liftT X.K g f)
structure WO (X : Cx) (g : Gh) (e : Expr) (f : DT) : Prop where
 pe : PW X e (liftT X.K g f)
structure AO (X : Cx) (g : Gh) (es : List Expr) (f : DA) : Prop where
 pe : PA X es (liftA X.K g f)
structure BAO (X : Cx) (g : Gh) (es : List Expr) (f : DA) : Prop where
 pe : PA X es (liftBA X.K g f)
structure SO (X : Cx) (g : Gh) (st : Stmt) (f : DM) : Prop where
 pe : PS X st (liftS X.K g f)
structure SSO (X : Cx) (g : Gh) (st : List Stmt) (f : DM) : Prop where
 pe : PSs X st (liftS X.K g f)
section
variable {X : Cx} {g : Gh} {e : Expr} {f : DE}
theorem P2 {t t' : TE} (h : PE X e t) (w : ∀ σ H Q, t' σ H Q → t σ H Q) : PE X e t' := fun pins s σ H Q I q => h pins s σ H Q I (w σ H Q q)
theorem dS {t t' : TT} (h : PT X e t) (w : ∀ σ H Q, t' σ H Q → t σ H Q) : PT X e t' := fun pins s σ H Q I q => h pins s σ H Q I (w σ H Q q)
theorem cf {t t' : TT} (h : PW X e t) (w : ∀ σ H Q, t' σ H Q → t σ H Q) : PW X e t' := fun wh pins s σ H Q I q => h wh pins s σ H Q I (w σ H Q q)
theorem W4 {es : List Expr} {t t' : TA} (h : PA X es t) (w : ∀ σ H Q, t' σ H Q → t σ H Q) : PA X es t' := fun pos pins s σ H Q I q => h pos pins s σ H Q I (w σ H Q q)
theorem iq {st : Stmt} {t t' : TS} (h : PS X st t) (w : ∀ E σ H, t' E σ H → t E σ H) : PS X st t' := fun pins s σ H E I q => h pins s σ H E I (w E σ H q)
theorem eB {st : List Stmt} {t t' : TS} (h : PSs X st t) (w : ∀ E σ H, t' E σ H → t E σ H) : PSs X st t' := fun pins s σ H E I q => h pins s σ H E I (w E σ H q)
theorem EO.w {f : DE} {t : TE} (h : PE X e t) (w : ∀ σ H Q, liftE X.K g f σ H Q → t σ H Q) : EO X g e f := ⟨P2 h w⟩
theorem BO.w {f : DE} {t : TE} (h : PE X e t) (w : ∀ σ H Q, liftB X.K g f σ H Q → t σ H Q) : BO X g e f := ⟨P2 h w⟩
theorem FO.w {f : DA} {t : TE} (h : PE X e t) (w : ∀ σ H Q, liftF X.K g f σ H Q → t σ H Q) : FO X g e f := ⟨P2 h w⟩
theorem TO.w {f : DT} {t : TT} (h : PT X e t) (w : ∀ σ H Q, liftT X.K g f σ H Q → t σ H Q) : TO X g e f := ⟨dS h w⟩
theorem WO.w {f : DT} {t : TT} (h : PW X e t) (w : ∀ σ H Q, liftT X.K g f σ H Q → t σ H Q) : WO X g e f := ⟨cf h w⟩
theorem AO.w {es : List Expr} {f : DA} {t : TA} (h : PA X es t) (w : ∀ σ H Q, liftA X.K g f σ H Q → t σ H Q) : AO X g es f := ⟨W4 h w⟩
theorem BAO.w {es : List Expr} {f : DA} {t : TA} (h : PA X es t) (w : ∀ σ H Q, liftBA X.K g f σ H Q → t σ H Q) : BAO X g es f := ⟨W4 h w⟩
theorem SO.w {st : Stmt} {f : DM} {t : TS} (h : PS X st t) (w : ∀ E σ H, liftS X.K g f E σ H → t E σ H) : SO X g st f := ⟨iq h w⟩
theorem SSO.w {st : List Stmt} {f : DM} {t : TS} (h : PSs X st t) (w : ∀ E σ H, liftS X.K g f E σ H → t E σ H) : SSO X g st f := ⟨eB h w⟩
theorem EO.b (h : EO X g e f) : BO X g e f := BO.w h.pe fun σ H Q ⟨fa, O, s, d, s', I, e, k⟩ => ⟨fa, O, s, d, s', I, e, fun v H' fa' O' a I' r => k v H' fa' O' a I' (r.b fun _ z => .inr (.inr z))⟩
noncomputable def m6 (f : DA) : DE := fun s => (f s).map fun p => (.lst p.1, p.2)
theorem Q0 {K : PySem.W.Frag} {σ : L2.St} {H H' : Hp} {fa fa' : Option Addr} {O O' : List Addr} {s s' : DS} {p : Addr} (I : GI K g σ H fa O s) (a : StE fa O H fa' O' H') (I' : GI K g σ H' fa' O' s') (e : H p = none) (e' : fa' ≠ some p) : ¬ NN g.F fa' O' p := by
 rintro (z | z | z)
 ·exact I.trF z e
 ·obtain ⟨ys, q⟩ := I.owned (a.sub p z)
  rw [e] at q; cases q
 ·exact e' z
theorem FO.v {f : DA} (h : FO X g e f) : EO X g e (m6 f) := EO.w h.pe fun σ H Q hQ => by
 refine hQ.elim fun fa O s d s' I e k => ?_
 simp only [m6] at e
 cases q : f s with
 | none => rw [q] at e; cases e
 | some p =>
  obtain ⟨ds, s1⟩ := p
  rw [q] at e
  simp only [Option.map_some, Option.some.injEq, Prod.mk.injEq] at e
  obtain ⟨e1, e2⟩ := e
  subst e1; subst e2
  refine ⟨fa, O, s, ds, s1, I, q, fun p xs H' fa' O' a L e1 => k _ H' fa' O' a L.gi ?_⟩
  simp only [Rep]
  exact ⟨p, xs, rfl, Q0 I a L.gi e1 L.nf, L.ls, Reps.go ⟨fun b ys n q => ⟨q, fun z => n (.inl z)⟩, fun _ _ q => q, fun _ _ q => q, fun _ q => q⟩ ds xs L.rs⟩
end
theorem J0 {g : Gh} {K : PySem.W.Frag} {σ : L2.St} {H : Hp} {fa : Option Addr} {O : List Addr} {s : DS} {p : Addr} {o : HO} (I : GI K g σ H fa O s) (hp : H p = none) : Car K (NN g.F fa O) fa H (fun b => NN g.F fa O b ∨ b = p) fa (a7 H p o) := by
 have c := I.car (j8 (fa := fa) (O := O) (o := o) hp).stp
 refine ⟨fun b xs n q => ?_, c.tp, c.fz, c.fe⟩
 obtain ⟨q', n'⟩ := c.ls b xs n q
 refine ⟨q', ?_⟩
 rintro (z | z)
 ·exact n' z
 ·subst z
  rw [hp] at q; cases q
theorem J4 {g : Gh} {K : PySem.W.Frag} {σ : L2.St} {H : Hp} {fa : Option Addr} {O : List Addr} {s : DS} {p : Addr} {ds : List D} {xs : List V} (I : GI K g σ H fa O s) (hp : H p = none) (r : Reps K (NN g.F fa O) fa H ds xs) : NewL K g σ (a7 H p (.lst xs)) fa O s p xs ds :=
 ⟨I.new hp, e7, SlR.go (J0 I hp) (fun b ys _ e => by rw [a8 (g5 e hp)]; exact e) I.sl, I.fd.car (J0 I hp) (I.fd.same_new hp), Reps.go (J0 I hp) ds xs r, fun z => I.fd.tracked z hp⟩
noncomputable def dC (d : D) : DE := fun s => some (d, s)
noncomputable def dV (i : Nat) : DE := fun s => match s.sl[i]? with
 | some (.val d) => some (d, s)
 | some (.own ds) => some (.lst ds, { s with sl := s.sl.set i (.val (.lst ds)) })
 | _ => none
noncomputable def dL (i : Nat) : DE := fun s => match s.sl[i]? with
 | some (.val d) => some (d, s)
 | some (.own ds) => some (.lst ds, s)
 | _ => none
section
variable {X : Cx} {g : Gh}
theorem Z2 {i : Nat} {x : Str} {pos : Pos} (h : PE X (.Name x pos) (w6 i)) : BO X g (.Name x pos) (dL i) := BO.w h fun σ H Q hQ => by
 refine hQ.elim fun fa O s d s' I e k => ?_
 simp only [dL] at e
 cases q : s.sl[i]? with
 | none => rw [q] at e; cases e
 | some z =>
  rw [q] at e
  cases z with
  | no => cases e
  | val d' =>
   cases e
   obtain ⟨u, e1, r⟩ := SlR.val I.sl q
   exact ⟨u, e1, k u H fa O StE.refl I (r.b fun _ z => .inr (.inr z))⟩
  | own ds =>
   cases e
   obtain ⟨a, xs, e1, m, e2, r⟩ := SlR.own I.sl q
   exact ⟨_, e1, k _ H fa O StE.refl I ⟨a, xs, rfl, fun z => I.nf a z m, e2, r⟩⟩
theorem w8 {i : Nat} {x : Str} {pos : Pos} (h : PE X (.Name x pos) (w6 i)) : EO X g (.Name x pos) (dV i) := EO.w h fun σ H Q hQ => by
 refine hQ.elim fun fa O s d s' I e k => ?_
 simp only [dV] at e
 cases q : s.sl[i]? with
 | none => rw [q] at e; cases e
 | some z =>
  rw [q] at e
  cases z with
  | no => cases e
  | val d' =>
   cases e
   obtain ⟨u, e1, r⟩ := SlR.val I.sl q
   exact ⟨u, e1, k u H fa O StE.refl I r⟩
  | own ds =>
   cases e
   obtain ⟨a, xs, e1, m, e2, r⟩ := SlR.own I.sl q
   have i' : i < s.sl.length := (List.getElem?_eq_some_iff.mp q).1
   let N1 : Addr → Prop := fun b => NN g.F fa O b ∧ b ≠ a
   have c1 : Car X.K (NN g.F fa O) fa H N1 fa H := ⟨fun b ys n z => ⟨z, fun y => n y.1⟩, fun _ _ z => z, fun _ _ z => z, fun _ z => z⟩
   have S1 := SlR.go c1 (fun _ _ _ z => z) I.sl
   have R1 : Rep X.K N1 fa H (.lst ds) (.ref a) := by
    simp only [Rep]
    exact ⟨a, xs, rfl, fun z => z.2 rfl, e2, Reps.go c1 ds xs r⟩
   obtain ⟨P, hs, S2, hn⟩ := SlR.put i S1 R1
   have na : a ∉ P := hn I.nd a (by rw [q]; rfl) ⟨ds, q⟩ e1
   have eσ : σ.set i (some (V.ref a)) = σ := by
    apply List.ext_getElem?
    intro j
    by_cases hj : j = i
    ·subst hj
     rw [e1, List.getElem?_set_self (List.getElem?_eq_some_iff.mp e1).1]
    ·rw [List.getElem?_set_ne (Ne.symm hj)]
   rw [eσ] at S2
   have sub : ∀ b ∈ P, b ∈ O := fun b hb => hs.subset hb
   have a1 : StE fa O H fa P H := ⟨sub, .inl rfl, fun _ _ z _ => z, fun _ z => z⟩
   have c2 : Car X.K N1 fa H (NN g.F fa P) fa H := ⟨fun b ys n z => ⟨z, fun y => n ⟨by
     rcases y with y | y | y
     ·exact .inl y
     ·exact .inr (.inl (sub b y))
     ·exact .inr (.inr y), fun w => by
     subst w
     rcases y with y | y | y
     ·exact I.tr b y (I.fr b m)
     ·exact na y
     ·exact I.nf b y m⟩⟩, fun _ _ z => z, fun _ _ z => z, fun _ z => z⟩
   refine ⟨_, e1, k _ H fa P a1 ⟨hs.nodup I.nd, SlR.go c2 (fun _ _ _ z => z) S2, fun b hb => I.fr b (sub b hb), I.st, I.tr, I.ff, (I.fd.car c1 fun _ _ => rfl).car c2 fun _ _ => rfl, fun b z y => I.nf b z (sub b y)⟩ (Rep.go c2 _ _ R1)⟩
theorem K8 {e : Expr} {v : V} {d : D} (h : PE X e (tC v)) (r : ∀ K N fa H, Rep K N fa H d v) : EO X g e (dC d) := EO.w h fun σ H Q hQ => by
 refine hQ.elim fun fa O s d' s' I q k => ?_
 simp only [dC, Option.some.injEq, Prod.mk.injEq] at q
 obtain ⟨q1, q2⟩ := q
 subst q1; subst q2
 exact k v H fa O StE.refl I (r _ _ _ _)
theorem J6 {i j pos} : EO X g (.Constant (.int i) j pos) (dC (.int i)) := K8 G6 fun _ _ _ _ => by simp only [Rep]
theorem C3 {i j pos} : EO X g (.Constant (.bool i) j pos) (dC (.bl i)) := K8 gO fun _ _ _ _ => by simp only [Rep]
theorem Y1 {j pos} : EO X g (.Constant .none j pos) (dC .non) := K8 dX fun _ _ _ _ => by simp only [Rep]
theorem fB {x j pos} (hx : x.length ≤ sizeLine) : EO X g (.Constant (.str x) j pos) (dC (.str x)) := K8 A5 fun _ _ _ _ => by simp only [Rep]; exact ⟨trivial, hx⟩
end
noncomputable def i7 (K : PySem.W.Frag) (r : R2) (p : D → D → Option D) : Prop :=
 ∀ (g : Gh) (σ : L2.St) (H : Hp) (fa : Option Addr) (O : List Addr) (s : DS) (x y : V) (d1 d2 d : D) (Q : VK), GI K g σ H fa O s → RepB K (NN g.F fa O) fa H d1 x → RepB K (NN g.F fa O) fa H d2 y → p d1 d2 = some d →
  (∀ v H', StE fa O H fa O H' → GI K g σ H' fa O s → Rep K (NN g.F fa O) fa H' d v → Q v H') → r x y H Q
noncomputable def T8 (K : PySem.W.Frag) (r : R2) (p : D → D → Option (List D)) : Prop :=
 ∀ (g : Gh) (σ : L2.St) (H : Hp) (fa : Option Addr) (O : List Addr) (s : DS) (x y : V) (d1 d2 : D) (ds : List D) (Q : VK), GI K g σ H fa O s → RepB K (NN g.F fa O) fa H d1 x → RepB K (NN g.F fa O) fa H d2 y → p d1 d2 = some ds →
  (∀ q xs H', StE fa O H fa O H' → NewL K g σ H' fa O s q xs ds → H q = none → Q (.ref q) H') → r x y H Q
noncomputable def F6 (K : PySem.W.Frag) (r : List V → Hp → VK → Prop) (p : List D → Option D) : Prop :=
 ∀ (g : Gh) (σ : L2.St) (H : Hp) (fa : Option Addr) (O : List Addr) (s : DS) (xs : List V) (ds : List D) (d : D) (Q : VK), GI K g σ H fa O s → A7 K (NN g.F fa O) fa H ds xs → p ds = some d →
  (∀ v H', StE fa O H fa O H' → GI K g σ H' fa O s → Rep K (NN g.F fa O) fa H' d v → Q v H') → r xs H Q
noncomputable def a5 (p : D → D → Option D) (a b : DE) : DE := fun s => (a s).bind fun x => (b x.2).bind fun y => (p x.1 y.1).map fun d => (d, y.2)
noncomputable def R7 (p : D → D → Option (List D)) (a b : DE) : DA := fun s => (a s).bind fun x => (b x.2).bind fun y => (p x.1 y.1).map fun d => (d, y.2)
noncomputable def c8 (p : D → Option D) (a : DE) : DE := fun s => (a s).bind fun x => (p x.1).map fun d => (d, x.2)
theorem V3 {α : Type} {p : D → D → Option α} {a b : DE} {s s' : DS} {d : α} (h : ((a s).bind fun x => (b x.2).bind fun y => (p x.1 y.1).map fun d => (d, y.2)) = some (d, s')) : ∃ x s1 y, a s = some (x, s1) ∧ b s1 = some (y, s') ∧ p x y = some d := by
 refine d8 h fun x s1 h1 h => ?_
 refine d8 h fun y s2 h2 h => ?_
 refine v3 h fun d' h3 h => ?_
 simp only [Prod.mk.injEq] at h
 obtain ⟨e1, e2⟩ := h
 subst e1; subst e2
 exact ⟨x, s1, y, h1, h2, h3⟩
section
variable {X : Cx} {g : Gh} {a b : Expr} {fa fb : DE} {pos : Pos} {r : R2} {p : D → D → Option D}
theorem M0 {r : R2} {p : D → D → Option D} (hr : i7 X.K r p) (σ : L2.St) (H : Hp) (Q : VK) (h : liftE X.K g (a5 p fa fb) σ H Q) : D6 r (liftB X.K g fa) (liftB X.K g fb) σ H Q := by
 obtain ⟨f0, O, s, d, s', I, e, k⟩ := h
 obtain ⟨x, s1, y, h1, h2, h3⟩ := V3 e
 refine ⟨f0, O, s, x, s1, I, h1, fun v H1 f1 O1 a1 I1 r1 => ⟨f1, O1, s1, y, s', I1, h2, fun u H2 f2 O2 a2 I2 r2 => ?_⟩⟩
 exact hr g σ H2 f2 O2 s' v u x y d Q I2 (RepB.stp I1 a2 r1) r2 h3 fun z H3 a3 I3 r3 => k z H3 f2 O2 (a1.trans (a2.trans a3)) I3 r3
theorem cw {r : R2} {p : D → D → Option (List D)} (hr : T8 X.K r p) (σ : L2.St) (H : Hp) (Q : VK) (h : liftF X.K g (R7 p fa fb) σ H Q) : D6 r (liftB X.K g fa) (liftB X.K g fb) σ H Q := by
 obtain ⟨f0, O, s, d, s', I, e, k⟩ := h
 obtain ⟨x, s1, y, h1, h2, h3⟩ := V3 e
 refine ⟨f0, O, s, x, s1, I, h1, fun v H1 f1 O1 a1 I1 r1 => ⟨f1, O1, s1, y, s', I1, h2, fun u H2 f2 O2 a2 I2 r2 => ?_⟩⟩
 exact hr g σ H2 f2 O2 s' v u x y d Q I2 (RepB.stp I1 a2 r1) r2 h3 fun q xs H3 a3 L e1 => k q xs H3 f2 O2 (a1.trans (a2.trans a3)) L (a1.mon _ (a2.mon _ e1))
theorem iW {op : Operator} (ho : OpR X (binaryOp op) r) (hr : i7 X.K r p) (ha : BO X g a fa) (hb : BO X g b fb) : EO X g (.BinOp a op b pos) (a5 p fa fb) := EO.w (Z5 ho ha.pe hb.pe) (M0 hr)
theorem bj {op : Operator} {p : D → D → Option (List D)} (ho : OpR X (binaryOp op) r) (hr : T8 X.K r p) (ha : BO X g a fa) (hb : BO X g b fb) : FO X g (.BinOp a op b pos) (R7 p fa fb) := FO.w (Z5 ho ha.pe hb.pe) (cw hr)
theorem gh {op : CmpOp} (ho : OpR X (compareOp op) r) (hr : i7 X.K r p) (ha : BO X g a fa) (hb : BO X g b fb) (hm : behindInMarks op b = false) : EO X g (.Compare a [op] [b] pos) (a5 p fa fb) := EO.w (cF ho ha.pe hb.pe hm) (M0 hr)
theorem cW {r : R2} (ho : IxR X r) (hr : i7 X.K r p) (ha : BO X g a fa) (hb : BO X g b fb) (hs : aH b) : EO X g (.Subscript a b pos) (a5 p fa fb) := EO.w (fq ho ha.pe hb.pe hs) (M0 hr)
noncomputable def dB (f : DE) : DT := fun s => (f s).bind fun x => match x.1 with | .bl b => some (b, x.2) | _ => none
theorem fK {f : DE} {s s' : DS} {b : Bool} (h : dB f s = some (b, s')) : f s = some (.bl b, s') := by
 refine d8 h fun x s1 h1 h => ?_
 cases x with
 | bl c => simp only [Option.some.injEq, Prod.mk.injEq] at h; rw [h1, h.1, h.2]
 | _ => cases h
theorem X3 {op : CmpOp} (ho : OpR X (compareOp op) r) (hr : i7 X.K r p) (ha : BO X g a fa) (hb : BO X g b fb) (hm : behindInMarks op b = false) : TO X g (.Compare a [op] [b] pos) (dB (a5 p fa fb)) :=
 TO.w (fT ho ha.pe hb.pe hm) fun σ H Q ⟨f0, O, s, d, s', I, e, k⟩ => M0 hr σ H _ ⟨f0, O, s, .bl d, s', I, fK e, fun v H' f1 O1 a I1 r => by
  simp only [Rep] at r
  exact ⟨d, r, k H' f1 O1 a I1⟩⟩
noncomputable def Y3 : D → Option Bool
 | .non => some false
 | .bl b => some b
 | .int i => some (i != 0)
 | .str x => some ((x.length : Int) != 0)
 | .tup ds => some (!ds.isEmpty)
 | .lst ds => some (!ds.isEmpty)
 | _ => none
noncomputable def D7 (f : DE) : DT := fun s => (f s).bind fun x => (Y3 x.1).map fun b => (b, x.2)
theorem br {α β : Type} {xs : List α} {ys : List β} (h : xs.length = ys.length) : xs.isEmpty = ys.isEmpty := by cases xs <;> cases ys <;> simp_all
theorem G8 {e : Expr} {f : DE} (h : BO X g e f) (he : ∀ whole, isTrue e X.env whole = (do let v ← whole; standAt e.pos; holding [v] (truthy v)) := by intro _; rfl) : TO X g e (D7 f) :=
 TO.w (gm h.pe he) fun σ H Q hQ => by
  refine hQ.elim fun f0 O s d s' I e k => ?_
  obtain ⟨⟨x, s1⟩, h1, h.pe⟩ := Option.bind_eq_some_iff.mp e
  obtain ⟨d', h3, h.pe⟩ := Option.map_eq_some_iff.mp h.pe
  simp only [Prod.mk.injEq] at h.pe
  obtain ⟨e1, e2⟩ := h.pe
  subst e1; subst e2
  refine ⟨f0, O, s, x, s1, I, h1, fun v H' f1 O1 a I1 r => ⟨d', ?_, k H' f1 O1 a I1⟩⟩
  cases x with
  | non => simp only [RepB, Rep] at r; subst r; cases h3; rfl
  | bl b => simp only [RepB, Rep] at r; subst r; cases h3; rfl
  | int i => simp only [RepB, Rep] at r; subst r; cases h3; rfl
  | str x => simp only [RepB, Rep] at r; obtain ⟨r, l⟩ := r; subst r; cases h3; exact ⟨l, rfl⟩
  | tup ds =>
   simp only [RepB, Rep] at r
   obtain ⟨c, xs, r, q, w⟩ := r
   subst r; cases h3
   exact .inr (.inl ⟨xs, q, by rw [br w.length]⟩)
  | lst ds =>
   obtain ⟨c, xs, r, _, q, w⟩ := r
   subst r; cases h3
   exact .inl ⟨xs, SqL.of q, by rw [br w.length]⟩
  | feed => cases h3
  | scr _ => cases h3
  | fn _ => cases h3
  | exc _ _ => cases h3
noncomputable def E3 (a b : DT) : DT := fun s => (a s).bind fun x => if x.1 = true then b x.2 else some (false, x.2)
noncomputable def F7 (a b : DT) : DT := fun s => (a s).bind fun x => if x.1 = true then some (true, x.2) else b x.2
noncomputable def D2 (a : DT) : DT := fun s => (a s).map fun x => (!x.1, x.2)
variable {ta tb : DT} {rest : List Expr}
theorem je (h : TO X g a ta) : WO X g (.BoolOp .And [a] pos) ta := ⟨cm h.pe⟩
theorem bH (h : TO X g a ta) : WO X g (.BoolOp .Or [a] pos) ta := ⟨hX h.pe⟩
theorem eF (ha : TO X g a ta) (hb : WO X g (.BoolOp .And (b :: rest) pos) tb) : WO X g (.BoolOp .And (a :: b :: rest) pos) (E3 ta tb) := WO.w (dr ha.pe hb.pe) fun σ H Q hQ => by
 refine hQ.elim fun f0 O s d s' I e k => ?_
 refine d8 e fun x s1 h1 h => ?_
 refine ⟨f0, O, s, x, s1, I, h1, fun H1 f1 O1 a1 I1 => ?_⟩
 cases x with
 | true => rw [if_pos rfl] at h ⊢; exact ⟨f1, O1, s1, d, s', I1, h, fun H2 f2 O2 a2 I2 => k H2 f2 O2 (a1.trans a2) I2⟩
 | false =>
  rw [if_neg Bool.false_ne_true] at h ⊢
  simp only [Option.some.injEq, Prod.mk.injEq] at h
  obtain ⟨e1, e2⟩ := h
  subst e1; subst e2
  exact k H1 f1 O1 a1 I1
theorem U2 (ha : TO X g a ta) (hb : WO X g (.BoolOp .Or (b :: rest) pos) tb) : WO X g (.BoolOp .Or (a :: b :: rest) pos) (F7 ta tb) := WO.w (dU ha.pe hb.pe) fun σ H Q hQ => by
 refine hQ.elim fun f0 O s d s' I e k => ?_
 refine d8 e fun x s1 h1 h => ?_
 refine ⟨f0, O, s, x, s1, I, h1, fun H1 f1 O1 a1 I1 => ?_⟩
 cases x with
 | false => rw [if_neg Bool.false_ne_true] at h ⊢; exact ⟨f1, O1, s1, d, s', I1, h, fun H2 f2 O2 a2 I2 => k H2 f2 O2 (a1.trans a2) I2⟩
 | true =>
  rw [if_pos rfl] at h ⊢
  simp only [Option.some.injEq, Prod.mk.injEq] at h
  obtain ⟨e1, e2⟩ := h
  subst e1; subst e2
  exact k H1 f1 O1 a1 I1
theorem WO.t {e : Expr} {f : DT} (h : WO X g e f) : TO X g e f := ⟨h.pe.pt⟩
theorem N0 (ha : TO X g a ta) : TO X g (.UnaryOp .Not a pos) (D2 ta) := TO.w (jf ha.pe) fun σ H Q hQ => by
 refine hQ.elim fun f0 O s d s' I e k => ?_
 refine mapP e fun x s1 h1 h => ?_
 simp only [Prod.mk.injEq] at h
 obtain ⟨e1, e2⟩ := h
 subst e1; subst e2
 exact ⟨f0, O, s, x, s1, I, h1, fun H1 f1 O1 a1 I1 => k H1 f1 O1 a1 I1⟩
noncomputable def C9 (c : DT) (a b : DE) : DE := fun s => (c s).bind fun x => if x.1 = true then a x.2 else b x.2
theorem jj {c : Expr} {fc : DT} (hc : TO X g c fc) (ha : EO X g a fa) (hb : EO X g b fb) : EO X g (.IfExp c a b pos) (C9 fc fa fb) := EO.w (jt hc.pe ha.pe hb.pe) fun σ H Q hQ => by
 refine hQ.elim fun f0 O s d s' I e k => ?_
 refine d8 e fun x s1 h1 h => ?_
 refine ⟨f0, O, s, x, s1, I, h1, fun H1 f1 O1 a1 I1 => ?_⟩
 cases x with
 | false => rw [if_neg Bool.false_ne_true] at h ⊢; exact ⟨f1, O1, s1, d, s', I1, h, fun v H2 f2 O2 a2 I2 => k v H2 f2 O2 (a1.trans a2) I2⟩
 | true => rw [if_pos rfl] at h ⊢; exact ⟨f1, O1, s1, d, s', I1, h, fun v H2 f2 O2 a2 I2 => k v H2 f2 O2 (a1.trans a2) I2⟩
noncomputable def a9 : DA := fun s => some ([], s)
noncomputable def a0 (a : DE) (r : DA) : DA := fun s => (a s).bind fun x => (r x.2).map fun y => (x.1 :: y.1, y.2)
theorem F3 {a : DE} {r : DA} {s s' : DS} {ds : List D} (h : a0 a r s = some (ds, s')) : ∃ d s1 es, a s = some (d, s1) ∧ r s1 = some (es, s') ∧ ds = d :: es := by
 refine d8 h fun x s1 h1 h => ?_
 refine mapP h fun y s2 h2 h => ?_
 simp only [Prod.mk.injEq] at h
 exact ⟨x, s1, y, h1, by rw [h2, h.2], h.1.symm⟩
variable {es : List Expr} {fr : DA}
theorem n8 : AO X g [] a9 := AO.w F9 fun σ H Q hQ => by
 refine hQ.elim fun f0 O s d s' I e k => ?_
 simp only [a9, Option.some.injEq, Prod.mk.injEq] at e
 obtain ⟨e1, e2⟩ := e
 subst e1; subst e2
 exact k [] H f0 O StE.refl I (by simp only [Reps])
theorem U8 (ha : EO X g a fa) (hr : AO X g es fr) (hs : starEach (a :: es) X.env = (false, eval a X.env) :: starEach es X.env := by rfl) : AO X g (a :: es) (a0 fa fr) := AO.w (A2 ha.pe hr.pe hs) fun σ H Q hQ => by
 refine hQ.elim fun f0 O s ds s' I e k => ?_
 obtain ⟨d, s1, es, h1, h2, h3⟩ := F3 e
 subst h3
 refine ⟨f0, O, s, d, s1, I, h1, fun v H1 f1 O1 a1 I1 r1 => ⟨f1, O1, s1, es, s', I1, h2, fun vs H2 f2 O2 a2 I2 r2 => ?_⟩⟩
 refine k (v :: vs) H2 f2 O2 (a1.trans a2) I2 ?_
 simp only [Reps]
 exact ⟨v, vs, rfl, Rep.stp I1 a2.stp r1, r2⟩
theorem eN : BAO X g [] a9 := BAO.w F9 fun σ H Q hQ => by
 refine hQ.elim fun f0 O s d s' I e k => ?_
 simp only [a9, Option.some.injEq, Prod.mk.injEq] at e
 obtain ⟨e1, e2⟩ := e
 subst e1; subst e2
 exact k [] H f0 O StE.refl I (by simp only [A7])
theorem fZ (ha : BO X g a fa) (hr : BAO X g es fr) (hs : starEach (a :: es) X.env = (false, eval a X.env) :: starEach es X.env := by rfl) : BAO X g (a :: es) (a0 fa fr) := BAO.w (A2 ha.pe hr.pe hs) fun σ H Q hQ => by
 refine hQ.elim fun f0 O s ds s' I e k => ?_
 obtain ⟨d, s1, es, h1, h2, h3⟩ := F3 e
 subst h3
 refine ⟨f0, O, s, d, s1, I, h1, fun v H1 f1 O1 a1 I1 r1 => ⟨f1, O1, s1, es, s', I1, h2, fun vs H2 f2 O2 a2 I2 r2 => ?_⟩⟩
 exact k (v :: vs) H2 f2 O2 (a1.trans a2) I2 ⟨v, vs, rfl, RepB.stp I1 a2 r1, r2⟩
noncomputable def P0 (f : DA) : DE := fun s => (f s).bind fun x => if x.1.length ≤ sizeLine then some (.tup x.1, x.2) else none
noncomputable def k9 (f : DA) : DA := fun s => (f s).bind fun x => if x.1.length ≤ sizeLine then some (x.1, x.2) else none
theorem df {x1} (h : AO X g es fr) : EO X g (.Tuple es x1 pos) (P0 fr) := EO.w (bP h.pe) fun σ H Q hQ => by
 refine hQ.elim fun f0 O s d s' I e k => ?_
 obtain ⟨⟨ds, s1⟩, h1, h.pe⟩ := Option.bind_eq_some_iff.mp e
 by_cases hl : ds.length ≤ sizeLine
 ·rw [if_pos hl] at h.pe
  simp only [Option.some.injEq, Prod.mk.injEq] at h.pe
  obtain ⟨e1, e2⟩ := h.pe
  subst e1; subst e2
  refine ⟨f0, O, s, ds, s1, I, h1, fun vs H1 f1 O1 a1 I1 r1 => ⟨by rw [r1.length]; exact hl, fun p hp => ?_⟩⟩
  have a2 : StE f1 O1 H1 f1 O1 (a7 H1 p (.tup vs)) := j8 hp
  refine k _ _ f1 O1 (a1.trans a2) (I1.new hp) ?_
  simp only [Rep]
  exact ⟨p, vs, rfl, SqT.of e7, Reps.stp I1 a2.stp r1⟩
 ·rw [if_neg hl] at h.pe; cases h.pe
theorem A1 (h : AO X g es fr) : FO X g (.List es pos) (k9 fr) := FO.w (cE h.pe) fun σ H Q hQ => by
 refine hQ.elim fun f0 O s d s' I e k => ?_
 obtain ⟨⟨ds, s1⟩, h1, h.pe⟩ := Option.bind_eq_some_iff.mp e
 by_cases hl : ds.length ≤ sizeLine
 ·rw [if_pos hl] at h.pe
  simp only [Option.some.injEq, Prod.mk.injEq] at h.pe
  obtain ⟨e1, e2⟩ := h.pe
  subst e1; subst e2
  refine ⟨f0, O, s, ds, s1, I, h1, fun vs H1 f1 O1 a1 I1 r1 => ⟨by rw [r1.length]; exact hl, fun p hp => ?_⟩⟩
  have a2 : StE f1 O1 H1 f1 O1 (a7 H1 p (.lst vs)) := j8 hp
  exact k p vs _ f1 O1 (a1.trans a2) (J4 I1 hp r1) (a1.mon _ hp)
 ·rw [if_neg hl] at h.pe; cases h.pe
end
section
variable {K : PySem.W.Frag} {g : Gh} {σ : L2.St} {H H' : Hp} {fa fa' : Option Addr} {O O' : List Addr} {s s' : DS}
theorem NN.mono {F : Addr → Prop} {P : List Addr} (h : ∀ b ∈ P, b ∈ O) {b : Addr} (z : NN F fa P b) : NN F fa O b := by
 rcases z with z | z | z
 ·exact .inl z
 ·exact .inr (.inl (h b z))
 ·exact .inr (.inr z)
theorem bJ {F : Addr → Prop} {N : Addr → Prop} (h : ∀ b, NN F fa O b → N b) : Car K N fa H (NN F fa O) fa H := ⟨fun b xs n q => ⟨q, fun z => n (h b z)⟩, fun _ _ q => q, fun _ _ q => q, fun _ q => q⟩
theorem DI.put (I : GI K g σ H fa O s) (i : Nat) {d : D} {v : V} (r : Rep K (NN g.F fa O) fa H d v) : ∃ P, (∀ b ∈ P, b ∈ O) ∧ GI K g (σ.set i (some v)) H fa P { s with sl := s.sl.set i (.val d) } := by
 obtain ⟨P, hs, S, _⟩ := SlR.put i I.sl r
 have sub : ∀ b ∈ P, b ∈ O := fun b hb => hs.subset hb
 have c : Car K (NN g.F fa O) fa H (NN g.F fa P) fa H := bJ fun b => NN.mono sub
 exact ⟨P, sub, hs.nodup I.nd, SlR.go c (fun _ _ _ z => z) S, fun b hb => I.fr b (sub b hb), I.st, I.tr, I.ff, I.fd.car c fun _ _ => rfl, fun b z y => I.nf b z (sub b y)⟩
theorem X6 {P : List Addr} (h : ∀ b ∈ P, b ∈ O) : StE fa O H fa P H := ⟨h, .inl rfl, fun _ _ e _ => e, fun _ e => e⟩
theorem NewL.put {p : Addr} {xs : List V} {ds : List D} (L : NewL K g σ H fa O s p xs ds) (i : Nat) (hi : i < s.sl.length) (h0 : g.H0 p = none) (hp : p ∉ O) : ∃ P, (∀ b ∈ P, b = p ∨ b ∈ O) ∧ GI K g (σ.set i (some (.ref p))) H fa P { s with sl := s.sl.set i (.own ds) } := by
 obtain ⟨P, h1, h2, S⟩ := SlR.putN i L.sl hi hp L.gi.nd L.ls L.rs
 have c : Car K (fun b => NN g.F fa O b ∨ b = p) fa H (NN g.F fa P) fa H := bJ fun b z => by
  rcases z with z | z | z
  ·exact .inl (.inl z)
  ·rcases h1 b z with y | y
   ·exact .inr y
   ·exact .inl (.inr (.inl y))
  ·exact .inl (.inr (.inr z))
 refine ⟨P, h1, h2, SlR.go c (fun _ _ _ z => z) S, fun b hb => ?_, L.gi.st, L.gi.tr, L.gi.ff, L.fd.car c fun _ _ => rfl, fun b z hb => ?_⟩
 ·rcases h1 b hb with y | y
  ·rw [y]; exact h0
  ·exact L.gi.fr b y
 ·rcases h1 b hb with y | y
  ·rw [y] at z; exact L.nf z
  ·exact L.gi.nf b z y
theorem DI.rew (I : GI K g σ H fa O s) {i : Nat} {ds es : List D} {a : Addr} {xs ys : List V} (e1 : s.sl[i]? = some (.own ds)) (e2 : σ[i]? = some (some (.ref a))) (m : a ∈ O) (e3 : H a = some (.lst xs)) (r : Reps K (NN g.F fa O) fa H es ys) :
  GI K g σ (a7 H a (.lst ys)) fa O { s with sl := s.sl.set i (.own es) } ∧ Stp fa O H fa O (a7 H a (.lst ys)) := by
 have a1 : Stp fa O H fa O (a7 H a (.lst ys)) := ⟨fun b hb => .inl hb, .inl rfl, fun b u e n _ => by
  rw [a8 (show b ≠ a from fun z => n (by rw [z]; exact m))]; exact e, fun b z => by
  by_cases hb : b = a
  ·subst hb; rw [e7] at z; cases z
  ·rw [a8 hb] at z; exact z⟩
 have c := I.car a1
 have k : ∀ b u, b ≠ a → H b = some u → a7 H a (.lst ys) b = some u := fun b u n e => by rw [a8 n]; exact e
 refine ⟨⟨I.nd, SlR.rew I.sl I.nd (fun b hb => .inr (.inl hb)) e1 e2 e7 c k (Reps.go c es ys r), I.fr, ?_, I.tr, I.ff, I.fd.car c fun b hb => ?_, I.nf⟩, a1⟩
 ·refine ⟨fun b hb => (by cases hb), I.st.fe, fun b u e n f => ?_, fun b z => I.st.mon b (a1.mon b z)⟩
  refine k b u (fun z => ?_) (I.st.same b u e n f)
  rw [z, I.fr a m] at e; cases e
 ·refine a8 fun z => ?_
  subst z
  exact I.nf _ hb m
end
theorem FlK.shift {K : PySem.W.Frag} {g : Gh} {E : Ends} {fa fa' : Option Addr} {O O' : List Addr} {H H' : Hp} {fl : Fl} {s : DS} (a : Stp fa O H fa' O' H') (h : FlK K g E fa O H fl s) : FlK K g E fa' O' H' fl s := by
 cases fl with
 | next => exact fun σ' H2 f2 O2 a2 I2 => h σ' H2 f2 O2 (a.trans a2) I2
 | brk => exact fun σ' H2 f2 O2 a2 I2 => h σ' H2 f2 O2 (a.trans a2) I2
 | cont => exact fun σ' H2 f2 O2 a2 I2 => h σ' H2 f2 O2 (a.trans a2) I2
 | ret d => exact fun σ' v H2 f2 O2 a2 I2 => h σ' v H2 f2 O2 (a.trans a2) I2
noncomputable def u4 : DM := fun s => some (.next, s)
noncomputable def K9 (b : DM) (x : Fl × DS) : Option (Fl × DS) := match x.1 with
 | .next => b x.2
 | .brk => some (.brk, x.2)
 | .cont => some (.cont, x.2)
 | .ret d => some (.ret d, x.2)
noncomputable def c6 (a b : DM) : DM := fun s => (a s).bind (K9 b)
section
variable {X : Cx} {g : Gh} {st : Stmt} {rest : List Stmt} {e : Expr} {pos : Pos} {a b : DM} {f : DE}
theorem M7 : SSO X g [] u4 := SSO.w bL fun E σ H hQ => by
 refine hQ.elim fun fa O s fl s' I e k => ?_
 cases e
 exact k σ H fa O Stp.refl I
theorem u3 (h : SO X g st a) : SSO X g [st] a := ⟨gA h.pe⟩
theorem i8 (h : SO X g st a) (hr : SSO X g rest b) : SSO X g (st :: rest) (c6 a b) := SSO.w (gH h.pe hr.pe) fun E σ H hQ => by
 refine hQ.elim fun fa O s fl s' I e k => ?_
 refine d8 e fun f1 s1 h1 h2 => ?_
 refine ⟨fa, O, s, f1, s1, I, h1, ?_⟩
 cases f1 with
 | next => exact fun σ' H' f1 O1 a1 I1 => ⟨f1, O1, s1, fl, s', I1, h2, k.shift a1⟩
 | brk => cases h2; exact k
 | cont => cases h2; exact k
 | ret d => cases h2; exact k
noncomputable def j5 (f : DE) : DM := fun s => (f s).map fun x => (.ret x.1, x.2)
theorem A9 (he : EO X g e f) : SO X g (.Return (some e) pos) (j5 f) := SO.w (iA he.pe) fun E σ H hQ => by
 refine hQ.elim fun fa O s fl s' I q k => ?_
 refine mapP q fun d s1 h1 h2 => ?_
 cases h2
 exact ⟨fa, O, s, d, s1, I, h1, fun v H' f1 O1 a1 I1 r => k σ v H' f1 O1 a1.stp I1 r⟩
noncomputable def k8 (c : DT) (a b : DM) : DM := fun s => (c s).bind fun x => if x.1 = true then a x.2 else b x.2
theorem K7 {c : Expr} {fc : DT} {la lb : List Stmt} (hc : TO X g c fc) (ha : SSO X g la a) (hb : SSO X g lb b) : SO X g (.If c la lb pos) (k8 fc a b) := SO.w (gC hc.pe ha.pe hb.pe) fun E σ H hQ => by
 refine hQ.elim fun fa O s fl s' I e k => ?_
 refine d8 e fun x s1 h1 h => ?_
 refine ⟨fa, O, s, x, s1, I, h1, fun H1 f1 O1 a1 I1 => ?_⟩
 cases x with
 | false => rw [if_neg Bool.false_ne_true] at h ⊢; exact ⟨f1, O1, s1, fl, s', I1, h, k.shift a1.stp⟩
 | true => rw [if_pos rfl] at h ⊢; exact ⟨f1, O1, s1, fl, s', I1, h, k.shift a1.stp⟩
noncomputable def liftG (K : PySem.W.Frag) (g : Gh) (t : D → DS → Option DS) : TG := fun v σ H Q => ∃ fa O s d s', GI K g σ H fa O s ∧ Rep K (NN g.F fa O) fa H d v ∧ t d s = some s' ∧ ∀ σ' H' fa' O', Stp fa O H fa' O' H' → GI K g σ' H' fa' O' s' → Q σ' H'
section
variable {K : PySem.W.Frag} {g : Gh} {σ : L2.St} {Q : L2.St → Hp → Prop} {H : Hp} {G : Prop}
theorem liftG.elim {t : D → DS → Option DS} {v : V} (h : liftG K g t v σ H Q) (k : ∀ fa O s d s', GI K g σ H fa O s → Rep K (NN g.F fa O) fa H d v → t d s = some s' → (∀ σ' H' fa' O', Stp fa O H fa' O' H' → GI K g σ' H' fa' O' s' → Q σ' H') → G) : G := by
 obtain ⟨fa, O, s, d, s', a, r, b, c⟩ := h
 exact k fa O s d s' a r b c
end
structure GO (X : Cx) (g : Gh) (e : Expr) (t : D → DS → Option DS) : Prop where
 pe : PG X e (liftG X.K g t)
noncomputable def d7 (i : Nat) (d : D) : DS → Option DS := fun s => some { s with sl := s.sl.set i (.val d) }
theorem iJ {t t' : TG} (h : PG X e t) (w : ∀ v σ H Q, t' v σ H Q → t v σ H Q) : PG X e t' := fun pins s σ H v u Q I r q => h pins s σ H v u Q I r (w v σ H Q q)
theorem GO.w {f : D → DS → Option DS} {t : TG} (h : PG X e t) (w : ∀ v σ H Q, liftG X.K g f v σ H Q → t v σ H Q) : GO X g e f := ⟨iJ h w⟩
theorem fy {i : Nat} {x : Str} (h : PG X (.Name x pos) (G4 i)) : GO X g (.Name x pos) (d7 i) := GO.w h fun v σ H Q hQ => by
 refine hQ.elim fun fa O s d s' I r e k => ?_
 cases e
 obtain ⟨P, sub, I'⟩ := I.put i r
 exact k _ H fa P (X6 sub).stp I'
noncomputable def jy (n : Nat) (u : List D → DS → Option DS) (d : D) (s : DS) : Option DS := match d with
 | .tup ds => if ds.length = n then u ds s else none
 | _ => none
noncomputable def e8 (f : DE) (t : D → DS → Option DS) : DM := fun s => (f s).bind fun x => (t x.1 x.2).map fun s' => (.next, s')
theorem cD {f : DE} {t : D → DS → Option DS} (E : Ends) (σ : L2.St) (H : Hp) (h : liftS X.K g (e8 f t) E σ H) : ai (liftE X.K g f) (liftG X.K g t) E σ H := by
 obtain ⟨fa, O, s, fl, s', I, q, k⟩ := h
 refine d8 q fun d s1 h1 h2 => ?_
 refine v3 h2 fun s2 h3 h4 => ?_
 cases h4
 exact ⟨fa, O, s, d, s1, I, h1, fun v H1 f1 O1 a1 I1 r => ⟨f1, O1, s1, d, _, I1, r, h3, fun σ2 H2 f2 O2 a2 I2 => k σ2 H2 f2 O2 (a1.stp.trans a2) I2⟩⟩
theorem ae {i : Nat} {x : Str} {pos' : Pos} (hN : X.N.Nodup) (hi : X.N[i]? = some x) (hx : B9 X.env.scope x) (he : EO X g e f) (hs : swapsWith e (some (.Name x pos')) pos.line X.env = pure false := by rfl) (hf : X.fn x = true ∨ X.env.scope.names.lookup x = some .local := by first | exact .inl rfl | exact .inr rfl | assumption) :
  SO X g (.Assign [.Name x pos'] e pos) (e8 f (d7 i)) := SO.w (X8 hN hi hx he.pe hs hf) fun E σ H h => by
 obtain ⟨fa, O, s, d, s1, I, h1, k⟩ := cD E σ H h
 refine ⟨fa, O, s, d, s1, I, h1, fun v H1 f1 O1 a1 I1 r => ?_⟩
 obtain ⟨f2, O2, s2, d2, s3, I2, r2, e2, k2⟩ := k v H1 f1 O1 a1 I1 r
 cases e2
 obtain ⟨P, sub, I'⟩ := I2.put i r2
 exact k2 _ H1 f2 P (X6 sub).stp I'
noncomputable def B2 (i : Nat) (f : DA) : DM := fun s => (f s).bind fun x => if i < x.2.sl.length then some (.next, { x.2 with sl := x.2.sl.set i (.own x.1) }) else none
theorem C1 {i : Nat} {x : Str} {f : DA} {pos' : Pos} (hN : X.N.Nodup) (hi : X.N[i]? = some x) (hx : B9 X.env.scope x) (he : FO X g e f) (hs : swapsWith e (some (.Name x pos')) pos.line X.env = pure false := by rfl) (hf : X.fn x = true ∨ X.env.scope.names.lookup x = some .local := by first | exact .inl rfl | exact .inr rfl | assumption) :
  SO X g (.Assign [.Name x pos'] e pos) (B2 i f) := SO.w (X8 hN hi hx he.pe hs hf) fun E σ H hQ => by
 refine hQ.elim fun fa O s fl s' I q k => ?_
 refine d8 q fun ds s1 h1 h2 => ?_
 by_cases hl : i < s1.sl.length
 ·simp only [] at h2
  rw [if_pos hl] at h2
  cases h2
  refine ⟨fa, O, s, ds, s1, I, h1, fun p xs H1 f1 O1 a1 L hp => ?_⟩
  have np : p ∉ O1 := fun z => by
   obtain ⟨ys, e⟩ := I.owned (a1.sub p z)
   rw [hp] at e; cases e
  obtain ⟨P, sub, I'⟩ := L.put i hl (I.st.mon p hp) np
  refine k _ H1 f1 P ⟨fun b hb => ?_, a1.fe, fun b u e _ n => a1.same b u e n, a1.mon⟩ I'
  rcases sub b hb with y | y
  ·exact .inr (by rw [y]; exact hp)
  ·exact .inl (a1.sub b y)
 ·simp only [] at h2
  rw [if_neg hl] at h2; cases h2
noncomputable def C4 (i : Nat) (f : DE) : DM := fun s => match s.sl[i]? with
 | some (.own _) => (f s).bind fun x => match x.2.sl[i]? with
  | some (.own ds) => if ds.length < sizeLine then some (.next, { x.2 with sl := x.2.sl.set i (.own (ds ++ [x.1])) }) else none
  | _ => none
 | _ => none
theorem W5 {i : Nat} {x : Str} {p1 p2 p3 p4 : Pos} (hv : PE X (.Name x p1) (w6 i)) (he : EO X g e f) (hbase : attributeBase (.Name x p1) ("append" : Str) X.env (eval (.Name x p1) X.env) = eval (.Name x p1) X.env := by rfl)
  (hfew : ((backTo p3 (starEach [e] X.env)).all (fun x => !x.1) && (backToKw p3 (keywordEach [] X.env)).all (fun x => x.1.isSome)
   && decide ([e].length + ([] : List Keyword).length + (if ([] : List Keyword).isEmpty then 0 else 1) < 30)) = true := by rfl)
  (hline : (p2.endLine == p3.line) = true := by rfl) (hs : starEach [e] X.env = (false, eval e X.env) :: starEach [] X.env := by rfl) (hplain : (backTo p3 (starEach [] X.env)).any (·.1) = false := by rfl)
  (hsw : swapsWith (.Call (.Attribute (.Name x p1) ("append" : Str) p2) [e] [] p3) none p4.line X.env = pure false := by rfl) :
  SO X g (.Expr (.Call (.Attribute (.Name x p1) ("append" : Str) p2) [e] [] p3) p4) (C4 i f) :=
 SO.w (gS (iL PySem.F.plainAttrs_list PySem.F.slot_list_append PySem.F.type_list_append aG hv (A2 he.pe F9 hs) hbase hfew hline hs hplain) hsw) fun E σ H hQ => by
  refine hQ.elim fun fa O s fl s' I q k => ?_
  cases q0 : s.sl[i]? with
  | none => simp only [C4, q0] at q; cases q
  | some z =>
  cases z with
  | no => simp only [C4, q0] at q; cases q
  | val _ => simp only [C4, q0] at q; cases q
  | own ds0 =>
  simp only [C4, q0] at q
  obtain ⟨a, xs0, e1, m, e2, _⟩ := SlR.own I.sl q0
  refine d8 q fun d s1 h1 h2 => ?_
  cases q2 : s1.sl[i]? with
  | none => simp only [q2] at h2; cases h2
  | some z =>
   cases z with
   | no => simp only [q2] at h2; cases h2
   | val _ => simp only [q2] at h2; cases h2
   | own ds =>
    simp only [q2] at h2
    by_cases hl : ds.length < sizeLine
    ·rw [if_pos hl] at h2
     cases h2
     refine ⟨_, e1, .inl ⟨rfl, xs0, SqL.of e2⟩, fa, O, s, d, s1, I, h1, fun v H1 f1 O1 a1 I1 r => ?_⟩
     obtain ⟨b, xs, e3, m1, e4, r1⟩ := SlR.own I1.sl q2
     rw [e1] at e3; cases e3
     obtain ⟨I2, a2⟩ := I1.rew q2 e1 m1 e4 (Reps.append r1 (Reps.one r))
     exact ⟨a, xs, v, rfl, rfl, e4, by rw [r1.length]; exact hl, k σ _ f1 O1 (a1.stp.trans a2) I2⟩
    ·rw [if_neg hl] at h2; cases h2
end
noncomputable def m9 (t : D → DS → Option DS) (b : DM) : List D → DS → Option (Fl × DS)
 | [], s => some (.next, s)
 | d :: r, s => (t d s).bind fun s1 => (b s1).bind fun x => match x.1 with
  | .next => m9 t b r x.2
  | .cont => m9 t b r x.2
  | .brk => some (.next, x.2)
  | .ret v => some (.ret v, x.2)
noncomputable def G7 (K : PySem.W.Frag) (g : Gh) (f1 : Option Addr) (O1 : List Addr) (H1 : Hp) (t : D → DS → Option DS) (b : DM) (ds : List D) (fl : Fl) (sf : DS) (i : Nat) : L2.St → Hp → Prop := fun σ' H' =>
 ∃ fa' O' s', Stp f1 O1 H1 fa' O' H' ∧ GI K g σ' H' fa' O' s' ∧ m9 t b (ds.drop i) s' = some (fl, sf)
section
variable {K : PySem.W.Frag} {g : Gh} {f1 : Option Addr} {O1 : List Addr} {H1 H' : Hp} {t : D → DS → Option DS} {b : DM} {ds : List D} {fl : Fl} {sf : DS} {i : Nat} {E : Ends} {σ' : L2.St}
theorem ax {α : Type} {l : List α} {i : Nat} {d : α} (h : l[i]? = some d) : l.drop i = d :: l.drop (i + 1) := by
 obtain ⟨hi, e⟩ := List.getElem?_eq_some_iff.mp h
 rw [List.drop_eq_getElem_cons hi, e]
theorem ed (hk : FlK K g E f1 O1 H1 fl sf) {d : D} {x : V} (hd : ds[i]? = some d) (hr : ∀ fa' O', Stp f1 O1 H1 fa' O' H' → Rep K (NN g.F fa' O') fa' H' d x) (h : G7 K g f1 O1 H1 t b ds fl sf i σ' H') :
  liftG K g t x σ' H' fun σ2 H2 => liftS K g b { E with nx := G7 K g f1 O1 H1 t b ds fl sf (i + 1), ct := G7 K g f1 O1 H1 t b ds fl sf (i + 1), bk := E.nx } σ2 H2 := by
 obtain ⟨fa', O', s', st, I, e⟩ := h
 rw [ax hd, m9] at e
 refine F0 e fun s1 h1 h2 => ?_
 refine d8 h2 fun fb s2 h3 h4 => ?_
 refine ⟨fa', O', s', d, s1, I, hr fa' O' st, h1, fun σ2 H2 f2 O2 a2 I2 => ⟨f2, O2, s1, fb, s2, I2, h3, ?_⟩⟩
 cases fb with
 | next => exact fun σ3 H3 f3 O3 a3 I3 => ⟨f3, O3, s2, st.trans (a2.trans a3), I3, h4⟩
 | cont => exact fun σ3 H3 f3 O3 a3 I3 => ⟨f3, O3, s2, st.trans (a2.trans a3), I3, h4⟩
 | brk => cases h4; exact fun σ3 H3 f3 O3 a3 I3 => hk σ3 H3 f3 O3 (st.trans (a2.trans a3)) I3
 | ret v => cases h4; exact fun σ3 v H3 f3 O3 a3 I3 r => hk σ3 v H3 f3 O3 (st.trans (a2.trans a3)) I3 r
theorem cn (hk : FlK K g E f1 O1 H1 fl sf) {n : Nat} (hn : ds.length ≤ n) (h : G7 K g f1 O1 H1 t b ds fl sf n σ' H') : E.nx σ' H' := by
 obtain ⟨fa', O', s', st, I, e⟩ := h
 rw [List.drop_eq_nil_of_le hn, m9] at e
 cases e
 exact hk σ' H' fa' O' st I
end
noncomputable def jx (f : DE) (t : D → DS → Option DS) (b : DM) : DM := fun s => (f s).bind fun x => match x.1 with
 | .lst ds => m9 t b ds x.2
 | .tup ds => m9 t b ds x.2
 | _ => none
section
variable {X : Cx} {g : Gh} {tg iter : Expr} {body : List Stmt} {f : DE} {t : D → DS → Option DS} {b : DM} {pos : Pos}
noncomputable def k7 (lo : Int) (n : Nat) : List D := (List.range n).map fun (i : Nat) => D.int (lo + (i : Int))
theorem S4 {lo : Int} {n i : Nat} (h : i < n) : (k7 lo n)[i]? = some (.int (lo + (i : Int))) := by simp [k7, h]
theorem K6 (lo : Int) (n : Nat) : (k7 lo n).length = n := by simp [k7]
noncomputable def C8 : List D → Option (List D)
 | [.int j] => if -(2 ^ 62) ≤ j ∧ j < 2 ^ 62 then some (k7 0 j.toNat) else none
 | [.int i, .int j] => if -(2 ^ 62) ≤ i ∧ i < 2 ^ 62 ∧ -(2 ^ 62) ≤ j ∧ j < 2 ^ 62 then some (k7 i (j - i).toNat) else none
 | _ => none
noncomputable def F2 (f : DA) (t : D → DS → Option DS) (b : DM) : DM := fun s => (f s).bind fun x => (C8 x.1).bind fun ds => m9 t b ds x.2
theorem X9 {ds es : List D} {a : D} (h : C8 ds = some es) (l : ds = [a]) : ∃ j : Int, a = .int j ∧ -(2 ^ 62) ≤ j ∧ j < 2 ^ 62 ∧ es = k7 0 j.toNat := by
 subst l
 cases a with
 | int j =>
  have h : (if -(2 ^ 62) ≤ j ∧ j < 2 ^ 62 then some (k7 0 j.toNat) else none) = some es := h
  by_cases hj : -(2 ^ 62) ≤ j ∧ j < 2 ^ 62
  ·rw [if_pos hj] at h; cases h; exact ⟨j, rfl, hj.1, hj.2, rfl⟩
  ·rw [if_neg hj] at h; cases h
 | _ => cases h
theorem R3 {a : Expr} {fa : DE} {p cpos : Pos} (hp : PassesOwn (model X.prog X.w) X.A X.env X.xe) (hc : X.calm = true) (hgl : Gl X "range") (hm : X.mg "range" = none) (ha : EO X g a fa) (hg : GO X g tg t) (hb : SSO X g body b)
  (hs1 : starEach [a] X.env = [(false, eval a X.env)] := by rfl) (hs : ∀ x, foldedSetIterable (.Call (.Name "range" p) [a] [] cpos) X.env x = pure x := by intro _; rfl) :
  SO X g (.For tg (.Call (.Name "range" p) [a] [] cpos) body [] pos) (F2 (a0 fa a9) t b) :=
 SO.w (jo hp hc (bb hgl hm (U8 ha n8 hs1).pe hs1) hg.pe hb.pe hs) fun E σ H hQ => by
  refine hQ.elim fun fa O s fl sf I q k => ?_
  refine d8 q fun ds s1 h1 h2 => ?_
  refine F0 h2 fun es h3 h4 => ?_
  obtain ⟨d, s2, rs, e1, e2, e3⟩ := F3 h1
  cases e2
  obtain ⟨j, rfl, j1, j2, rfl⟩ := X9 h3 e3
  refine ⟨fa, O, s, ds, s1, I, h1, fun vs H1 f1 O1 a1 I1 r => ?_⟩
  have k1 := k.shift a1.stp
  rw [e3] at r
  simp only [Reps, Rep] at r
  obtain ⟨x, ys, rfl, rfl, rfl⟩ := r
  refine ⟨j, rfl, j1, j2, fQ (lo := 0) (n := j.toNat) (G7 X.K g f1 O1 H1 t b (k7 0 j.toNat) fl sf) ⟨f1, O1, s1, Stp.refl, I1, h4⟩ ?_ ?_⟩
  ·intro i σ' H' hi h
   exact ed k1 (S4 hi) (fun fa' O' st => by simp only [Rep]) h
  ·intro σ' H' h
   exact cn k1 (by rw [K6]; exact Nat.le_refl _) h
end
noncomputable abbrev c7 := List D → Option FS → Option (D × Option FS)
noncomputable def B6 (K : PySem.W.Frag) (n : Nat) (m : c7) : Sp := fun vs H Q _ => ∃ (F : Addr → Prop) (fa : Option Addr) (ds : List D) (fs : Option FS) (d : D) (fs' : Option FS),
 (∀ b, F b → H b ≠ none) ∧ (∀ a, fa = some a → F a) ∧ Reps K F fa H ds vs ∧ FeedR F H fa fs ∧ m ds fs = some (d, fs') ∧ ds.length = n ∧
  ∀ v H' fa', Stp fa [] H fa' [] H' → FeedR (fun b => F b ∨ fa' = some b) H' fa' fs' → Rep K (fun b => F b ∨ fa' = some b) fa' H' d v → Q v H'
noncomputable abbrev K5 (P : Program) (w : World) (K : PySem.W.Frag) (mg : Str → Option Value) (base : Heap) (k : Nat) (f : Addr) (fd : FuncData) (ps : List Str) (m : c7) : Prop := FnOk P w K mg base p0 k f fd ps (B6 K ps.length m)
noncomputable def t5 (n : Nat) (b : DM) : c7 := fun ds fs => (b ⟨ds.map .val ++ List.replicate (n - ds.length) .no, fs⟩).bind fun x => match x.1 with
 | .ret d => some (d, x.2.fs)
 | .next => some (.non, x.2.fs)
 | _ => none
theorem au {K : PySem.W.Frag} {N : Addr → Prop} {fa : Option Addr} {H : Hp} : ∀ n : Nat, SlR K N fa H (List.replicate n .no) (List.replicate n none) []
 | 0 => by simp [SlR]
 | n + 1 => by
  simp only [List.replicate_succ, SlR]
  exact ⟨_, _, rfl, au n⟩
theorem W3 {K : PySem.W.Frag} {N : Addr → Prop} {fa : Option Addr} {H : Hp} {n : Nat} : ∀ {ds : List D} {vs : List V}, Reps K N fa H ds vs → SlR K N fa H (ds.map .val ++ List.replicate n .no) (vs.map some ++ List.replicate n none) []
 | [], vs, h => by simp only [Reps] at h; subst h; simpa using au n
 | d :: r, vs, h => by
  simp only [Reps] at h
  obtain ⟨x, ys, rfl, h1, h2⟩ := h
  simp only [List.map_cons, List.cons_append, SlR]
  exact ⟨x, _, rfl, h1, W3 h2⟩
section
variable {P : Program} {w : World} {K : PySem.W.Frag} {mg : Str → Option Value} {base : Heap}
theorem aM {x qual : Str} {st : Stmt} {f : Addr} {fd : FuncData} {N ps : List Str} {k : Nat} {b : DM} (F : Fun K x qual st f fd) (S : FnScope N ps (e6 st))
  (hbody : ∀ (cdv : Value) (A : Around) (outer : List Env) (s : Shared) (H : Hp) (E : XK) (g : Gh), Room k (A.deeper (PyProof.Rows.envOfC qual (e6 st) s.heap.objs.size f cdv)) → SSO (t7 p0 P w K mg base N qual (e6 st) f cdv A outer s H E).nox g (m8 st) b) :
  K5 P w K mg base (k + 1) f fd ps (t5 N.length b) := by
 refine F.ok S (fun vs H Q E h => ?_) (fun cdv A outer s H vs Q E hr h => ?_)
 ·obtain ⟨F, fa, ds, fs, d, fs', _, _, r, _, _, hl, _⟩ := h
  rw [r.length]; exact hl
 obtain ⟨F, fa, ds, fs, d, fs', tr, ff, r, fd, e, hl, q⟩ := h
 refine ⟨_, (hbody cdv A outer s H E ⟨F, H, fa⟩ hr).pe, ?_⟩
 refine d8 e fun fl s' h1 h2 => ?_
 have hN : ∀ b, NN F fa [] b → F b := fun b z => by
  rcases z with z | z | z
  ·exact z
  ·cases z
  ·exact ff b z
 have c : Car K F fa H (NN F fa []) fa H := ⟨fun b xs n q => ⟨q, fun z => n (hN b z)⟩, fun _ _ q => q, fun _ _ q => q, fun _ q => q⟩
 have el : (L2.start N vs) = vs.map some ++ List.replicate (N.length - ds.length) none := by rw [L2.start, r.length]
 have I : GI K ⟨F, H, fa⟩ (L2.start N vs) H fa [] ⟨ds.map .val ++ List.replicate (N.length - ds.length) .no, fs⟩ := by
  refine ⟨List.nodup_nil, ?_, fun b hb => (by cases hb), Stp.refl, tr, ff, fd.car c fun _ _ => rfl, fun _ _ z => (by cases z)⟩
  rw [el]
  exact W3 (Reps.go c ds vs r)
 have fin : ∀ {fa' : Option Addr} {O' : List Addr} {H' : Hp} {σ' : L2.St} {v : V} {dd : D}, Stp fa [] H fa' O' H' → GI K ⟨F, H, fa⟩ σ' H' fa' O' s' → Rep K (NN F fa' O') fa' H' dd v → dd = d → s'.fs = fs' → Q v H' := by
  intro fa' O' H' σ' v dd a1 I1 r1 e1 e2
  subst e1; subst e2
  have c1 : Car K (NN F fa' O') fa' H' (fun b => F b ∨ fa' = some b) fa' H' := ⟨fun b xs n q => ⟨q, fun z => n (by
   rcases z with z | z
   ·exact .inl z
   ·exact .inr (.inr z))⟩, fun _ _ q => q, fun _ _ q => q, fun _ q => q⟩
  exact q v H' fa' ⟨fun b hb => (by cases hb), a1.fe, a1.same, a1.mon⟩ (I1.fd.car c1 fun _ _ => rfl) (Rep.go c1 _ _ r1)
 refine ⟨fa, [], _, fl, s', I, h1, ?_⟩
 cases fl with
 | next =>
  simp only [Option.some.injEq, Prod.mk.injEq] at h2
  exact fun σ' H' fa' O' a1 I1 => fin a1 I1 (v := .non) (dd := .non) (by simp only [Rep]) h2.1 h2.2
 | ret dd =>
  simp only [Option.some.injEq, Prod.mk.injEq] at h2
  exact fun σ' v H' fa' O' a1 I1 r1 => fin a1 I1 r1 h2.1 h2.2
 | brk => cases h2
 | cont => cases h2
end
noncomputable def o9 (m : c7) (f : DA) : DE := fun s => (f s).bind fun x => (m x.1 x.2.fs).map fun y => (y.1, { x.2 with fs := y.2 })
section
variable {X : Cx} {g : Gh} {k : Nat} {f : Addr} {fd : FuncData} {ps : List Str} {m : c7} {x : Str} {p pos : Pos} {e : Expr} {es : List Expr} {t : DA}
theorem dI {n : Nat} (hn : ∀ s ds s', t s = some (ds, s') → ds.length = n) (σ : L2.St) (H : Hp) (Q : VK) (h : liftE X.K g (o9 m t) σ H Q) : aQ (B6 X.K n m) [] E0 (liftA X.K g t) σ H Q := by
 obtain ⟨fa, O, s, d, s', I, q, k⟩ := h
 refine d8 q fun ds s1 h1 h2 => ?_
 refine mapP h2 fun d1 fs1 h3 h4 => ?_
 simp only [Prod.mk.injEq] at h4
 obtain ⟨e1, e2⟩ := h4
 subst e1; subst e2
 refine ⟨fa, O, s, ds, s1, I, h1, fun vs H1 f1 O1 a1 I1 r => ?_⟩
 show B6 X.K n m (vs ++ []) H1 Q E0
 rw [List.append_nil]
 refine ⟨NN g.F f1 O1, f1, ds, s1.fs, d1, fs1, fun b hb => I1.nn_tracked hb, fun a ha => .inr (.inr ha), r, I1.fd, h3, hn s ds s1 h1, fun v H2 f2 a2 fd2 r2 => ?_⟩
 have a3 : StE f1 O1 H1 f2 O1 H2 := ⟨fun b hb => hb, a2.fe, fun b u e n => a2.same b u e (by simp) n, a2.mon⟩
 have c := I1.car a3.stp
 have c2 : Car X.K (fun b => NN g.F f1 O1 b ∨ f2 = some b) f2 H2 (NN g.F f2 O1) f2 H2 := ⟨fun b xs n q => ⟨q, fun z => n (by
   rcases z with z | z | z
   ·exact .inl (.inl z)
   ·exact .inl (.inr (.inl z))
   ·exact .inr z)⟩, fun _ _ q => q, fun _ _ q => q, fun _ q => q⟩
 refine k v H2 f2 O1 (a1.trans a3) ⟨I1.nd, SlR.go c (fun b xs hb e => ?_) I1.sl, I1.fr, I1.st.trans ⟨fun b hb => (by cases hb), a2.fe, fun b u e n z => a2.same b u e n z, a2.mon⟩, I1.tr, I1.ff, fd2.car c2 fun _ _ => rfl, I1.nf_step a3.fe⟩ (Rep.go c2 _ _ r2)
 exact a3.same b _ e fun z => I1.nf b z hb
theorem bQ (F : K5 X.prog X.w X.K X.mg X.base k f fd ps m) (hr : Room k X.A) (hg : Gl X x) (hm : X.mg x = some (.ref f)) (hk : PySem.W.keepIn X.K (.ref f) = true) (hb : Binds X.K fd ps [])
  (ha : AO X g (e :: es) t) (hn : ∀ s ds s', t s = some (ds, s') → ds.length = ps.length) (hdb : (x == ("__debug__" : Str)) = false := by decide) (he : starEach (e :: es) X.env = (false, eval e X.env) :: starEach es X.env := by rfl) (hpl : (backTo pos (starEach es X.env)).any (·.1) = false := by rfl) :
  EO X g (.Call (.Name x p) (e :: es) [] pos) (o9 m t) := EO.w (jl F hr hg hm hk hb .nil et ha.pe hdb he hpl) (dI hn)
theorem l8 : ∀ s ds s', a9 s = some (ds, s') → ds.length = 0 := fun s ds s' h => by cases h; rfl
theorem i9 {a : DE} {r : DA} {n : Nat} (h : ∀ s ds s', r s = some (ds, s') → ds.length = n) : ∀ s ds s', a0 a r s = some (ds, s') → ds.length = n + 1 := fun s ds s' q => by
 obtain ⟨d, s1, es, h1, h2, h3⟩ := F3 q
 subst h3
 simp [h _ _ _ h2]
end
noncomputable def S7 (K : PySem.W.Frag) (N : Addr → Prop) (fa : Option Addr) (H1 : Hp) (J : It) (ds : List D) : Prop := ∀ N' fa' H', Car K N fa H1 N' fa' H' → (∀ b u, H1 b = some u → fa ≠ some b → H' b = some u) → ∀ i : Nat,
 (∀ d, ds[i]? = some d → J.go i H' ∧ ∀ x H'', J.yld i H' x H'' → H'' = H' ∧ Rep K N' fa' H' d x) ∧ (ds.length ≤ i → J.stop i H')
noncomputable def liftI (K : PySem.W.Frag) (g : Gh) (f : DA) : TI := fun σ H R => ∃ fa O s ds s', GI K g σ H fa O s ∧ f s = some (ds, s') ∧ ds.length ≤ sizeLine ∧
 ∀ J H' fa' O', StE fa O H fa' O' H' → GI K g σ H' fa' O' s' → S7 K (NN g.F fa' O') fa' H' J ds → R J H'
section
variable {K : PySem.W.Frag} {g : Gh} {σ : L2.St} {H : Hp} {G : Prop}
theorem liftI.elim {f : DA} {R : It → Hp → Prop} (h : liftI K g f σ H R) (k : ∀ fa O s ds s', GI K g σ H fa O s → f s = some (ds, s') → ds.length ≤ sizeLine → (∀ J H' fa' O', StE fa O H fa' O' H' → GI K g σ H' fa' O' s' → S7 K (NN g.F fa' O') fa' H' J ds → R J H') → G) : G := by
 obtain ⟨fa, O, s, d, s', a, r, b, c⟩ := h
 exact k fa O s d s' a r b c
end
structure IO (X : Cx) (g : Gh) (tg iter : Expr) (f : DA) : Prop where
 pe : PI X tg iter (liftI X.K g f)
noncomputable def U3 (f : DA) : DA := fun s => (f s).bind fun x => (C8 x.1).map fun ds => (ds, x.2)
section
variable {X : Cx} {g : Gh} {tg iter : Expr} {f : DE}
theorem cv {t t' : TI} (h : PI X tg iter t) (w : ∀ σ H R, t' σ H R → t σ H R) : PI X tg iter t' := fun pins s σ H R I q => h pins s σ H R I (w σ H R q)
theorem IO.w {f : DA} {t : TI} (h : PI X tg iter t) (w : ∀ σ H R, liftI X.K g f σ H R → t σ H R) : IO X g tg iter f := ⟨cv h w⟩
theorem cM {K : PySem.W.Frag} {N : Addr → Prop} {fa : Option Addr} {H1 : Hp} (lo : Int) (n : Nat) : S7 K N fa H1 (A0 lo n) (k7 lo n) := fun N' fa' H' c _ i => ⟨fun d hd => by
 have hi : i < n := by have := (List.getElem?_eq_some_iff.mp hd).1; rwa [K6] at this
 rw [S4 hi] at hd
 cases hd
 refine ⟨hi, fun x H'' hy => ?_⟩
 obtain ⟨e1, e2⟩ := hy
 subst e2
 exact ⟨e1, by simp only [Rep]⟩, fun hl => by rw [K6] at hl; exact hl⟩
theorem eX {a : Expr} {fa : DE} {p cpos : Pos} (hgl : Gl X "range") (hm : X.mg "range" = none) (ha : EO X g a fa) (hs1 : starEach [a] X.env = [(false, eval a X.env)] := by rfl) :
  IO X g tg (.Call (.Name "range" p) [a] [] cpos) (U3 (a0 fa a9)) := IO.w (bb hgl hm (U8 ha n8 hs1).pe hs1) fun σ H R hQ => by
 refine hQ.elim fun fa O s es s' I q hz k => ?_
 refine d8 q fun ds s1 h1 h2 => ?_
 refine v3 h2 fun es' h3 h4 => ?_
 cases h4
 obtain ⟨d, s2, rs, e1, e2, e3⟩ := F3 h1
 cases e2
 obtain ⟨j, rfl, j1, j2, rfl⟩ := X9 h3 e3
 refine ⟨fa, O, s, ds, _, I, h1, fun vs H1 f1 O1 a1 I1 r => ?_⟩
 rw [e3] at r
 simp only [Reps, Rep] at r
 obtain ⟨x, ys, rfl, rfl, rfl⟩ := r
 exact ⟨j, rfl, j1, j2, k _ H1 f1 O1 a1 I1 (cM 0 j.toNat)⟩
end
noncomputable def C7 (sl : List Sl) (i : Nat) : Sl := match sl[i]? with
 | some (Sl.val d) => Sl.val d
 | _ => Sl.no
noncomputable def D3 (idx : List Nat) (sl : List Sl) : List Sl := idx.map (C7 sl)
noncomputable def A3 (mk : D → Option (List Sl)) (fc : DT) (fe : DE) : List D → Option FS → Option (List D × Option FS)
 | [], fs => some ([], fs)
 | d :: r, fs => (mk d).bind fun sl => (fc ⟨sl, fs⟩).bind fun c => if c.1 = true then (fe c.2).bind fun y => (A3 mk fc fe r y.2.fs).map fun z => (y.1 :: z.1, z.2) else A3 mk fc fe r c.2.fs
noncomputable def M8 (idx : List Nat) (fi : DA) (fc : DT) (fe : DE) : DA := fun s => (fi s).bind fun x => if x.1.length ≤ sizeLine then (A3 (fun d => some (.val d :: D3 idx x.2.sl)) fc fe x.1 x.2.fs).map fun y => (y.1, { x.2 with fs := y.2 }) else none
noncomputable def FF (g : Gh) (fa : Option Addr) (O : List Addr) (p : Addr) : Addr → Prop := fun b => NN g.F fa O b ∨ b = p
structure CI (K : PySem.W.Frag) (g : Gh) (f1 : Option Addr) (O1 : List Addr) (Hd : Hp) (p : Addr) (fa : Option Addr) (H : Hp) (ys : List V) (res : List D) (fs : Option FS) : Prop where
 st : Stp f1 [p] Hd fa [p] H
 ls : H p = some (.lst ys)
 rs : Reps K (FF g fa O1 p) fa H res ys
 fd : FeedR (FF g fa O1 p) H fa fs
 nf : fa ≠ some p
section
variable {K : PySem.W.Frag} {g : Gh} {f1 fa fa' : Option Addr} {O1 : List Addr} {Hd H H' : Hp} {p : Addr} {ys : List V} {res : List D} {fs : Option FS}
theorem CI.nofa (c : CI K g f1 O1 Hd p fa H ys res fs) : fa ≠ some p := c.nf
theorem bN (h0 : ∀ xs, fa ≠ none → ∀ a, fa = some a → ¬ Rd H a (.tup xs)) (hfz : ∀ a, fa = some a → ∀ o u, ¬ H a = some (.frz o u)) (a : StE fa [] H fa' [] H') : Car K (FF g fa O1 p) fa H (FF g fa' O1 p) fa' H' := by
 refine ⟨fun b xs n q => ⟨a.same b _ q fun z => n (.inl (.inr (.inr z))), fun z => ?_⟩, fun b xs q => ?_, fun b xs q => ?_, fun x e => a.stp.fa_keep e⟩
 ·rcases z with (z | z | z) | z
  ·exact n (.inl (.inl z))
  ·exact n (.inl (.inr (.inl z)))
  ·rcases a.fe with e | ⟨e, h⟩
   ·exact n (.inl (.inr (.inr (e ▸ z))))
   ·rw [h b z] at q; cases q
  ·exact n (.inr z)
 ·refine SqT.stp' a.stp (fun x e ys => h0 ys (by rw [e]; simp) x e) (fun x hx => by cases hx) q
 ·cases xs with
  | inl xs => exact q.imp (fun ⟨o, q⟩ => ⟨o, a.same _ _ q fun z => hfz b z _ _ q⟩) id
  | inr p => exact a.same _ _ q fun z => hfz b z _ _ q
theorem iI {N : Addr → Prop} (h : FeedR N H fa fs) : ∀ xs, fa ≠ none → ∀ a, fa = some a → ¬ Rd H a (.tup xs) := fun xs _ a e z => h.no_tup e z
theorem CI.step (c : CI K g f1 O1 Hd p fa H ys res fs) (a : StE fa [] H fa' [] H') {g' : Gh} {σ : L2.St} {s' : DS} (hF : ∀ b, FF g fa' O1 p b → NN g'.F fa' [] b) (I : GI K g' σ H' fa' [] s') : CI K g f1 O1 Hd p fa' H' ys res s'.fs := by
 have cr : Car K (FF g fa O1 p) fa H (FF g fa' O1 p) fa' H' := bN (iI c.fd) (fun x e o u => c.fd.no_frz e) a
 refine ⟨c.st.trans ⟨fun b hb => .inl hb, a.fe, fun b u e _ n => a.same b u e n, a.mon⟩, a.same p _ c.ls c.nofa, Reps.go cr _ _ c.rs, I.fd.car (K := K) ⟨fun b xs n q => ⟨q, fun z => n (hF b z)⟩, fun _ _ q => q, fun _ _ q => q, fun _ q => q⟩ fun _ _ => rfl, fun z => ?_⟩
 rcases a.fe with y | ⟨_, y⟩
 ·rw [y] at z; exact c.nf z
 ·have := c.ls; rw [y p z] at this; cases this
theorem CI.app (c : CI K g f1 O1 Hd p fa H ys res fs) {N : Addr → Prop} {d : D} {v : V} (hF : ∀ b, FF g fa O1 p b → N b) (r : Rep K N fa H d v) : CI K g f1 O1 Hd p fa (a7 H p (.lst (ys ++ [v]))) (ys ++ [v]) (res ++ [d]) fs := by
 have cr : Car K (FF g fa O1 p) fa H (FF g fa O1 p) fa (a7 H p (.lst (ys ++ [v]))) := by
  refine ⟨fun b xs n q => ⟨by rw [a8 (fun z => n (.inr z))]; exact q, n⟩, fun b xs q => ?_, fun b xs q => ?_, fun _ q => q⟩
  ·rcases q with (q | ⟨o, q⟩) | q
   ·exact .inl (.inl (by rw [a8 (fun z => by rw [z, c.ls] at q; cases q)]; exact q))
   ·exact .inl (.inr ⟨o, by rw [a8 (fun z => by rw [z, c.ls] at q; cases q)]; exact q⟩)
   ·exact .inr q
  ·have fz : ∀ o u, H b = some (.frz o u) → a7 H p (.lst (ys ++ [v])) b = some (.frz o u) := fun o u q => by rw [a8 (fun z => by rw [z, c.ls] at q; cases q)]; exact q
   cases xs with
   | inl xs => exact q.imp (fun ⟨o, q⟩ => ⟨o, fz _ _ q⟩) id
   | inr p => exact fz _ _ q
 have c0 : Car K N fa H (FF g fa O1 p) fa H := ⟨fun b xs n q => ⟨q, fun z => n (hF b z)⟩, fun _ _ q => q, fun _ _ q => q, fun _ q => q⟩
 refine ⟨c.st.trans ⟨fun b hb => .inl hb, .inl rfl, fun b u e n _ => by rw [a8 (fun z => n (by simp [z]))]; exact e, fun b z => ?_⟩, e7, ?_, c.fd.car cr fun a e => a8 fun z => c.nofa (z ▸ e), c.nf⟩
 ·by_cases hb : b = p
  ·subst hb; rw [e7] at z; cases z
  ·rw [a8 hb] at z; exact z
 ·exact Reps.append (Reps.go cr _ _ c.rs) (Reps.one (Rep.go cr _ _ (Rep.go c0 _ _ r)))
end
section
variable {X : Cx} {g : Gh} {scope : Scope} {cl : List (Str × Addr)} {N' : List Str} {idx : List Nat} {iter elt tg : Expr} {ifs : List Expr} {pos : Pos} {fi : DA} {fc : DT} {fe : DE}
noncomputable def ag (X : Cx) (g : Gh) (ifs : List Expr) (f : DT) : Prop := M9 X ifs (liftT X.K g f)
noncomputable def Q7 : DT := fun s => some (true, s)
theorem ee : ag X g [] Q7 := fun pins s σ H Q I ⟨fa, O, s0, d, s', G, e, k⟩ => cP pins s σ H Q I (by cases e; exact k H fa O StE.refl G)
theorem W8 {K : PySem.W.Frag} {N : Addr → Prop} {fa : Option Addr} {H : Hp} {sl : List Sl} {σ : L2.St} {O : List Addr} (h : SlR K N fa H sl σ O) : ∀ idx : List Nat, SlR K N fa H (D3 idx sl) (idx.map fun i => (σ[i]?).join) []
 | [] => by simp [D3, SlR]
 | i :: r => by
  have ih := W8 h r
  have go : ∀ e : sl[i]? = none ∨ (∃ z, sl[i]? = some z ∧ ∀ d, z ≠ .val d), C7 sl i = .no := fun e => by
   unfold C7
   rcases e with e | ⟨z, e, n⟩
   ·rw [e]
   ·rw [e]
    cases z with
    | val d => exact absurd rfl (n d)
    | no => rfl
    | own ds => rfl
  show SlR K N fa H (C7 sl i :: D3 r sl) ((σ[i]?).join :: r.map fun i => (σ[i]?).join) []
  cases e : sl[i]? with
  | none =>
   rw [go (.inl e)]
   simp only [SlR]
   exact ⟨_, _, rfl, ih⟩
  | some z =>
   cases z with
   | no =>
    rw [go (.inr ⟨_, e, fun d z => by cases z⟩)]
    simp only [SlR]
    exact ⟨_, _, rfl, ih⟩
   | own ds =>
    rw [go (.inr ⟨_, e, fun d z => by cases z⟩)]
    simp only [SlR]
    exact ⟨_, _, rfl, ih⟩
   | val d =>
    obtain ⟨u, e1, q⟩ := SlR.val h e
    have ec : C7 sl i = .val d := by unfold C7; rw [e]
    rw [ec]
    simp only [SlR]
    exact ⟨u, _, by rw [e1]; rfl, q, ih⟩
noncomputable def dZ (mk : List Sl → D → Option (List Sl)) (fi : DA) (fc : DT) (fe : DE) : DA := fun s => (fi s).bind fun x => if x.1.length ≤ sizeLine then (A3 (mk x.2.sl) fc fe x.1 x.2.fs).map fun y => (y.1, { x.2 with fs := y.2 }) else none
theorem fE {n : Nat} {G : TG} {mk : List Sl → D → Option (List Sl)} (hG : ∀ (N : Addr → Prop) (fa : Option Addr) (sl : List Sl) (d : D) (sl0 : List Sl) (x : V) (σ : L2.St) (H : Hp) (Q : L2.St → Hp → Prop), mk sl d = some sl0 → Rep X.K N fa H d x → SlR X.K N fa H (D3 idx sl) (idx.map fun i => (σ[i]?).join) [] →
  (∀ σ' : L2.St, (σ'.length = (i5 n idx σ).length ∧ ∀ (j : Nat) (v : V), (i5 n idx σ)[j]? = some (some v) → σ'[j]? = some (some v)) → SlR X.K N fa H sl0 σ' [] → Q σ' H) → G x (i5 n idx σ) H Q) : ∀ σ H Q, liftF X.K g (dZ mk fi fc fe) σ H Q → K3 n idx (liftI X.K g fi) G (fun σ H Q => ∃ g', liftT X.K g' fc σ H Q) (fun σ H Q => ∃ g', liftE X.K g' fe σ H Q) σ H Q := by
 intro σ H Q ⟨fa, O, s, res, s', I, e, kk⟩
 refine d8 e fun ds s1 h1 h2 => ?_
 by_cases hz : ds.length ≤ sizeLine
 ·simp only [if_pos hz] at h2
  refine mapP h2 fun out fsf h3 h4 => ?_
  simp only [Prod.mk.injEq] at h4
  obtain ⟨e1, e2⟩ := h4
  subst e1; subst e2
  refine ⟨fa, O, s, ds, s1, I, h1, hz, fun J H1 f1 O1 a1 I1 J1 p hp => ?_⟩
  have stE : ∀ {fa' : Option Addr} {H' : Hp}, Stp f1 [p] (a7 H1 p (.lst [])) fa' [p] H' → StE f1 O1 H1 fa' O1 H' := fun {fa' H'} a => by
   refine ⟨fun _ h => h, ?_, fun b u e n => ?_, fun b z => (j8 (fa := f1) (O := O1) hp).mon b (a.mon b z)⟩
   ·rcases a.fe with e | ⟨e, h⟩
    ·exact .inl e
    ·exact .inr ⟨e, fun x z => (j8 (fa := f1) (O := O1) hp).mon x (h x z)⟩
   ·have nb : b ≠ p := g5 e hp
    exact a.same b u (by rw [a8 nb]; exact e) (by simp [nb]) n
  have carP : ∀ {fa' : Option Addr} {H' : Hp}, Stp f1 [p] (a7 H1 p (.lst [])) fa' [p] H' → Car X.K (NN g.F f1 O1) f1 H1 (FF g fa' O1 p) fa' H' := fun {fa' H'} a => by
   have c := I1.car (stE a).stp
   refine ⟨fun b xs n q => ?_, c.tp, c.fz, c.fe⟩
   obtain ⟨q', n'⟩ := c.ls b xs n q
   refine ⟨q', ?_⟩
   rintro (z | z)
   ·exact n' z
   ·subst z; rw [hp] at q; cases q
  refine ⟨fun i m H' => m = ds.length - i ∧ i ≤ ds.length ∧ ∃ fa' ys res' rest fs', CI X.K g f1 O1 (a7 H1 p (.lst [])) p fa' H' ys res' fs' ∧ A3 (mk s1.sl) fc fe (ds.drop i) fs' = some (rest, fsf) ∧ res' ++ rest = out ∧ ys.length ≤ i, ?_, ?_⟩
  ·refine ⟨ds.length, by simp, Nat.zero_le _, f1, [], [], out, s1.fs, ⟨Stp.refl, e7, Reps.nil, ?_, fun z => I1.fd.tracked z hp⟩, by simpa using h3, rfl, Nat.le_refl _⟩
   exact I1.fd.car (J0 I1 hp) (I1.fd.same_new hp)
  ·rintro i m H' ⟨rfl, hil, fa', ys, res', rest, fs', c, hd, ho, hy⟩
   have Hcar := carP c.st
   obtain ⟨jgo, jstop⟩ := J1 _ _ _ Hcar (fun b u e n => (stE c.st).same b u e n) i
   by_cases hlt : i < ds.length
   ·have hdi : ds[i]? = some ds[i] := List.getElem?_eq_getElem hlt
    obtain ⟨go, yl⟩ := jgo _ hdi
    refine .inr ⟨go, fun x H'' hx => ?_⟩
    obtain ⟨e1, rx⟩ := yl x H'' hx
    subst e1
    rw [ax hdi, A3] at hd
    refine F0 hd fun sl0 hm hd => ?_
    refine d8 hd fun b sb h5 h6 => ?_
    have hNN : ∀ b, NN (FF g fa' O1 p) fa' [] b → FF g fa' O1 p b := fun b z => by
     rcases z with z | z | z
     ·exact z
     ·cases z
     ·exact .inl (.inr (.inr z))
    have cN : Car X.K (FF g fa' O1 p) fa' H'' (NN (FF g fa' O1 p) fa' []) fa' H'' := ⟨fun b xs n q => ⟨q, fun z => n (hNN b z)⟩, fun _ _ q => q, fun _ _ q => q, fun _ q => q⟩
    have B7 : ∀ b, FF g fa' O1 p b → H'' b ≠ none := fun b z => by
     rcases z with (z | z | z) | z
     ·exact fun w => I1.trF z ((stE c.st).mon b w)
     ·obtain ⟨xs, e⟩ := I1.owned z
      exact fun w => by have := (stE c.st).mon b w; rw [e] at this; cases this
     ·exact c.fd.tracked z
     ·rw [z, c.ls]; simp
    refine hG (NN (FF g fa' O1 p) fa' []) fa' s1.sl ds[i] sl0 x σ H'' _ hm (Rep.go cN _ _ rx) (SlR.go cN (fun a xs ha => by cases ha) (W8 (SlR.go Hcar (fun a xs ha e => (stE c.st).same a _ e fun z => I1.nf a z ha) I1.sl) idx)) fun σ1 hσ hsl => ⟨hσ, ?_⟩
    have G0 : GI X.K ⟨FF g fa' O1 p, H'', fa'⟩ σ1 H'' fa' [] ⟨sl0, fs'⟩ := ⟨List.nodup_nil, hsl, fun b hb => (by cases hb), Stp.refl, B7, fun a ha => .inl (.inr (.inr ha)), c.fd.car cN fun _ _ => rfl, fun _ _ z => (by cases z)⟩
    refine ⟨⟨FF g fa' O1 p, H'', fa'⟩, fa', [], _, b, sb, G0, h5, fun H3 f3 O3 a3 I3 => ?_⟩
    have eO : O3 = [] := List.eq_nil_iff_forall_not_mem.mpr fun z hz => by have := a3.sub z hz; cases this
    subst eO
    have hF3 : ∀ b, FF g f3 O1 p b → NN (FF g fa' O1 p) f3 [] b := fun b z => by
     rcases z with (z | z | z) | z
     ·exact .inl (.inl (.inl z))
     ·exact .inl (.inl (.inr (.inl z)))
     ·exact .inr (.inr z)
     ·exact .inl (.inr z)
    have c3 := c.step a3 hF3 I3
    cases b with
    | false =>
     rw [if_neg Bool.false_ne_true] at h6
     refine dk ?_
     exact ⟨ds.length - (i + 1), by omega, rfl, hlt, f3, ys, res', rest, sb.fs, c3, h6, ho, Nat.le_succ_of_le hy⟩
    | true =>
     rw [if_pos rfl] at h6
     refine iX ?_
     refine d8 h6 fun dd sd h7 h8 => ?_
     refine mapP h8 fun rest2 fs2 h9 h10 => ?_
     simp only [Prod.mk.injEq] at h10
     refine ⟨⟨FF g fa' O1 p, H'', fa'⟩, f3, [], sb, dd, sd, I3, h7, fun v H4 f4 O4 a4 I4 r4 => ?_⟩
     have eO : O4 = [] := List.eq_nil_iff_forall_not_mem.mpr fun z hz => by have := a4.sub z hz; cases this
     subst eO
     have hF4 : ∀ b, FF g f4 O1 p b → NN (FF g fa' O1 p) f4 [] b := fun b z => by
      rcases z with (z | z | z) | z
      ·exact .inl (.inl (.inl z))
      ·exact .inl (.inl (.inr (.inl z)))
      ·exact .inr (.inr z)
      ·exact .inl (.inr z)
     have c4 := c3.step a4 hF4 I4
     refine ⟨ys, c4.ls, by omega, ds.length - (i + 1), by omega, rfl, hlt, f4, ys ++ [v], res' ++ [dd], rest2, sd.fs, c4.app hF4 r4, by rw [h9, h10.2], ?_, by simp; omega⟩
     rw [← ho, ← h10.1]; simp
   ·refine .inl ⟨jstop (Nat.le_of_not_lt hlt), ?_⟩
    rw [List.drop_eq_nil_of_le (Nat.le_of_not_lt hlt), A3] at hd
    simp only [Option.some.injEq, Prod.mk.injEq] at hd
    obtain ⟨hd1, hd2⟩ := hd
    subst hd1; subst hd2
    rw [List.append_nil] at ho
    subst ho
    have aE := stE c.st
    have car1 := I1.car aE.stp
    have sameO : ∀ a xs, a ∈ O1 → H1 a = some (.lst xs) → H' a = some (.lst xs) := fun a xs ha e => aE.same a _ e fun z => I1.nf a z ha
    refine kk p ys H' fa' O1 (a1.trans aE) ⟨⟨I1.nd, SlR.go car1 sameO I1.sl, I1.fr, I1.st.trans ⟨fun b hb => (by cases hb), aE.fe, fun b u e _ n => aE.same b u e n, aE.mon⟩, I1.tr, I1.ff, ?_, I1.nf_step aE.fe⟩, c.ls, SlR.go Hcar sameO I1.sl, c.fd, c.rs, c.nf⟩ (a1.mon p hp)
    exact c.fd.car (K := X.K) ⟨fun b xs n q => ⟨q, fun z => n (.inl z)⟩, fun _ _ q => q, fun _ _ q => q, fun _ q => q⟩ fun _ _ => rfl
 ·simp only [if_neg hz] at h2; cases h2
theorem gj (k : CompOk X scope cl N' 1 idx) : ∀ σ H Q, liftF X.K g (M8 idx fi fc fe) σ H Q → K3 1 idx (liftI X.K g fi) (G4 0) (fun σ H Q => ∃ g', liftT X.K g' fc σ H Q) (fun σ H Q => ∃ g', liftE X.K g' fe σ H Q) σ H Q :=
 fE (mk := fun sl d => some (.val d :: D3 idx sl)) fun N fa sl d sl0 x σ H Q hm rx hc kk => by
  cases hm
  refine kk _ ⟨by simp, fun j v hj => ?_⟩ ?_
  ·cases j with
   | zero => simp [i5] at hj
   | succ j => rw [List.getElem?_set_ne (by simp)]; exact hj
  ·have eb : (i5 1 idx σ).set 0 (some x) = some x :: idx.map fun i => (σ[i]?).join := by simp [i5]
   rw [eb]
   simp only [SlR]
   exact ⟨x, _, rfl, rx, hc⟩
theorem cB (hc : X.calm = true) (k : CompOk X scope cl N' 1 idx) (hi : IO X g tg iter fi) (hg : ∀ C s0 H0 ex, PG (i0 X N' scope cl C s0 H0 ex) tg (G4 0))
  (ht : ∀ C s0 H0 ex g', ag (i0 X N' scope cl C s0 H0 ex) g' ifs fc) (he : ∀ C s0 H0 ex g', EO (i0 X N' scope cl C s0 H0 ex) g' elt fe) (hs : ∀ x, foldedSetIterable iter X.env x = pure x := by intro _; rfl) :
  FO X g (.ListComp elt [⟨tg, iter, ifs, 0⟩] scope pos) (M8 idx fi fc fe) := by
 exact FO.w (ji (tc := fun σ H Q => ∃ g', liftT X.K g' fc σ H Q) (te := fun σ H Q => ∃ g', liftE X.K g' fe σ H Q) hc k hi.pe hg (fun C s0 H0 ex pins s σ H Q I ⟨g', h⟩ => ht C s0 H0 ex g' pins s σ H Q I h) (fun C s0 H0 ex pins s σ H Q I ⟨g', h⟩ => (he C s0 H0 ex g').pe pins s σ H Q I h) hs) (gj k)
end
end DL
namespace HT2
open PySem PyProof.Rows
theorem cat_tup0 {prog : Program} {w : World} {A : Around} {E : Value → Shared → Prop} {s : Shared} {t b : Addr} {ws : List Value} {Q : Value → Shared → Prop} (ht : IsTup s.heap t ([] : List Value).toArray) (hb : IsTup s.heap b ws.toArray)
  (h : Q (.ref b) s) : wpAny (model prog w) A (binaryOp .Add (.ref t) (.ref b)) Q E s := by
 obtain ⟨⟨cls, dd, data, sl⟩, ho, hc, n, hd⟩ := id ht
 obtain ⟨⟨cls2, dd2, data2, sl2⟩, ho2, hc2, n2, hd2⟩ := id hb
 simp only at hc hd hc2 hd2
 subst hc hd hc2 hd2
 exact concat_meets ⟨_, ho, rfl⟩ ⟨_, ho2, rfl⟩ noFill_tuple_add seq_tuple_add PySem.F.slot_tuple_add PySem.F.entry_tuple_add (PySem.F.args_tuple_add_2 _ _)
  (tuple_addW0 t b _ ws.toArray n n2 dd dd2 sl sl2 (by simp)) ⟨ho, ho2, h⟩
end HT2
namespace DL
open PySem PySem.Spec L2
noncomputable def d9 (i : Int) : Bool := decide (i.natAbs.log2 < 1000000)
theorem aJ {i : Int} (h : d9 i = true) : Builtin.Int.intBits i ≤ 2 ^ 20 := by
 have h1 : i.natAbs.log2 < 1000000 := of_decide_eq_true h
 unfold Builtin.Int.intBits
 split
 ·exact Nat.zero_le _
 ·have e : (2 : Nat) ^ 20 = 1048576 := by decide
  rw [e]; omega
noncomputable def n5 (j : Int) : Bool := decide (j ≠ 0) && decide (j.natAbs.log2 < 9000)
section
variable {X : Cx}
theorem op_mulB : OpR X (binaryOp .Mult) (rI (fun i j => d9 i = true ∧ d9 j = true) fun i j => .int (i * j)) := M3 fun _ _ _ _ _ _ _ hc q => PyProof.Rows.mul_int q (IntMulOk.of_bits (aJ hc.1) (aJ hc.2))
theorem ez : OpR X (binaryOp .FloorDiv) (rI (fun _ j => n5 j = true) fun i j => .int (i.fdiv j)) := M3 fun i j _ _ _ _ _ hc q => by
 have hc' : n5 j = true := hc
 unfold n5 at hc'
 rw [Bool.and_eq_true] at hc'
 exact PyProof.Rows.floordiv_int (of_decide_eq_true hc'.1) q (.inl (PyProof.noPylong_of_log2 (of_decide_eq_true hc'.2)))
noncomputable def Y0 (K : PySem.W.Frag) : R2 := fun x y H Q => ∃ a b ys, x = .ref a ∧ y = .ref b ∧ SqT K H a [] ∧ SqT K H b ys ∧ Q (.ref b) H
theorem op_catT0 : OpR X (binaryOp .Add) (Y0 X.K) := by
 intro pins s σ H x y v u Q I rx ry h
 obtain ⟨a, b, ys, rfl, rfl, ha, hb, q⟩ := h
 cases rx
 cases ry
 obtain ⟨its, r1, ht, _⟩ := I.tuple ha
 obtain ⟨its2, r2, ht2, _⟩ := I.tuple hb
 cases r1
 exact HT2.cat_tup0 ht ht2 ⟨.ref b, H, I, rfl, q⟩
noncomputable def Z0 (K : PySem.W.Frag) : R2 := fun x y H Q => (t8 (fun i j => .int (i + j)) x y H Q ∨ (∃ i j, x = .str i ∧ y = .str j ∧ i.length + j.length ≤ sizeLine ∧ Q (.str (i ++ j)) H)) ∨ ((Y0 K x y H Q ∨ aI K x y H Q) ∨ O7 x y H Q)
theorem gY : OpR X (binaryOp .Add) (Z0 X.K) := (op_add.or gK).or ((op_catT0.or ic).or Q1)
noncomputable def V1 : R2 := fun x y H Q => rI (fun i j => d9 i = true ∧ d9 j = true) (fun i j => .int (i * j)) x y H Q ∨ bw x y H Q
theorem fA : OpR X (binaryOp .Mult) V1 := op_mulB.or eE
end
noncomputable def n4 : D → D → Option D
 | .int i, .int j => some (.int (i + j))
 | .str x, .str y => if x.length + y.length ≤ sizeLine then some (.str (x ++ y)) else none
 | .tup xs, .tup ys => if xs.length + ys.length ≤ sizeLine then some (.tup (xs ++ ys)) else none
 | .lst xs, .lst ys => if xs.length + ys.length ≤ sizeLine then some (.lst (xs ++ ys)) else none
 | _, _ => none
noncomputable def l0 : D → D → Option D
 | .int i, .int j => if d9 i && d9 j then some (.int (i * j)) else none
 | .lst xs, .int k => if -(2 ^ 63) ≤ k ∧ k < 2 ^ 63 ∧ xs.length * k.toNat ≤ sizeLine then some (.lst (List.replicate k.toNat xs).flatten) else none
 | _, _ => none
noncomputable def v7 : D → D → Option D
 | .int i, .int j => if n5 j then some (.int (i.fdiv j)) else none
 | _, _ => none
noncomputable def j3 : D → D → Option D
 | .int i, .int j => if j ≠ 0 then some (.int (i.fmod j)) else none
 | _, _ => none
noncomputable def D9 : D → D → Option D
 | .int i, .int j => if 0 ≤ j ∧ j ≤ 1000000 ∧ i.natAbs < 2 ^ 64 then some (.int (i ^ j.toNat)) else none
 | _, _ => none
noncomputable def j6 (p : Int → Int → Bool) : D → D → Option D
 | .int i, .int j => some (.bl (p i j))
 | _, _ => none
theorem bI {K : PySem.W.Frag} {N : Addr → Prop} {fa : Option Addr} {H : Hp} {ds : List D} {xs : List V} (r : Reps K N fa H ds xs) : xs = [] ↔ ds = [] := by
 have := r.length
 cases xs <;> cases ds <;> simp_all
theorem Reps.flat {K : PySem.W.Frag} {N : Addr → Prop} {fa : Option Addr} {H : Hp} {ds : List D} {xs : List V} (r : Reps K N fa H ds xs) : ∀ k : Nat, Reps K N fa H (List.replicate k ds).flatten (List.replicate k xs).flatten
 | 0 => by simp [Reps]
 | k + 1 => by
  simp only [List.replicate_succ, List.flatten_cons]
  exact Reps.append r (Reps.flat r k)
section
variable {K : PySem.W.Frag}
theorem eg : i7 K (Z0 K) n4 := by
 intro g σ H fa O s x y d1 d2 d Q I r1 r2 e k
 cases d1 with
 | int i =>
  cases d2 with
  | int j =>
   cases e
   simp only [RepB, Rep] at r1 r2
   exact .inl (.inl ⟨i, j, r1, r2, k _ H StE.refl I (by simp only [Rep])⟩)
  | _ => cases e
 | str a =>
  cases d2 with
  | str b =>
   have e : (if a.length + b.length ≤ sizeLine then some (D.str (a ++ b)) else none) = some d := e
   by_cases h : a.length + b.length ≤ sizeLine
   ·rw [if_pos h] at e
    cases e
    simp only [RepB, Rep] at r1 r2
    refine .inl (.inr ⟨a, b, r1.1, r2.1, h, k _ H StE.refl I ?_⟩)
    simp only [Rep]
    exact ⟨trivial, by rw [strLen_append]; exact h⟩
   ·rw [if_neg h] at e; cases e
  | _ => cases e
 | tup as =>
  cases d2 with
  | tup bs =>
   have e : (if as.length + bs.length ≤ sizeLine then some (D.tup (as ++ bs)) else none) = some d := e
   by_cases h : as.length + bs.length ≤ sizeLine
   ·rw [if_pos h] at e
    cases e
    simp only [RepB, Rep] at r1 r2
    obtain ⟨a, xs, rfl, qa, wa⟩ := r1
    obtain ⟨b, ys, rfl, qb, wb⟩ := r2
    by_cases hx : xs = []
    ·have ha := (bI wa).mp hx
     subst hx; subst ha
     refine .inr (.inl (.inl ⟨a, b, ys, rfl, rfl, qa, qb, k _ H StE.refl I ?_⟩))
     simp only [Rep, List.nil_append]
     exact ⟨b, ys, rfl, qb, wb⟩
    ·refine .inr (.inl (.inr ⟨a, b, xs, ys, rfl, rfl, qa, qb, hx, by rw [wa.length, wb.length]; exact h, fun hy => ?_, fun hy p hp => ?_⟩))
     ·have hb := (bI wb).mp hy
      subst hy; subst hb
      refine k _ H StE.refl I ?_
      simp only [Rep, List.append_nil]
      exact ⟨a, xs, rfl, qa, wa⟩
     ·have a2 : StE fa O H fa O (a7 H p (.tup (xs ++ ys))) := j8 hp
      refine k _ _ a2 (I.new hp) ?_
      simp only [Rep]
      exact ⟨p, _, rfl, SqT.of e7, Reps.stp I a2.stp (Reps.append wa wb)⟩
   ·rw [if_neg h] at e; cases e
  | _ => cases e
 | lst as =>
  cases d2 with
  | lst bs =>
   have e : (if as.length + bs.length ≤ sizeLine then some (D.lst (as ++ bs)) else none) = some d := e
   by_cases h : as.length + bs.length ≤ sizeLine
   ·rw [if_pos h] at e
    cases e
    obtain ⟨a, xs, rfl, _, qa, wa⟩ := r1
    obtain ⟨b, ys, rfl, _, qb, wb⟩ := r2
    refine .inr (.inr ⟨a, b, xs, ys, rfl, rfl, qa, qb, by rw [wa.length, wb.length]; exact h, fun p hp => ?_⟩)
    have a2 : StE fa O H fa O (a7 H p (.lst (xs ++ ys))) := j8 hp
    have L := J4 I hp (Reps.append wa wb)
    refine k _ _ a2 L.gi ?_
    simp only [Rep]
    exact ⟨p, _, rfl, Q0 I a2 L.gi hp L.nf, e7, Reps.stp I a2.stp (Reps.append wa wb)⟩
   ·rw [if_neg h] at e; cases e
  | _ => cases e
 | _ => cases e
noncomputable def O6 : D → D → Option (List D)
 | .lst xs, .lst ys => if xs.length + ys.length ≤ sizeLine then some (xs ++ ys) else none
 | _, _ => none
theorem Y9 : T8 K O7 O6 := by
 intro g σ H fa O s x y d1 d2 ds Q I r1 r2 e k
 cases d1 with
 | lst as =>
  cases d2 with
  | lst bs =>
   simp only [O6] at e
   by_cases h : as.length + bs.length ≤ sizeLine
   ·rw [if_pos h] at e
    cases e
    obtain ⟨a, xs, rfl, _, qa, wa⟩ := r1
    obtain ⟨b, ys, rfl, _, qb, wb⟩ := r2
    refine ⟨a, b, xs, ys, rfl, rfl, qa, qb, by rw [wa.length, wb.length]; exact h, fun p hp => ?_⟩
    exact k p _ _ (j8 hp) (J4 I hp (Reps.append wa wb)) hp
   ·rw [if_neg h] at e; cases e
  | _ => cases e
 | _ => cases e
theorem N9 {C : Int → Int → Prop} {f : Int → Int → D} {f' : Int → Int → V} {p : D → D → Option D} (hp : ∀ d1 d2 d, p d1 d2 = some d → ∃ i j, d1 = .int i ∧ d2 = .int j ∧ C i j ∧ d = f i j) (hf : ∀ N fa H i j, Rep K N fa H (f i j) (f' i j)) : i7 K (rI C f') p := by
 intro g σ H fa O s x y d1 d2 d Q I r1 r2 e k
 obtain ⟨i, j, rfl, rfl, c, rfl⟩ := hp d1 d2 d e
 simp only [RepB, Rep] at r1 r2
 exact ⟨i, j, r1, r2, c, k _ H StE.refl I (hf _ _ _ _ _)⟩
theorem bV {f : Int → Int → D} {f' : Int → Int → V} {p : D → D → Option D} (hp : ∀ d1 d2 d, p d1 d2 = some d → ∃ i j, d1 = .int i ∧ d2 = .int j ∧ d = f i j) (hf : ∀ N fa H i j, Rep K N fa H (f i j) (f' i j)) : i7 K (t8 f') p := by
 intro g σ H fa O s x y d1 d2 d Q I r1 r2 e k
 obtain ⟨i, j, rfl, rfl, rfl⟩ := hp d1 d2 d e
 simp only [RepB, Rep] at r1 r2
 exact ⟨i, j, r1, r2, k _ H StE.refl I (hf _ _ _ _ _)⟩
noncomputable def O9 (F : Int → Int → Option D) : D → D → Option D
 | .int i, .int j => F i j
 | _, _ => none
theorem aX {F : Int → Int → Option D} {d1 d2 d : D} (e : O9 F d1 d2 = some d) : ∃ i j, d1 = .int i ∧ d2 = .int j ∧ F i j = some d := by
 cases d1 with
 | int i =>
  cases d2 with
  | int j => exact ⟨i, j, rfl, rfl, e⟩
  | _ => cases e
 | _ => cases e
theorem S3 {C : Int → Int → Prop} [∀ i j, Decidable (C i j)] {f : Int → Int → D} {d1 d2 d : D} (e : O9 (fun i j => if C i j then some (f i j) else none) d1 d2 = some d) : ∃ i j, d1 = .int i ∧ d2 = .int j ∧ C i j ∧ d = f i j := by
 obtain ⟨i, j, h1, h2, h3⟩ := aX e
 by_cases h : C i j
 ·have h3 : (if C i j then some (f i j) else none) = some d := h3
  rw [if_pos h] at h3
  exact ⟨i, j, h1, h2, h, (Option.some.inj h3).symm⟩
 ·have h3 : (if C i j then some (f i j) else none) = some d := h3
  rw [if_neg h] at h3
  cases h3
theorem cg {f : Int → Int → D} {d1 d2 d : D} (e : O9 (fun i j => some (f i j)) d1 d2 = some d) : ∃ i j, d1 = .int i ∧ d2 = .int j ∧ d = f i j := by
 obtain ⟨i, j, h1, h2, h3⟩ := aX e
 exact ⟨i, j, h1, h2, (Option.some.inj h3).symm⟩
theorem dW (p : Int → Int → Bool) : i7 K (t8 fun i j => .bl (p i j)) (j6 p) := bV (f := fun i j => .bl (p i j)) (fun d1 d2 d e => cg (f := fun i j => .bl (p i j)) e) fun _ _ _ _ _ => by simp only [Rep]
theorem iB : i7 K V1 l0 := by
 intro g σ H fa O s x y d1 d2 d Q I r1 r2 e k
 cases d1 with
 | int i =>
  cases d2 with
  | int j =>
   have e : (if d9 i && d9 j then some (D.int (i * j)) else none) = some d := e
   by_cases h : (d9 i && d9 j) = true
   ·rw [if_pos h] at e
    cases e
    rw [Bool.and_eq_true] at h
    simp only [RepB, Rep] at r1 r2
    exact .inl ⟨i, j, r1, r2, h, k _ H StE.refl I (by simp only [Rep])⟩
   ·rw [if_neg h] at e; cases e
  | _ => cases e
 | lst as =>
  cases d2 with
  | int j =>
   simp only [l0] at e
   by_cases h : -(2 ^ 63) ≤ j ∧ j < 2 ^ 63 ∧ as.length * j.toNat ≤ sizeLine
   ·rw [if_pos h] at e
    cases e
    obtain ⟨a, xs, rfl, _, qa, wa⟩ := r1
    simp only [RepB, Rep] at r2
    subst r2
    refine .inr ⟨a, j, xs, rfl, rfl, qa, h.1, h.2.1, by rw [wa.length]; exact h.2.2, fun p hp => ?_⟩
    have a2 : StE fa O H fa O (a7 H p (.lst (List.replicate j.toNat xs).flatten)) := j8 hp
    have L := J4 I hp (wa.flat j.toNat)
    refine k _ _ a2 L.gi ?_
    simp only [Rep]
    exact ⟨p, _, rfl, Q0 I a2 L.gi hp L.nf, e7, Reps.stp I a2.stp (wa.flat j.toNat)⟩
   ·rw [if_neg h] at e; cases e
  | _ => cases e
 | _ => cases e
theorem eG : i7 K (rI (fun _ j => n5 j = true) fun i j => .int (i.fdiv j)) v7 := N9 (f := fun i j => .int (i.fdiv j)) (fun d1 d2 d e => S3 (C := fun _ j => n5 j = true) (f := fun i j => .int (i.fdiv j)) e) fun _ _ _ _ _ => by simp only [Rep]
theorem dy : i7 K (rI (fun _ j => j ≠ 0) fun i j => .int (i.fmod j)) j3 := N9 (f := fun i j => .int (i.fmod j)) (fun d1 d2 d e => S3 (C := fun _ j => j ≠ 0) (f := fun i j => .int (i.fmod j)) e) fun _ _ _ _ _ => by simp only [Rep]
theorem ja : i7 K (rI V9 fun i j => .int (i ^ j.toNat)) D9 := N9 (f := fun i j => .int (i ^ j.toNat)) (fun d1 d2 d e => S3 (C := fun i j => 0 ≤ j ∧ j ≤ 1000000 ∧ i.natAbs < 2 ^ 64) (f := fun i j => .int (i ^ j.toNat)) e) fun _ _ _ _ _ => by simp only [Rep]
end
section
variable {X : Cx} {pins : List (Addr × Obj)} {σ : L2.St} {H : Hp} {s : Shared} {N : Addr → Prop} {fa : Option Addr}
mutual
theorem v5 (I : Inv X pins σ H s) : ∀ (d : D) (v : V) (u : Value), p9 X.K N fa H d v → c5 v u → d.plain = true → ∃ as, Reads s.heap u d.py as
 | .non, v, u, r, ru, _ => by
  simp only [p9, Rep] at r; subst r; cases ru
  simp only [D.py]; exact ⟨[], .none⟩
 | .bl b, v, u, r, ru, _ => by
  simp only [p9, Rep] at r; subst r; cases ru
  simp only [D.py]; exact ⟨[], .bool b⟩
 | .int i, v, u, r, ru, _ => by
  simp only [p9, Rep] at r; subst r
  obtain ⟨t, rfl⟩ := ru
  simp only [D.py]; exact ⟨[], .int i t⟩
 | .str x, v, u, r, ru, _ => by
  simp only [p9, Rep] at r; obtain ⟨r, _⟩ := r; subst r
  obtain ⟨t, rfl⟩ := ru
  simp only [D.py]; exact ⟨[], .str x t⟩
 | .tup ds, v, u, r, ru, hp => by
  simp only [p9, Rep] at r
  obtain ⟨a, xs, rfl, q, w⟩ := r
  cases ru
  obtain ⟨its, rv, ⟨o, h1, h2, n, h3⟩, _⟩ := I.tuple q
  obtain ⟨as, ra⟩ := T2 I ds xs its w rv (by simpa only [D.plain] using hp)
  simp only [D.py]
  exact ⟨as, .tuple h1 h2 h3 (by simpa using ra)⟩
 | .lst ds, v, u, r, ru, hp => by
  obtain ⟨a, xs, rfl, q, w⟩ := r
  cases ru
  obtain ⟨its, rv, ⟨o, n, h1, h2, h3, h4⟩, _⟩ := I.list (SqL.of q)
  obtain ⟨as, ra⟩ := T2 I ds xs its w rv (by simpa only [D.plain] using hp)
  simp only [D.py]
  exact ⟨_, .list h1 h2 h4 (by simpa using ra)⟩
 | .feed, v, u, r, ru, hp => by simp only [D.plain] at hp; cases hp
 | .scr _, v, u, r, ru, hp => by simp only [D.plain] at hp; cases hp
 | .fn _, v, u, r, ru, hp => by simp only [D.plain] at hp; cases hp
 | .exc _ _, v, u, r, ru, hp => by simp only [D.plain] at hp; cases hp
theorem T2 (I : Inv X pins σ H s) : ∀ (ds : List D) (xs : List V) (us : List Value), Reps X.K N fa H ds xs → Vals xs us → D.plains ds = true → ∃ as, ReadsAll s.heap us (D.pys ds) as
 | [], xs, us, r, ru, _ => by
  simp only [Reps] at r; subst r; cases ru
  simp only [D.pys]; exact ⟨[], .nil⟩
 | d :: ds, xs, us, r, ru, hp => by
  simp only [Reps] at r
  obtain ⟨x, ys, rfl, r1, r2⟩ := r
  cases ru with
  | cons q qs =>
   simp only [D.plains, Bool.and_eq_true] at hp
   obtain ⟨as, h1⟩ := v5 I d x _ r1.o q hp.1
   obtain ⟨bs, h2⟩ := T2 I ds ys _ r2 qs hp.2
   simp only [D.pys]; exact ⟨_, .cons h1 h2⟩
end
end
noncomputable def g9 (d : D) : Bool := d.plain && SeqAt.shaped d.py
noncomputable def E7 (d1 d2 : D) : Option D := match d1, d2 with
 | .str x, .str y => some (.bl (decide (x = y)))
 | d1, d2 => if g9 d1 && g9 d2 then some (.bl (PyData.eqv d1.py d2.py)) else none
noncomputable def u9 (d1 d2 : D) : Option D := match d1, d2 with
 | .str x, .str y => some (.bl (!decide (x = y)))
 | d1, d2 => if g9 d1 && g9 d2 then some (.bl (!PyData.eqv d1.py d2.py)) else none
noncomputable def B4 (K : PySem.W.Frag) (f : Bool → Bool) : R2 := fun x y H Q => ∃ N fa d1 d2, RepB K N fa H d1 x ∧ RepB K N fa H d2 y ∧ g9 d1 = true ∧ g9 d2 = true ∧ Q (.bl (f (PyData.eqv d1.py d2.py))) H
section
variable {X : Cx} {K : PySem.W.Frag}
theorem cX (hu : X.A.units + 64 < cLine) : OpR X (compareOp .Eq) (B4 X.K id) := by
 intro pins s σ H x y v u Q I rx ry h
 obtain ⟨N, fa, d1, d2, r1, r2, o1, o2, q⟩ := h
 unfold g9 at o1 o2
 rw [Bool.and_eq_true] at o1 o2
 obtain ⟨as, h1⟩ := v5 I d1 x v r1.o rx o1.1
 obtain ⟨bs, h2⟩ := v5 I d2 y u r2.o ry o2.1
 exact PyProof.Rows.eq_dataH h1 h2 o1.2 o2.2 hu ⟨.bl _, H, I, rfl, q⟩
theorem eM (hu : X.A.units + 64 < cLine) : OpR X (compareOp .NotEq) (B4 X.K not) := by
 intro pins s σ H x y v u Q I rx ry h
 obtain ⟨N, fa, d1, d2, r1, r2, o1, o2, q⟩ := h
 unfold g9 at o1 o2
 rw [Bool.and_eq_true] at o1 o2
 obtain ⟨as, h1⟩ := v5 I d1 x v r1.o rx o1.1
 obtain ⟨bs, h2⟩ := v5 I d2 y u r2.o ry o2.1
 exact PyProof.Rows.ne_dataH h1 h2 o1.2 o2.2 hu ⟨.bl _, H, I, rfl, q⟩
theorem ig (hu : X.A.units + 64 < cLine) : OpR X (compareOp .Eq) (fun x y H Q => R6 x y H Q ∨ B4 X.K id x y H Q) := op_eq.or (cX hu)
theorem aK (hu : X.A.units + 64 < cLine) : OpR X (compareOp .NotEq) (fun x y H Q => P6 x y H Q ∨ B4 X.K not x y H Q) := op_ne.or (eM hu)
theorem ij {d1 d2 d : D} (h : E7 d1 d2 = some d) : (∃ x y, d1 = .str x ∧ d2 = .str y ∧ d = .bl (decide (x = y))) ∨ (g9 d1 = true ∧ g9 d2 = true ∧ d = .bl (PyData.eqv d1.py d2.py)) := by
 unfold E7 at h
 split at h
 ·cases h; exact .inl ⟨_, _, rfl, rfl, rfl⟩
 ·split at h
  ·rename_i q
   rw [Bool.and_eq_true] at q
   cases h; exact .inr ⟨q.1, q.2, rfl⟩
  ·cases h
theorem iM {d1 d2 d : D} (h : u9 d1 d2 = some d) : (∃ x y, d1 = .str x ∧ d2 = .str y ∧ d = .bl (!decide (x = y))) ∨ (g9 d1 = true ∧ g9 d2 = true ∧ d = .bl (!PyData.eqv d1.py d2.py)) := by
 unfold u9 at h
 split at h
 ·cases h; exact .inl ⟨_, _, rfl, rfl, rfl⟩
 ·split at h
  ·rename_i q
   rw [Bool.and_eq_true] at q
   cases h; exact .inr ⟨q.1, q.2, rfl⟩
  ·cases h
theorem bE (x y : Str) : decide (V.str x = V.str y) = decide (x = y) := by
 by_cases h : x = y
 ·subst h; simp
 ·rw [decide_eq_false h, decide_eq_false fun z => h (V.str.inj z)]
theorem fD : i7 K (fun x y H Q => R6 x y H Q ∨ B4 K id x y H Q) E7 := by
 intro g σ H fa O s x y d1 d2 d Q I r1 r2 e k
 rcases ij e with ⟨a, b, rfl, rfl, rfl⟩ | ⟨h1, h2, rfl⟩
 ·simp only [RepB, Rep] at r1 r2
  obtain ⟨rfl, _⟩ := r1
  obtain ⟨rfl, _⟩ := r2
  exact .inl ⟨rfl, k _ H StE.refl I (by simp only [Rep, bE])⟩
 ·exact .inr ⟨_, _, d1, d2, r1, r2, h1, h2, k _ H StE.refl I (by simp only [Rep, id])⟩
theorem W0 : i7 K (fun x y H Q => P6 x y H Q ∨ B4 K not x y H Q) u9 := by
 intro g σ H fa O s x y d1 d2 d Q I r1 r2 e k
 rcases iM e with ⟨a, b, rfl, rfl, rfl⟩ | ⟨h1, h2, rfl⟩
 ·simp only [RepB, Rep] at r1 r2
  obtain ⟨rfl, _⟩ := r1
  obtain ⟨rfl, _⟩ := r2
  exact .inl ⟨rfl, k _ H StE.refl I (by simp only [Rep, bE])⟩
 ·exact .inr ⟨_, _, d1, d2, r1, r2, h1, h2, k _ H StE.refl I (by simp only [Rep])⟩
noncomputable def d6 : D → D → Option D
 | .tup ds, .int i => l7 ds i
 | .lst ds, .int i => l7 ds i
 | _, _ => none
theorem ak {N : Addr → Prop} {fa : Option Addr} {H : Hp} {ds : List D} {xs : List V} {i : Int} {d : D} (r : Reps K N fa H ds xs) (h : l7 ds i = some d) : ∃ v, l7 xs i = some v ∧ Rep K N fa H d v := by
 unfold l7 at h ⊢
 rw [r.length]
 cases e : B3 ds.length i with
 | none => rw [e] at h; cases h
 | some j =>
  rw [e] at h
  simp only [Option.bind_some] at h ⊢
  exact Reps.get r h
theorem hZ : i7 K (fun x y H Q => R4 K x y H Q ∨ T5 K x y H Q) d6 := by
 intro g σ H fa O s x y d1 d2 d Q I r1 r2 e k
 cases d1 with
 | tup ds =>
  cases d2 with
  | int i =>
   simp only [RepB, Rep] at r1 r2
   obtain ⟨a, xs, rfl, q, w⟩ := r1
   obtain ⟨v, hv, rv⟩ := ak w (show l7 ds i = some d from e)
   exact .inr ⟨a, xs, i, v, rfl, r2, q, hv, k v H StE.refl I rv⟩
  | _ => cases e
 | lst ds =>
  cases d2 with
  | int i =>
   obtain ⟨a, xs, rfl, _, q, w⟩ := r1
   simp only [RepB, Rep] at r2
   obtain ⟨v, hv, rv⟩ := ak w (show l7 ds i = some d from e)
   exact .inl ⟨a, xs, i, v, rfl, r2, SqL.of q, hv, k v H StE.refl I rv⟩
  | _ => cases e
 | _ => cases e
theorem cG : IxR X (fun x y H Q => R4 X.K x y H Q ∨ T5 X.K x y H Q) := ix_list.or ie
end
noncomputable def i4 (p : List D → Option D) (f : DA) : DE := fun s => (f s).bind fun x => (p x.1).map fun d => (d, x.2)
section
variable {X : Cx} {g : Gh} {x : Str} {p pos : Pos} {e : Expr} {es : List Expr} {t : DA} {id T : String} {r : List V → Hp → VK → Prop} {pr : List D → Option D} {pf : List D → Option (List D)}
theorem dD (hr : F6 X.K r pr) (σ : L2.St) (H : Hp) (Q : VK) (h : liftE X.K g (i4 pr t) σ H Q) : U5 r (liftBA X.K g t) σ H Q := by
 obtain ⟨f0, O, s, d, s', I, e, k⟩ := h
 refine d8 e fun ds s1 h1 h => ?_
 refine v3 h fun d' h3 h => ?_
 simp only [Prod.mk.injEq] at h
 obtain ⟨e1, e2⟩ := h
 subst e1; subst e2
 exact ⟨f0, O, s, ds, s1, I, h1, fun vs H1 f1 O1 a1 I1 r1 => hr g σ H1 f1 O1 s1 vs ds d' Q I1 r1 h3 fun z H3 a3 I3 r3 => k z H3 f1 O1 (a1.trans a3) I3 r3⟩
theorem hV (hc : CallR X (.builtin id) r) (hr : F6 X.K r pr) (hg : Gl X x) (hm : X.mg x = none) (hv : bootBuiltins x = some (.builtin id)) (ha : BAO X g (e :: es) t) (hn : x ≠ "__name__" := by decide) (hdb : (x == ("__debug__" : Str)) = false := by decide)
  (he : starEach (e :: es) X.env = (false, eval e X.env) :: starEach es X.env := by rfl) (hpl : (backTo pos (starEach es X.env)).any (·.1) = false := by rfl) : EO X g (.Call (.Name x p) (e :: es) [] pos) (i4 pr t) :=
 EO.w (S8 hc hg hm hv ha.pe hn hdb he hpl) (dD hr)
end
theorem gz {K : PySem.W.Frag} {N : Addr → Prop} {fa : Option Addr} {H : Hp} {d : D} {xs : List V} (r : A7 K N fa H [d] xs) : ∃ x, xs = [x] ∧ RepB K N fa H d x := by
 obtain ⟨x, ys, rfl, r1, r2⟩ := r
 simp only [A7] at r2; subst r2
 exact ⟨x, rfl, r1⟩
noncomputable def one {α : Type} (p : D → Option α) : List D → Option α
 | [d] => p d
 | _ => none
theorem dE {α : Type} {p : D → Option α} {ds : List D} {a : α} (h : one p ds = some a) : ∃ d, ds = [d] ∧ p d = some a := by
 cases ds with
 | nil => cases h
 | cons d r =>
  cases r with
  | nil => exact ⟨d, rfl, h⟩
  | cons _ _ => cases h
noncomputable def n3 : D → Option D
 | .tup ds => some (.int (ds.length : Nat))
 | .lst ds => some (.int (ds.length : Nat))
 | .str x => some (.int (x.length : Nat))
 | _ => none
noncomputable def r8 (d : D) : Bool := d.plain && d.py.showable && d.py.canLay0 && decide (d.py.depth ≤ 64) && decide (d.py.shown.length ≤ sizeLine)
noncomputable def u7 (d : D) : Option D := if r8 d then some (.str d.py.shown) else none
section
variable {X : Cx} {K : PySem.W.Frag}
theorem dJ : CallR X (.builtin "len") (fun xs H Q => (∃ p ys, xs = [.ref p] ∧ (SqL X.K H p ys ∨ SqT X.K H p ys) ∧ Q (.int ys.length) H) ∨ (∃ z, xs = [.str z] ∧ z.length ≤ sizeLine ∧ Q (.int z.length) H)) := call_len_seq.or fV
theorem ar {r : List V → Hp → VK → Prop} {p : D → Option D} (h : ∀ (g : Gh) (σ : L2.St) (H : Hp) (fa : Option Addr) (O : List Addr) (s : DS) (x : V) (d1 d : D) (Q : VK), GI K g σ H fa O s → RepB K (NN g.F fa O) fa H d1 x → p d1 = some d →
  (∀ v H', StE fa O H fa O H' → GI K g σ H' fa O s → Rep K (NN g.F fa O) fa H' d v → Q v H') → r [x] H Q) : F6 K r (one p) := by
 intro g σ H fa O s xs ds d Q I rs e k
 obtain ⟨d1, rfl, e1⟩ := dE e
 obtain ⟨x, rfl, rx⟩ := gz rs
 exact h g σ H fa O s x d1 d Q I rx e1 k
theorem eR : F6 K (fun xs H Q => (∃ p ys, xs = [.ref p] ∧ (SqL K H p ys ∨ SqT K H p ys) ∧ Q (.int ys.length) H) ∨ (∃ z, xs = [.str z] ∧ z.length ≤ sizeLine ∧ Q (.int z.length) H)) (one n3) := ar fun g σ H fa O s x d1 d Q I r e k => by
 cases d1 with
 | tup es =>
  cases e
  simp only [RepB, Rep] at r
  obtain ⟨a, ys, rfl, q, w⟩ := r
  exact .inl ⟨a, ys, rfl, .inr q, k _ H StE.refl I (by rw [w.length]; simp only [Rep])⟩
 | lst es =>
  cases e
  obtain ⟨a, ys, rfl, _, q, w⟩ := r
  exact .inl ⟨a, ys, rfl, .inl (SqL.of q), k _ H StE.refl I (by rw [w.length]; simp only [Rep])⟩
 | str z =>
  cases e
  simp only [RepB, Rep] at r
  obtain ⟨rfl, l⟩ := r
  exact .inr ⟨z, rfl, l, k _ H StE.refl I (by simp only [Rep])⟩
 | _ => cases e
noncomputable def ao (K : PySem.W.Frag) : List V → Hp → VK → Prop := fun xs H Q => ∃ N fa d x, xs = [x] ∧ RepB K N fa H d x ∧ r8 d = true ∧ Q (.str d.py.shown) H
theorem bX (hu : X.A.units + 66 < cLine) (hg : X.A.guards = some []) : CallR X (.builtin "repr") (ao X.K) := by
 intro pins s σ H xs us Q I r h
 obtain ⟨N, fa, d, x, rfl, rx, ok, q⟩ := h
 obtain ⟨u, rfl, ru⟩ := S0 r
 unfold r8 at ok
 simp only [Bool.and_eq_true, decide_eq_true_eq] at ok
 obtain ⟨⟨⟨⟨hp, hs⟩, hl⟩, hd⟩, hz⟩ := ok
 obtain ⟨as, ra⟩ := v5 I d x u rx.o ru hp
 have fin : ∀ (h' : Heap) (tk : Nat) (t : Tok), (∀ b o, s.heap.get? b = some o → h'.get? b = some o) → EP X pins σ Q (.str d.py.shown t) { s with heap := h', toks := tk } := fun h' tk t hk => ⟨.str d.py.shown, H, I.kept hk, ⟨t, rfl⟩, q⟩
 cases d with
 | non =>
  simp only [RepB, Rep] at rx; subst rx; cases ru
  exact P.repr_of_none (fin s.heap _ _ fun _ _ e => e)
 | bl b =>
  simp only [RepB, Rep] at rx; subst rx; cases ru
  have := fin s.heap (s.toks + 1) s.toks fun _ _ e => e
  refine P.repr_of_bool ?_
  cases b <;> simpa only [D.py, PyData.shown] using this
 | int i =>
  simp only [RepB, Rep] at rx; subst rx
  obtain ⟨t, rfl⟩ := ru
  have := fin s.heap (s.toks + 1) s.toks fun _ _ e => e
  simp only [D.py, PyData.showable, decide_eq_true_eq] at hs
  exact P.repr_of_int hs (by simpa only [D.py, PyData.shown] using this)
 | str z =>
  simp only [RepB, Rep] at rx; obtain ⟨rx, _⟩ := rx; subst rx
  obtain ⟨t, rfl⟩ := ru
  have := fin s.heap (s.toks + 1) s.toks fun _ _ e => e
  exact P.repr_of_str (by simpa only [D.py, PyData.shown] using this) (by simpa only [D.py, PyData.shown] using hz)
 | tup ds =>
  simp only [RepB, Rep] at rx
  obtain ⟨a, ys, rfl, _⟩ := rx
  cases ru
  exact repr_of_reads' ra hs (PyData.noDict_hsm (PyData.hasDict_of_canLay _ hl)) hg (by omega) (fun _ _ e => e) (fun h' t tk hk => fin h' tk t hk) hz
 | lst ds =>
  obtain ⟨a, ys, rfl, _⟩ := rx
  cases ru
  exact repr_of_reads' ra hs (PyData.noDict_hsm (PyData.hasDict_of_canLay _ hl)) hg (by omega) (fun _ _ e => e) (fun h' t tk hk => fin h' tk t hk) hz
 | feed => cases hp
 | scr _ => cases hp
 | fn _ => cases hp
 | exc _ _ => cases hp
theorem eT : F6 K (ao K) (one u7) := ar fun g σ H fa O s x d1 d Q I r e k => by
 unfold u7 at e
 by_cases h : r8 d1 = true
 ·rw [if_pos h] at e
  cases e
  refine ⟨_, _, d1, x, rfl, r, h, k _ H StE.refl I ?_⟩
  simp only [Rep]
  unfold r8 at h
  simp only [Bool.and_eq_true, decide_eq_true_eq] at h
  exact ⟨trivial, h.2⟩
 ·rw [if_neg h] at e; cases e
end
end DL
namespace DL
open PySem PySem.Spec L2
noncomputable def FS.get (key : Str) (f : FS) : Option D :=
 if f.kind = 0 then if key = "cells" then some (.lst (f.cells.map .int)) else if key = "at" then some (.int f.pos) else if key = "left" then some (.int f.left) else if key = "turn" then some (.int f.turn) else none else none
noncomputable def FS.put (key : Str) (n : Int) (f : FS) : Option FS :=
 if f.kind = 0 then if key = "at" then some { f with pos := n } else if key = "left" then some { f with left := n } else if key = "turn" then some { f with turn := n } else none else none
noncomputable def g0 (i : Nat) (key : Str) : DE := fun s => match s.sl[i]? with
 | some (.val .feed) => s.fs.bind fun f => (f.get key).map fun d => (d, s)
 | _ => none
noncomputable def o5 (i : Nat) (key : Str) (fe : DE) : DM := fun s => (fe s).bind fun x => match x.2.sl[i]?, x.1 with
 | some (.val .feed), .int n => x.2.fs.bind fun f => (f.put key n).map fun f' => (.next, { x.2 with fs := some f' })
 | _, _ => none
noncomputable def J9 (i : Nat) : DE := fun s => match s.sl[i]?, s.fs with
 | some (.val (.scr ns)), none => some (.feed, { s with fs := some ⟨ns, 0, 0, 0, 0⟩ })
 | _, _ => none
noncomputable abbrev j4 (c : Addr) (f : FS) : List (a6 × V) := [(Sum.inr ("cells" : Str), V.ref c), (Sum.inr ("at" : Str), V.int f.pos), (Sum.inr ("left" : Str), V.int f.left), (Sum.inr ("turn" : Str), V.int f.turn)]
theorem T6 : ¬ (Sum.inr ("cells" : Str) : a6) = Sum.inr ("at" : Str) := by intro h; exact absurd (Sum.inr.inj h) (by decide +kernel)
theorem Q2 : ¬ (Sum.inr ("cells" : Str) : a6) = Sum.inr ("left" : Str) := by intro h; exact absurd (Sum.inr.inj h) (by decide +kernel)
theorem N5 : ¬ (Sum.inr ("cells" : Str) : a6) = Sum.inr ("turn" : Str) := by intro h; exact absurd (Sum.inr.inj h) (by decide +kernel)
theorem L0 : ¬ (Sum.inr ("at" : Str) : a6) = Sum.inr ("left" : Str) := by intro h; exact absurd (Sum.inr.inj h) (by decide +kernel)
theorem J5 : ¬ (Sum.inr ("at" : Str) : a6) = Sum.inr ("turn" : Str) := by intro h; exact absurd (Sum.inr.inj h) (by decide +kernel)
theorem L4 : ¬ (Sum.inr ("left" : Str) : a6) = Sum.inr ("turn" : Str) := by intro h; exact absurd (Sum.inr.inj h) (by decide +kernel)
theorem cy (c : Addr) (f : FS) : i3 (j4 c f) (Sum.inr ("cells" : Str)) = some (.ref c) := A6 rfl
theorem bG (c : Addr) (f : FS) : i3 (j4 c f) (Sum.inr ("at" : Str)) = some (.int f.pos) := by rw [j9 T6, A6 rfl]
theorem aw (c : Addr) (f : FS) : i3 (j4 c f) (Sum.inr ("left" : Str)) = some (.int f.left) := by rw [j9 Q2, j9 L0, A6 rfl]
theorem aR (c : Addr) (f : FS) : i3 (j4 c f) (Sum.inr ("turn" : Str)) = some (.int f.turn) := by rw [j9 N5, j9 J5, j9 L4, A6 rfl]
theorem T7 {kvs : List (a6 × V)} {k : a6} {v x : V} (h : i3 kvs k = some x) : c9 kvs k v = kvs.map (fun kv => if kv.1 = k then (kv.1, v) else kv) := by
 unfold c9
 rw [if_pos (by rw [M5, h]; rfl)]
theorem iE (c : Addr) (f : FS) (n : Int) : c9 (j4 c f) (Sum.inr ("at" : Str)) (.int n) = j4 c { f with pos := n } := by
 rw [T7 (bG c f)]
 simp only [List.map_cons, List.map_nil, if_neg T6, if_neg (Ne.symm L0), if_neg (Ne.symm J5), if_true]
theorem jb (c : Addr) (f : FS) (n : Int) : c9 (j4 c f) (Sum.inr ("left" : Str)) (.int n) = j4 c { f with left := n } := by
 rw [T7 (aw c f)]
 simp only [List.map_cons, List.map_nil, if_neg Q2, if_neg L0, if_neg (Ne.symm L4), if_true]
theorem ia (c : Addr) (f : FS) (n : Int) : c9 (j4 c f) (Sum.inr ("turn" : Str)) (.int n) = j4 c { f with turn := n } := by
 rw [T7 (aR c f)]
 simp only [List.map_cons, List.map_nil, if_neg N5, if_neg J5, if_neg L4, if_true]
theorem FS.get_val {key : Str} {f : FS} {d : D} (h : f.get key = some d) (c : Addr) : ∃ v, i3 (j4 c f) (Sum.inr key) = some v ∧ ((v = .ref c ∧ d = .lst (f.cells.map .int)) ∨ ∃ i, v = .int i ∧ d = .int i) ∧ f.kind = 0 := by
 unfold FS.get at h
 split at h
 case isFalse => cases h
 rename_i hk
 split at h
 ·rename_i e; subst e; cases h; exact ⟨_, cy c f, .inl ⟨rfl, rfl⟩, hk⟩
 split at h
 ·rename_i e; subst e; cases h; exact ⟨_, bG c f, .inr ⟨_, rfl, rfl⟩, hk⟩
 split at h
 ·rename_i e; subst e; cases h; exact ⟨_, aw c f, .inr ⟨_, rfl, rfl⟩, hk⟩
 split at h
 ·rename_i e; subst e; cases h; exact ⟨_, aR c f, .inr ⟨_, rfl, rfl⟩, hk⟩
 ·cases h
theorem FS.put_val {key : Str} {f f' : FS} {n : Int} (h : f.put key n = some f') (c : Addr) : c9 (j4 c f) (Sum.inr key) (.int n) = j4 c f' ∧ f'.cells = f.cells ∧ f.kind = 0 ∧ f'.kind = 0 := by
 unfold FS.put at h
 split at h
 case isFalse => cases h
 rename_i hk
 split at h
 ·rename_i e; subst e; cases h; exact ⟨iE c f n, rfl, hk, hk⟩
 split at h
 ·rename_i e; subst e; cases h; exact ⟨jb c f n, rfl, hk, hk⟩
 split at h
 ·rename_i e; subst e; cases h; exact ⟨ia c f n, rfl, hk, hk⟩
 ·cases h
section
variable {X : Cx} {g : Gh} {i : Nat} {x key : Str} {p1 p2 pos pos' : Pos} {j : Nat}
theorem fj (hu : X.A.units + 1 < cLine) (hv : PE X (.Name x p1) (w6 i)) : EO X g (.Subscript (.Name x p1) (.Constant (.str key) j p2) pos) (g0 i key) :=
 EO.w (dv hu hv A5 (fun _ _ => rfl)) fun σ H Q hQ => by
  refine hQ.elim fun fa O s d s' I e k => ?_
  unfold g0 at e
  cases q : s.sl[i]? with
  | none => rw [q] at e; cases e
  | some z =>
   rw [q] at e
   cases z with
   | no => cases e
   | own _ => cases e
   | val dz =>
    cases dz with
    | feed =>
     refine F0 e fun f h1 h2 => ?_
     refine v3 h2 fun d' h3 h4 => ?_
     cases h4
     obtain ⟨u, e1, r⟩ := SlR.val I.sl q
     simp only [Rep] at r
     obtain ⟨a, ha, rfl⟩ := r
     have fd := I.fd
     rw [h1, ha] at fd
     obtain ⟨_, c, hc, nc, lc⟩ := fd
     obtain ⟨v, hval, hd, hk⟩ := FS.get_val h3 c
     rw [P5 hk] at hc
     refine ⟨_, e1, a, v, rfl, ?_, k v H fa O StE.refl I ?_⟩
     ·have := DGet.k (k := Sum.inr key) hc
      rw [hval] at this
      exact this
     ·rcases hd with ⟨rfl, rfl⟩ | ⟨n, rfl, rfl⟩
      ·simp only [Rep]
       exact ⟨c, _, rfl, by rw [ha]; exact nc, lc, Reps.ints⟩
      ·simp only [Rep]
    | _ => cases e
theorem cJ {e : Expr} {fe : DE} (hu : X.A.units + 1 < cLine) (hv : PE X (.Name x p1) (w6 i)) (he : EO X g e fe) (hs : swapsWith e (some (.Subscript (.Name x p1) (.Constant (.str key) j p2) pos')) pos.line X.env = pure false := by rfl) :
  SO X g (.Assign [.Subscript (.Name x p1) (.Constant (.str key) j p2) pos'] e pos) (o5 i key fe) :=
 SO.w (gW hu hv A5 he.pe hs) fun E σ H hQ => by
  refine hQ.elim fun fa O s fl s' I q k => ?_
  refine d8 q fun d s1 h1 h2 => ?_
  simp only [] at h2
  cases q1 : s1.sl[i]? with
  | none => rw [q1] at h2; cases h2
  | some z =>
   rw [q1] at h2
   cases z with
   | no => cases h2
   | own _ => cases h2
   | val dz =>
    cases dz with
    | feed =>
     cases d with
     | int n =>
      simp only [] at h2
      refine F0 h2 fun f h3 h4 => ?_
      refine v3 h4 fun f' h5 h6 => ?_
      cases h6
      refine ⟨fa, O, s, .int n, s1, I, h1, fun v H1 f1 O1 a1 I1 r => ?_⟩
      simp only [Rep] at r
      subst r
      obtain ⟨u, e1, ru⟩ := SlR.val I1.sl q1
      simp only [Rep] at ru
      obtain ⟨a, ha, rfl⟩ := ru
      have fd := I1.fd
      rw [h3, ha] at fd
      obtain ⟨lc63, c, hc, nc, lc⟩ := fd
      obtain ⟨hput, hcell, hk, hk'⟩ := FS.put_val h5 c
      rw [P5 hk] at hc
      have hp := DPut.k (k := Sum.inr key) (v := .int n) hc (by show 4 < sizeLine; decide)
      rw [hput] at hp
      refine ⟨_, e1, a, _, rfl, hp, ?_⟩
      have a2 : StE f1 O1 H1 f1 O1 (a7 H1 a (.dK (j4 c f'))) := ⟨fun _ h => h, .inl rfl, fun b w e nb => by rw [a8 (fun z => nb (by rw [z]; exact ha))]; exact e, fun b z => by
       by_cases hb : b = a
       ·subst hb; rw [e7] at z; cases z
       ·rw [a8 hb] at z; exact z⟩
      have cr := I1.car a2.stp
      refine k σ _ f1 O1 (a1.stp.trans a2.stp) ⟨I1.nd, SlR.go cr (fun b xs hb e => a2.same b _ e fun z => I1.nf b z hb) I1.sl, I1.fr, ?_, I1.tr, I1.ff, ?_, I1.nf⟩
      ·refine ⟨fun b hb => (by cases hb), I1.st.fe, fun b w e _ nb => ?_, fun b z => I1.st.mon b (a2.mon b z)⟩
       refine a2.same b w (I1.st.same b w e (by simp) nb) fun z => ?_
       rcases I1.st.fe with y | ⟨y, y2⟩
       ·rw [y] at z; exact nb z
       ·rw [y2 b z] at e; cases e
      ·rw [ha]
       refine ⟨by rw [hcell]; exact lc63, c, by rw [P5 hk', e7], nc, ?_⟩
       rw [a8 (fun z => by rw [z, hc] at lc; cases lc), hcell]
       exact lc
     | _ => cases h2
    | _ => cases h2
theorem ck (xs : List V) (h : xs.length ≤ 63) : C5 xs none (some 63) = xs := by
 unfold C5
 have e1 : HT.sIx xs.length 0 none = 0 := rfl
 have e2 : HT.sIx xs.length xs.length (some 63) = xs.length := by
  have := HT.sIx_nat xs.length xs.length 63
  rw [show ((63 : Nat) : Int) = 63 from rfl] at this
  rw [this]; omega
 rw [e1, e2, List.drop_zero, Nat.sub_zero, List.take_length]
theorem eY (q : Addr) : C6 [] [(Sum.inr ("cells" : Str), V.ref q), (Sum.inr ("at" : Str), V.int 0), (Sum.inr ("left" : Str), V.int 0), (Sum.inr ("turn" : Str), V.int 0)] = j4 q ⟨[], 0, 0, 0, 0⟩ := by
 show c9 (c9 (c9 (c9 ([] : List (a6 × V)) (Sum.inr ("cells" : Str)) (V.ref q)) (Sum.inr ("at" : Str)) (V.int 0)) (Sum.inr ("left" : Str)) (V.int 0)) (Sum.inr ("turn" : Str)) (V.int 0) = _
 have e1 : c9 ([] : List (a6 × V)) (Sum.inr ("cells" : Str)) (V.ref q) = [(Sum.inr ("cells" : Str), V.ref q)] := J3 _ L5
 have e2 : c9 ([(Sum.inr ("cells" : Str), V.ref q)] : List (a6 × V)) (Sum.inr ("at" : Str)) (V.int 0) = [(Sum.inr ("cells" : Str), V.ref q), (Sum.inr ("at" : Str), V.int 0)] := J3 _ (by rw [j9 T6, L5])
 have e3 : c9 ([(Sum.inr ("cells" : Str), V.ref q), (Sum.inr ("at" : Str), V.int 0)] : List (a6 × V)) (Sum.inr ("left" : Str)) (V.int 0) = [(Sum.inr ("cells" : Str), V.ref q), (Sum.inr ("at" : Str), V.int 0), (Sum.inr ("left" : Str), V.int 0)] := J3 _ (by rw [j9 Q2, j9 L0, L5])
 rw [e1, e2, e3]
 exact J3 _ (by rw [j9 N5, j9 J5, j9 L4, L5])
theorem fP {k1 k2 k3 k4 j63 j0 j1 j2 : Nat} {q1 q2 q3 q4 q5 q6 q7 q8 q9 q10 : Pos} (hv : PE X (.Name x p1) (w6 i)) :
  EO X g (.Dict [some (.Constant (.str ("cells" : Str)) k1 q1), some (.Constant (.str ("at" : Str)) k2 q2), some (.Constant (.str ("left" : Str)) k3 q3), some (.Constant (.str ("turn" : Str)) k4 q4)]
   [.Subscript (.Name x p1) (.Slice none (some (.Constant (.int 63) j63 q5)) none q6) q7, .Constant (.int 0) j0 q8, .Constant (.int 0) j1 q9, .Constant (.int 0) j2 q10] pos) (J9 i) :=
 EO.w (jr (L9 A5 (hE gn hv gM (cp G6)) (L9 A5 G6 (L9 A5 G6 (L9 A5 G6 cC)))) rfl rfl (by simp) (by show 4 ≤ 15; decide)) fun σ H Q hQ => by
  refine hQ.elim fun fa O s d s' I e k => ?_
  unfold J9 at e
  cases q : s.sl[i]? with
  | none => rw [q] at e; cases e
  | some z =>
   rw [q] at e
   cases z with
   | no => cases e
   | own _ => cases e
   | val dz =>
    cases dz with
    | scr ns =>
     cases hf : s.fs with
     | some f => rw [hf] at e; cases e
     | none =>
      rw [hf] at e
      cases e
      obtain ⟨u, e1, r⟩ := SlR.val I.sl q
      simp only [Rep] at r
      obtain ⟨l63, a, rfl, sq⟩ := r
      have fd := I.fd
      rw [hf] at fd
      have fan : fa = none := by cases fa with | none => rfl | some _ => exact fd.elim
      subst fan
      intro p hp
      have sq1 : SqF X.K (a7 H p (.dK [])) a (ns.map V.int) := by
       rcases sq with ⟨o, sq⟩ | sq
       ·exact .inl ⟨o, by rw [a8 (g5 sq hp)]; exact sq⟩
       ·exact .inr sq
      refine ⟨_, e1, 63, rfl, a, _, rfl, sq1.sq, fun c hc => ?_⟩
      rw [ck _ (by rw [List.length_map]; exact l63)]
      have npc : c ≠ p := fun z => by rw [z, e7] at hc; cases hc
      have hcH : H c = none := by rw [a8 npc] at hc; exact hc
      refine ⟨by rw [a8 (Ne.symm npc), e7], [(Sum.inr ("cells" : Str), V.ref c), (Sum.inr ("at" : Str), V.int 0), (Sum.inr ("left" : Str), V.int 0), (Sum.inr ("turn" : Str), V.int 0)], rfl, by show 4 ≤ 15; decide, ?_⟩
      rw [eY]
      have fresh : ∀ b u, H b = some u → b ≠ p ∧ b ≠ c := fun b u e => ⟨g5 e hp, g5 e hcH⟩
      have a2 : StE none O H (some p) O (a7 (a7 (a7 H p (.dK [])) c (.lst (ns.map V.int))) p (.dK (j4 c ⟨[], 0, 0, 0, 0⟩))) := by
       refine ⟨fun _ h => h, .inr ⟨rfl, fun b z => by cases z; exact hp⟩, fun b u e _ => ?_, fun b z => ?_⟩
       ·obtain ⟨n1, n2⟩ := fresh b u e
        rw [a8 n1, a8 n2, a8 n1]; exact e
       ·by_cases h1 : b = p
        ·subst h1; exact hp
        ·by_cases h2 : b = c
         ·subst h2; exact hcH
         ·rw [a8 h1, a8 h2, a8 h1] at z; exact z
      have cr := I.car a2.stp
      refine k _ _ (some p) O a2 ⟨I.nd, SlR.go cr (fun b xs hb e => a2.same b _ e (by simp)) I.sl, I.fr, I.st.trans ⟨fun b hb => (by cases hb), a2.fe, fun b u e _ n => a2.same b u e n, a2.mon⟩, I.tr, I.ff, ?_, I.nf_step a2.fe⟩ (by simp only [Rep]; exact ⟨p, rfl, rfl⟩)
      refine ⟨l63, c, e7, ?_, ?_⟩
      ·rintro (z | z | z)
       ·exact I.trF z hcH
       ·obtain ⟨xs, e⟩ := I.owned z
        rw [hcH] at e; cases e
       ·exact npc (Option.some.inj z).symm
      ·rw [a8 npc, e7]
    | _ => cases e
end
structure Cal (P : Program) (w : World) (K : PySem.W.Frag) (mg : Str → Option Value) (base : Heap) (k : Nat) (x : Str) (ps : List Str) (m : c7) : Prop where
 ex : ∃ (f : Addr) (fd : FuncData), K5 P w K mg base k f fd ps m ∧ mg x = some (.ref f) ∧ PySem.W.keepIn K (.ref f) = true ∧ Binds K fd ps []
structure Blt (mg : Str → Option Value) : Prop where
 len : mg "len" = none
 range : mg "range" = none
 abs : mg "abs" = none
 tuple : mg "tuple" = none
 list : mg "list" = none
 int : mg "int" = none
 bool : mg "bool" = none
 str : mg "str" = none
 repr : mg "repr" = none
 all : mg "all" = none
 isinstance : mg "isinstance" = none
 zip : mg "zip" = none
 enumerate : mg "enumerate" = none
 min : mg "min" = none
 max : mg "max" = none
 reversed : mg "reversed" = none
 any : mg "any" = none
 sum : mg "sum" = none
 sorted : mg "sorted" = none
section
variable {X : Cx} {g : Gh} {k : Nat} {ps : List Str} {m : c7} {x : Str} {p pos : Pos} {e : Expr} {es : List Expr} {t : DA}
theorem fO (C : Cal X.prog X.w X.K X.mg X.base k x ps m) (k' : Nat) (hr : Room k' X.A) (hk : k ≤ k') (hg : Gl X x)
  (ha : AO X g (e :: es) t) (hn : ∀ s ds s', t s = some (ds, s') → ds.length = ps.length) (hdb : (x == ("__debug__" : Str)) = false := by decide) (he : starEach (e :: es) X.env = (false, eval e X.env) :: starEach es X.env := by rfl) (hpl : (backTo pos (starEach es X.env)).any (·.1) = false := by rfl) :
  EO X g (.Call (.Name x p) (e :: es) [] pos) (o9 m t) := by
 obtain ⟨f, fd, F, hm, hkp, hb⟩ := C.ex
 exact bQ F (hr.mono hk) hg hm hkp hb ha hn hdb he hpl
end
theorem iP {P : Program} {w : World} {K : PySem.W.Frag} {mg : Str → Option Value} {base : Heap} {x : Str} {st : Stmt} {f : Addr} {fd : FuncData} {N ps : List Str} {k : Nat} {b : DM} (F : Fun K x x st f fd) (hm : mg x = some (.ref f)) (hb : Binds K fd ps []) (S : FnScope N ps (e6 st))
  (hbody : ∀ (cdv : Value) (A : Around) (outer : List Env) (s : Shared) (H : Hp) (E : XK) (g : Gh), Room k (A.deeper (PyProof.Rows.envOfC x (e6 st) s.heap.objs.size f cdv)) → SSO (t7 p0 P w K mg base N x (e6 st) f cdv A outer s H E).nox g (m8 st) b) :
  Cal P w K mg base (k + 1) x ps (t5 N.length b) := ⟨f, fd, aM F S hbody, hm, F.kp, hb⟩
theorem J7 {A : Around} {k : Nat} (hr : Room k A) : A.units + 64 < cLine := by have := hr.un; omega
theorem hJ {A : Around} {k : Nat} (hr : Room k A) : A.units + 66 < cLine := by have := hr.un; omega
theorem jk : bootBuiltins ("len" : Str) = some (.builtin "len") := by decide +kernel
theorem fL : bootBuiltins ("repr" : Str) = some (.builtin "repr") := by decide +kernel
theorem aN : bootBuiltins ("isinstance" : Str) = some (.builtin "isinstance") := by decide +kernel
theorem P1 {κ : Type} [BEq κ] [LawfulBEq κ] {β : Type} : ∀ {l : List (κ × β)} {x : κ} {v : β}, l.lookup x = some v → (x, v) ∈ l
 | [], _, _, h => by simp at h
 | (a, b) :: r, x, v, h => by
  rw [List.lookup_cons] at h
  cases e : x == a with
  | true =>
   rw [e] at h
   cases h
   rw [eq_of_beq e]
   exact List.mem_cons_self ..
  | false =>
   rw [e] at h
   exact List.mem_cons_of_mem _ (P1 h)
noncomputable def hasAll (names : List (Str × NameKind)) (cl : List (Str × Addr)) : Bool := names.all fun p => !(p.2 == .cell || p.2 == .free) || (cl.lookup p.1).isSome
theorem bZ {names : List (Str × NameKind)} {cl : List (Str × Addr)} (h : hasAll names cl = true) : ∀ x, (names.lookup x = some .cell ∨ names.lookup x = some .free) → ∃ c, cl.lookup x = some c := fun x hx => by
 have key : ∀ kd, names.lookup x = some kd → (kd == NameKind.cell || kd == NameKind.free) = true → ∃ c, cl.lookup x = some c := fun kd e q => by
  have m := P1 e
  have z := List.all_eq_true.mp h _ m
  simp only [q, Bool.not_true, Bool.false_or] at z
  exact Option.isSome_iff_exists.mp z
 rcases hx with e | e
 ·exact key _ e rfl
 ·exact key _ e rfl
inductive CapL (X : Cx) (scope : Scope) : List Nat → List Str → Prop where
 | nil : CapL X scope [] []
 | cons {i : Nat} {y : Str} {r : List Nat} {ys : List Str} (h1 : X.N[i]? = some y) (h2 : X.env.scope.names.lookup y = some .cell ∨ X.env.scope.names.lookup y = some .free)
   (h3 : (relabel scope X.env).names.lookup y = some .cell ∨ (relabel scope X.env).names.lookup y = some .free) (t : CapL X scope r ys) : CapL X scope (i :: r) (y :: ys)
theorem CapL.len {X : Cx} {scope : Scope} : ∀ {idx : List Nat} {ys : List Str}, CapL X scope idx ys → ys.length = idx.length
:= by
 intro idx ys h
 induction h with
 | nil => rfl
 | cons _ _ _ t ih => rw [List.length_cons, List.length_cons, ih]
theorem CapL.at {X : Cx} {scope : Scope} : ∀ {idx : List Nat} {ys : List Str}, CapL X scope idx ys → ∀ (j i : Nat) (y : Str), idx[j]? = some i → ys[j]? = some y →
  X.N[i]? = some y ∧ (X.env.scope.names.lookup y = some .cell ∨ X.env.scope.names.lookup y = some .free) ∧ ((relabel scope X.env).names.lookup y = some .cell ∨ (relabel scope X.env).names.lookup y = some .free)
:= by
 intro idx ys h
 induction h with
 | nil => intro j i y h; cases h
 | cons h1 h2 h3 t ih =>
  intro j i y e1 e2
  cases j with
  | zero =>
   cases e1
   cases e2
   exact ⟨h1, h2, h3⟩
  | succ j => exact ih j i y e1 e2
inductive SubL (cells : List (Str × Addr)) : List (Str × Addr) → Prop where
 | nil : SubL cells []
 | cons {x : Str} {c : Addr} {r : List (Str × Addr)} (h : cells.lookup x = some c) (t : SubL cells r) : SubL cells ((x, c) :: r)
theorem SubL.mem {cells : List (Str × Addr)} : ∀ {cl : List (Str × Addr)}, SubL cells cl → ∀ x c, (x, c) ∈ cl → cells.lookup x = some c
:= by
 intro cl h
 induction h with
 | nil => intro x c h; cases h
 | cons e t ih =>
  intro x c h
  rcases List.mem_cons.mp h with z | z
  ·cases z; exact e
  ·exact ih x c z
theorem dQ {X : Cx} {scope : Scope} {cl : List (Str × Addr)} {x : Str} {caps : List Str} {idx : List Nat} (clos : closureFor scope X.env = pure cl) (sub : SubL X.env.cells cl) (cell : ∀ y ∈ scope.names, y.2 ≠ .cell) (kind : scope.kind = .function)
  (names : ∀ y ∈ scope.names, y.2 = .local → scope.names.lookup y.1 = some .local) (has : hasAll (relabel scope X.env).names cl = true) (cap : CapL X scope idx caps) : CompOk X scope cl (x :: caps) 1 idx :=
 ⟨clos, fun y c e => sub.mem y c (P1 e), cell, kind, names, bZ has, by rw [List.length_cons, cap.len, Nat.add_comm], fun j i y e1 e2 => cap.at j i y e1 (by rw [Nat.add_comm] at e2; simpa using e2)⟩
theorem walkD {l : PySem.W.OpenLaw} {q : Program} {loose : List Str} {XP : (Str → Option Value) → Heap → Prop} {YP : World → Heap → Prop} {d : DefRec} {K : Params → PySem.W.Frag} {m : c7} {k : Nat} (hn : l.most = some 63) (hdf : d.params.defaults = []) (hr : Room k callerA)
  (hY : ∀ (w : World) (h : Heap), YP w h → (K w.params).In h)
  (F : ∀ (w : World) (mg : Str → Option Value) (fa : Addr) (h : Heap), (K w.params).In h → h.Ns mainGlobals mg → mg d.name = some (.ref fa) →
   ∃ fd : FuncData, (∀ (s : Shared) (u : Value), BindsTo s fd ⟨[u], []⟩ [("_law_script", u)]) ∧ ∀ base : Heap, (K w.params).In base → base.Ns mainGlobals mg → FnOk l.prog w (K w.params) mg base p0 k fa fd ["_law_script"] (B6 (K w.params) 1 m))
  (math : ∀ ns : List Int, ns.length ≤ 63 → ∃ fs', m [.scr ns] none = some (.bl true, fs')) :
  PySem.W.WalkO q loose XP YP l.row.toRowW d [] (fun f vs => PySem.call f vs) :=
 L2.walk_of (n := 63) (k := k) (x := "_law_script") (CX := fun _ => p0) (sp := fun w => B6 (K w.params) 1 m) hn (by decide) hdf hr hY F (fun w H a ns hl hO hS => by
  obtain ⟨fs', e⟩ := math ns hl
  refine ⟨fun _ => False, none, [.scr ns], none, .bl true, fs', fun b z => z.elim, fun a z => (by cases z), ?_, trivial, e, rfl, fun v H' fa' _ _ r => by simpa only [Rep] using r⟩
  simp only [Reps, Rep]
  refine ⟨_, _, rfl, ⟨hl, a, rfl, ?_⟩, rfl⟩
  rcases hS with (z | ⟨o, z⟩) | z
  ·rcases hO a with y | ⟨o, xs, y⟩ <;> · rw [z] at y; cases y
  ·exact .inl ⟨o, z⟩
  ·exact .inr z) fun _ _ _ _ _ z => z
noncomputable def noStar : Expr → Bool
 | .Starred _ _ => false
 | _ => true
theorem W2 {a : Expr} {es : List Expr} {env : Env} (h : noStar a = true) : starEach (a :: es) env = (false, eval a env) :: starEach es env := by
 cases a <;> first | rfl | (cases h)
section
variable {X : Cx} {g : Gh} {a : Expr} {es : List Expr} {fa : DE} {fr : DA}
theorem ac (ha : EO X g a fa) (hr : AO X g es fr) (hs : noStar a = true := by rfl) : AO X g (a :: es) (a0 fa fr) := U8 ha hr (W2 hs)
theorem bc (ha : BO X g a fa) (hr : BAO X g es fr) (hs : noStar a = true := by rfl) : BAO X g (a :: es) (a0 fa fr) := fZ ha hr (W2 hs)
end
end DL
namespace DL
open PySem PySem.Spec L2 PyProof.Rows
noncomputable def G9 (x : D) (ds : List D) : Bool := (D.pys ds).any fun y => PyData.eqv y x.py
noncomputable def M4 (f : Bool → Bool) (x c : D) : Option D := match c with
 | .lst ds => if g9 x && g9 (.lst ds) then some (.bl (f (G9 x ds))) else none
 | .tup ds => if g9 x && g9 (.tup ds) then some (.bl (f (G9 x ds))) else none
 | _ => none
noncomputable def Y5 (x c : D) : Option D := M4 id x c
noncomputable def R8 (K : PySem.W.Frag) (f : Bool → Bool) : R2 := fun x y H Q => ∃ N fa d1 d2 ds, RepB K N fa H d1 x ∧ RepB K N fa H d2 y ∧ (d2 = .lst ds ∨ d2 = .tup ds) ∧ g9 d1 = true ∧ g9 d2 = true ∧ Q (.bl (f (G9 d1 ds))) H
section
variable {X : Cx} {K : PySem.W.Frag}
theorem bF {u a b : Nat} (h : u + 64 < cLine) (ha : a + 1 ≤ 64) : u + 1 + min a b < cLine := by
 have : min a b ≤ a := Nat.min_le_left _ _
 omega
theorem gX (hu : X.A.units + 64 < cLine) : OpR X (compareOp .In) (R8 X.K id) := by
 intro pins s σ H x y v u Q I rx ry h
 obtain ⟨N, fa, d1, d2, ds, r1, r2, hd, o1, o2, q⟩ := h
 unfold g9 at o1 o2
 rw [Bool.and_eq_true] at o1 o2
 obtain ⟨as, h1⟩ := v5 I d1 x v r1.o rx o1.1
 obtain ⟨bs, h2⟩ := v5 I d2 y u r2.o ry o2.1
 have l2 := SeqAt.canLay_of_shaped o2.2
 have dp := SeqAt.depth_of_shaped o2.2
 rcases hd with rfl | rfl
 ·simp only [D.py, PyData.canLay0, PyData.depth] at h2 l2 dp
  exact SeqAt.in_list_reads h2 h1 l2 (SeqAt.canLay_of_shaped o1.2) (bF hu dp) ⟨.bl _, H, I, rfl, q⟩
 ·simp only [D.py, PyData.canLay0, PyData.depth] at h2 l2 dp
  exact SeqAt.in_tuple_reads h2 h1 l2 (SeqAt.canLay_of_shaped o1.2) (bF hu dp) ⟨.bl _, H, I, rfl, q⟩
theorem ei {f : Bool → Bool} {x c d : D} (h : M4 f x c = some d) : ∃ ds, (c = .lst ds ∨ c = .tup ds) ∧ g9 x = true ∧ g9 c = true ∧ d = .bl (f (G9 x ds)) := by
 unfold M4 at h
 cases c with
 | lst ds =>
  simp only at h
  split at h
  ·rename_i q; rw [Bool.and_eq_true] at q; cases h; exact ⟨ds, .inl rfl, q.1, q.2, rfl⟩
  ·cases h
 | tup ds =>
  simp only at h
  split at h
  ·rename_i q; rw [Bool.and_eq_true] at q; cases h; exact ⟨ds, .inr rfl, q.1, q.2, rfl⟩
  ·cases h
 | _ => cases h
theorem jh (f : Bool → Bool) : i7 K (R8 K f) (M4 f) := by
 intro g σ H fa O s x y d1 d2 d Q I r1 r2 e k
 obtain ⟨ds, hc, o1, o2, rfl⟩ := ei e
 exact ⟨_, fa, d1, d2, ds, r1, r2, hc, o1, o2, k _ H StE.refl I (by simp only [Rep])⟩
theorem fF : i7 K (R8 K id) Y5 := jh id
end
end DL
namespace DL
open PySem PySem.Spec L2
theorem aV {α : Type _} {P : List α → Prop} (h : ∀ a1 : α, P [a1]) : ∀ us : List α, us.length = 1 → P us := by
 intro us e
 match us, e with | [a1], _ => exact h a1
theorem on2 {α : Type _} {P : List α → Prop} (h : ∀ a1 a2 : α, P [a1, a2]) : ∀ us : List α, us.length = 2 → P us := by
 intro us e
 match us, e with | [a1, a2], _ => exact h a1 a2
theorem on3 {α : Type _} {P : List α → Prop} (h : ∀ a1 a2 a3 : α, P [a1, a2, a3]) : ∀ us : List α, us.length = 3 → P us := by
 intro us e
 match us, e with | [a1, a2, a3], _ => exact h a1 a2 a3
structure GF (K : PySem.W.Frag) (mg : Str → Option Value) (n : Str) (st : Stmt) (f : Addr) (fd : FuncData) : Prop where
 F : Fun K n n st f fd
 m : mg n = some (.ref f)
section
variable {K : PySem.W.Frag} {h : Heap} {mg : Str → Option Value} {n : Str} {st : Stmt} {f : Addr} {fd : FuncData}
theorem gf_mk (X : K.In h) (G : h.Ns mainGlobals mg) {oc : Value} {od an : Option Addr} {osl : Array (Option Value)} {kV doc pm cdv ct : Value} (a : PySem.W.nsIn K mainGlobals n = some (some (.ref f))) (l : K.lookup f = some ⟨oc, od, .func (PySem.W.fnOf n n (w9 st) (m8 st) (e6 st) .none kV doc pm an cdv ct), osl⟩)
  (c : PySem.W.codeIn K cdv n = true) (k : PySem.W.keepIn K (.ref f) = true) : GF K mg n st f (PySem.W.fnOf n n (w9 st) (m8 st) (e6 st) .none kV doc pm an cdv ct) := ⟨dH l c k, PySem.W.mg_of X G a⟩
theorem cA {x : Str} (F : Fun K n n st f fd) (q : ∀ (kV doc pm : Value) (an : Option Addr) (cdv ct : Value) (s : Shared) (v : Value), BindsTo s (PySem.W.fnOf n n (w9 st) (m8 st) (e6 st) .none kV doc pm an cdv ct) ⟨[v], []⟩ [(x, v)]) : ∀ (s : Shared) (v : Value), BindsTo s fd ⟨[v], []⟩ [(x, v)] := by
 obtain ⟨oc, od, kV, doc, pm, an, cdv, ct, osl, rfl, lk, hcd⟩ := F.ex
 exact fun s v => q kV doc pm an cdv ct s v
theorem blt_mk (X : K.In h) (G : h.Ns mainGlobals mg) (z0 : PySem.W.nsIn K mainGlobals "len" = some none) (z1 : PySem.W.nsIn K mainGlobals "range" = some none) (z2 : PySem.W.nsIn K mainGlobals "abs" = some none) (z3 : PySem.W.nsIn K mainGlobals "tuple" = some none) (z4 : PySem.W.nsIn K mainGlobals "list" = some none) (z5 : PySem.W.nsIn K mainGlobals "int" = some none) (z6 : PySem.W.nsIn K mainGlobals "bool" = some none) (z7 : PySem.W.nsIn K mainGlobals "str" = some none) (z8 : PySem.W.nsIn K mainGlobals "repr" = some none) (z9 : PySem.W.nsIn K mainGlobals "all" = some none) (z10 : PySem.W.nsIn K mainGlobals "isinstance" = some none) (z11 : PySem.W.nsIn K mainGlobals "zip" = some none) (z12 : PySem.W.nsIn K mainGlobals "enumerate" = some none) (z13 : PySem.W.nsIn K mainGlobals "min" = some none) (z14 : PySem.W.nsIn K mainGlobals "max" = some none) (z15 : PySem.W.nsIn K mainGlobals "reversed" = some none) (z16 : PySem.W.nsIn K mainGlobals "any" = some none) (z17 : PySem.W.nsIn K mainGlobals "sum" = some none) (z18 : PySem.W.nsIn K mainGlobals "sorted" = some none) : Blt mg := ⟨PySem.W.mg_none_of X G z0, PySem.W.mg_none_of X G z1, PySem.W.mg_none_of X G z2, PySem.W.mg_none_of X G z3, PySem.W.mg_none_of X G z4, PySem.W.mg_none_of X G z5, PySem.W.mg_none_of X G z6, PySem.W.mg_none_of X G z7, PySem.W.mg_none_of X G z8, PySem.W.mg_none_of X G z9, PySem.W.mg_none_of X G z10, PySem.W.mg_none_of X G z11, PySem.W.mg_none_of X G z12, PySem.W.mg_none_of X G z13, PySem.W.mg_none_of X G z14, PySem.W.mg_none_of X G z15, PySem.W.mg_none_of X G z16, PySem.W.mg_none_of X G z17, PySem.W.mg_none_of X G z18⟩
theorem U0 {P : Program} {w : World} {base : Heap} {N ps : List Str} {k : Nat} {b : DM} (F : GF K mg n st f fd) (q : ∀ (kV doc pm : Value) (an : Option Addr) (cdv ct : Value) (us : List Value), us.length = ps.length → bindArgs (PySem.W.fnOf n n (w9 st) (m8 st) (e6 st) .none kV doc pm an cdv ct) ⟨us, []⟩ = pure (ps.zip us)) (S : FnScope N ps (e6 st))
  (hbody : ∀ (cdv : Value) (A : Around) (outer : List Env) (s : Shared) (H : Hp) (E : XK) (g : Gh), Room k (A.deeper (PyProof.Rows.envOfC n (e6 st) s.heap.objs.size f cdv)) → SSO (t7 p0 P w K mg base N n (e6 st) f cdv A outer s H E).nox g (m8 st) b) :
  Cal P w K mg base (k + 1) n ps (t5 N.length b) := iP F.F F.m (F.F.binds q) S hbody
end
end DL
namespace L2
open PySem PySem.W PySem.Spec PySem.Builtin PySem.Builtin.ObjectAttr
section
variable {prog : Program} {w : World} {A : Around} {E : Value → Shared → Prop} {h : Heap} {g : Array GenState} {d : Drawn} {t : Nat} {os : OsState} {K : PySem.W.Frag} {x C dx : Addr} {o : Obj} {vs : Array Value} {mA : Str → Option Value} {name : Str} {v : Value}
theorem fJ {tk : Tok} {Q : Fin → Shared → Prop} (X : K.In h) (hx : h.get? x = some o) (hc : o.cls = .ref C) (hd : o.data = .fields vs) (hdx : o.dict = some dx) (hn : h.Ns dx mA) (hv : mA name = some v) (f0 : hasDictIn K C = true)
  (f3 : findIn K (.ref C) name = some none) (hq : Q (.done (.ret v)) ⟨h, g, d, t, os⟩) :
  wpAny (model prog w) A (Builtin.«object.__getattribute__» ⟨[.ref x, .str name tk], []⟩) Q E ⟨h, g, d, t, os⟩ := by
 have L := looks_findIn (M := model prog w) X f3
 unfold Builtin.«object.__getattribute__»
 repeat (any_goals (first | assumption | (with_reducible refine wpAny_loadPart_at hx ?_; rw [hc]) | with_reducible refine L.at ?_ | wp_step))
 obtain ⟨cd, hcd, hdc⟩ := any_some f0
 have LC := looks_clsIn (M := model prog w) X hcd
 rw [hd]
 unfold instanceDict
 repeat (first | (with_reducible refine wpAny_loadPart_at hx ?_; rw [hc]) | with_reducible refine LC.at ?_ | wp_step)
 rw [hdx]
 repeat (first | (with_reducible refine wpAny_nsGet hn ?_; rw [hv]) | wp_step)
 exact hq
theorem Z9 {M : Model} {nameV : Value} {Q : Unit → Shared → Prop} (X : K.In h) (f4 : subIn K (.ref C) (.type "BaseException") = some true) (hx : h.get? x = some o) (hc : o.cls = .ref C) (hq : Q () ⟨h, g, d, t, os⟩) :
  wpAny M A (checkBuiltinCall "BaseException.__getattribute__" ⟨[.ref x, nameV], []⟩) Q E ⟨h, g, d, t, os⟩ := by
 have L := looks_subIn (M := M) X f4
 have k1 : builtinKind "BaseException.__getattribute__" = some .slot := by decide +kernel
 have k2 : splitId "BaseException.__getattribute__" = some ("BaseException", "__getattribute__") := by decide +kernel
 have ha := F.args_bexc_ga (.ref x) nameV
 simp only [checkBuiltinCall, k1, k2]
 refine wpAny_bind ?_
 unfold isInstance
 repeat (first | (with_reducible refine wpAny_loadPart_at hx ?_; rw [hc]) | with_reducible refine L.at ?_ | wp_step)
 exact hq
theorem gI {tk : Tok} {R : Result → Shared → Prop} (X : K.In h) (hx : h.get? x = some o) (hc : o.cls = .ref C) (hd : o.data = .fields vs) (hdx : o.dict = some dx) (hn : h.Ns dx mA) (hv : mA name = some v) (f0 : hasDictIn K C = true)
  (f3 : findIn K (.ref C) name = some none) (f4 : subIn K (.ref C) (.type "BaseException") = some true) (hq : R (.ok (.ret v)) ⟨h, g, d, t, os⟩) :
  codeAny (model prog w) A (.call (.builtin "BaseException.__getattribute__") ⟨[.ref x, .str name tk], []⟩) R ⟨h, g, d, t, os⟩ :=
 codeAny_call_builtin PySem.F.attr_ValueError.ga.plain F.entry_bexc_ga (Z9 X f4 hx hc (fJ X hx hc hd hdx hn hv f0 f3 hq))
theorem gD {tk : Tok} {fill expr : Bool} {Q : Value → Shared → Prop} (X : K.In h) (hx : h.get? x = some o) (hc : o.cls = .ref C) (hd : o.data = .fields vs) (hdx : o.dict = some dx) (hn : h.Ns dx mA) (hv : mA name = some v) (f0 : hasDictIn K C = true)
  (f1 : findIn K (.ref C) "__getattribute__" = some (some (.builtin "BaseException.__getattribute__"))) (f2 : findIn K (.ref C) "__getattr__" = some none) (f3 : findIn K (.ref C) name = some none) (f4 : subIn K (.ref C) (.type "BaseException") = some true) (hh : ∀ id, v ≠ .builtin id) (hq : Q v ⟨h, g, d, t, os⟩) :
  wpAny (model prog w) A (getAttrBy (.ref x) (.str name tk) fill expr) Q E ⟨h, g, d, t, os⟩ := by
 have L1 := looks_findIn (M := model prog w) X f1
 have L2 := looks_findIn (M := model prog w) X f2
 have b3 := PySem.F.attr_ValueError.ga.bind (.ref x)
 have y0 : (expr && onTheHeap (Value.builtin "BaseException.__getattribute__")) = false := by cases expr <;> rfl
 have y2 : (Value.builtin "BaseException.__getattribute__" == Value.builtin "object.__getattribute__") = false := by decide +kernel
 have y1 : (onTheHeap (Value.ref C) && Value.builtin "BaseException.__getattribute__" == Value.builtin "object.__getattribute__") = false := by rw [y2]; rfl
 repeat (any_goals (first | assumption | (with_reducible refine wpAny_loadPart_at hx ?_; rw [hc]) | with_reducible refine L1.at ?_ | with_reducible refine L2.at ?_ | wp_step))
 refine gI X hx hc hd hdx hn hv f0 f3 f4 ?_
 repeat (any_goals (first | assumption | wp_step))
 cases v <;> first | exact wpAny_pure hq | exact absurd rfl (hh _)
theorem cS {expr : Bool} {Q : Value → Shared → Prop} (X : K.In h) (hx : h.get? x = some o) (hc : o.cls = .ref C) (hd : o.data = .fields vs) (hdx : o.dict = some dx) (hn : h.Ns dx mA) (hv : mA name = some v) (f0 : hasDictIn K C = true)
  (f1 : findIn K (.ref C) "__getattribute__" = some (some (.builtin "BaseException.__getattribute__"))) (f2 : findIn K (.ref C) "__getattr__" = some none) (f3 : findIn K (.ref C) name = some none) (f4 : subIn K (.ref C) (.type "BaseException") = some true) (hh : ∀ id, v ≠ .builtin id) (hq : Q v ⟨h, g, d, t + 1, os⟩) :
  wpAny (model prog w) A (getAttr (.ref x) name expr) Q E ⟨h, g, d, t, os⟩ := by
 unfold getAttr
 repeat (any_goals (first | assumption | with_reducible apply gD X hx hc hd hdx hn hv f0 f1 f2 f3 f4 hh | wp_step))
theorem eC {R : Result → Shared → Prop} (X : K.In h) (hx : h.get? x = some o) (hc : o.cls = .ref C) (f5 : subIn K (.ref C) (.type "object") = some true) (hq : R (.ok (.ret (.ref C))) ⟨h, g, d, t, os⟩) :
  codeAny (model prog w) A (.call (.builtin "getset_descriptor.__get__") ⟨[.builtin "object.__class__", .ref x, .ref C], []⟩) R ⟨h, g, d, t, os⟩ := by
 have b5 : (⟨h, g, d, t, os⟩ : Shared).TypeIs (.builtin "object.__class__") "getset_descriptor" := F.typeOf_object_class
 have L := looks_subIn (M := model prog w) X (show subIn K (.ref C) (.type (".".intercalate ("object.__class__".cutAt '.').dropLast)) = some true by rw [F.owner_object_class]; exact f5)
 refine codeAny_call_builtin F.slot_gs_get.plain F.entry_gs_get (F.slot_gs_get.check _ _ _ _ _ _ _ _ b5 (F.args_gs_get _ _ _) ?_)
 repeat (any_goals (first | assumption | (with_reducible refine wpAny_loadPart_at hx ?_; rw [hc]) | with_reducible refine L.at ?_ | wp_step))
 refine ⟨Code.quiet_builtin _ (by decide +kernel), codeAny_builtin F.entry_object_class ?_⟩
 repeat (any_goals (first | assumption | (with_reducible refine wpAny_loadPart_at hx ?_; rw [hc]) | wp_step))
theorem dj {tk : Tok} {Q : Fin → Shared → Prop} (X : K.In h) (hx : h.get? x = some o) (hc : o.cls = .ref C) (f5 : subIn K (.ref C) (.type "object") = some true) (f6 : findIn K (.ref C) "__class__" = some (some (.builtin "object.__class__"))) (hq : Q (.done (.ret (.ref C))) ⟨h, g, d, t, os⟩) :
  wpAny (model prog w) A (Builtin.«object.__getattribute__» ⟨[.ref x, .str "__class__" tk], []⟩) Q E ⟨h, g, d, t, os⟩ := by
 have L := looks_findIn (M := model prog w) X f6
 have b5 := F.typeOf_object_class
 have b6 := F.slot_gs_get.lookup
 have b7 := F.slot_gs_set.lookup
 have bT : (⟨h, g, d, t, os⟩ : Shared).TypeIs (.builtin "object.__class__") "getset_descriptor" := F.typeOf_object_class
 repeat (any_goals (first | assumption | (with_reducible refine wpAny_loadPart_at hx ?_; rw [hc]) | with_reducible refine L.at ?_ | wp_step))
 refine eC X hx hc f5 ?_
 repeat (any_goals (first | assumption | wp_step))
theorem dR {tk : Tok} {Q : Value → Shared → Prop} (X : K.In h) (hx : h.get? x = some o) (hc : o.cls = .ref C) (f5 : subIn K (.ref C) (.type "object") = some true) (f6 : findIn K (.ref C) "__class__" = some (some (.builtin "object.__class__")))
  (f1 : findIn K (.ref C) "__getattribute__" = some (some (.builtin "BaseException.__getattribute__"))) (f2 : findIn K (.ref C) "__getattr__" = some none) (f4 : subIn K (.ref C) (.type "BaseException") = some true) (hq : Q (.ref C) ⟨h, g, d, t, os⟩) :
  wpAny (model prog w) A (getAttrBy (.ref x) (.str "__class__" tk) false) Q E ⟨h, g, d, t, os⟩ := by
 have L1 := looks_findIn (M := model prog w) X f1
 have L2 := looks_findIn (M := model prog w) X f2
 have b3 := PySem.F.attr_ValueError.ga.bind (.ref x)
 have y2 : (Value.builtin "BaseException.__getattribute__" == Value.builtin "object.__getattribute__") = false := by decide +kernel
 have y1 : (onTheHeap (Value.ref C) && Value.builtin "BaseException.__getattribute__" == Value.builtin "object.__getattribute__") = false := by rw [y2]; rfl
 repeat (any_goals (first | assumption | (with_reducible refine wpAny_loadPart_at hx ?_; rw [hc]) | with_reducible refine L1.at ?_ | with_reducible refine L2.at ?_ | wp_step))
 refine codeAny_call_builtin PySem.F.attr_ValueError.ga.plain F.entry_bexc_ga (Z9 X f4 hx hc (dj X hx hc f5 f6 ?_))
 repeat (any_goals (first | assumption | wp_step))
theorem eD {Q : Option Value → Shared → Prop} (X : K.In h) (hx : h.get? x = some o) (hc : o.cls = .ref C) (f5 : subIn K (.ref C) (.type "object") = some true) (f6 : findIn K (.ref C) "__class__" = some (some (.builtin "object.__class__")))
  (f1 : findIn K (.ref C) "__getattribute__" = some (some (.builtin "BaseException.__getattribute__"))) (f2 : findIn K (.ref C) "__getattr__" = some none) (f4 : subIn K (.ref C) (.type "BaseException") = some true) (hq : Q (some (.ref C)) ⟨h, g, d, t + 1, os⟩) :
  wpAny (model prog w) A (getAttr? (.ref x) "__class__") Q E ⟨h, g, d, t, os⟩ := by
 unfold getAttr? getAttrBy?
 repeat (any_goals (first | assumption | with_reducible apply dR X hx hc f5 f6 f1 f2 f4 | wp_step))
structure XC (K : PySem.W.Frag) (C : Addr) : Prop where
 f0 : hasDictIn K C = true
 f1 : findIn K (.ref C) "__getattribute__" = some (some (.builtin "BaseException.__getattribute__"))
 f2 : findIn K (.ref C) "__getattr__" = some none
 f4 : subIn K (.ref C) (.type "BaseException") = some true
 f5 : subIn K (.ref C) (.type "object") = some true
 f6 : findIn K (.ref C) "__class__" = some (some (.builtin "object.__class__"))
theorem XC.look (c : XC K C) : ∃ oc od cd sl, K.lookup C = some ⟨oc, od, .cls cd, sl⟩ ∧ cd.hasDict = true := by
 obtain ⟨cd, e, q⟩ := any_some c.f0
 unfold clsIn at e
 split at e
 ·rename_i oc od cd' sl z
  cases e
  exact ⟨oc, od, _, sl, z, q⟩
 ·cases e
theorem XC.kit (c : XC K C) : KitX K (.ref x) (.ref C) (fun h => ∃ o, h.get? x = some o ∧ o.cls = .ref C) where
 ty := fun M h _ hQ__ => by
  obtain ⟨o, e, q⟩ := hQ__
  intro A' Q' E' s' k z
  unfold typeOf
  refine wpAny_bind (wpAny_loadPart (k _ _ e) (wpAny_pure ?_))
  rw [q]
  exact z
 it := fun M h X _ => by
  obtain ⟨oc, od, cd, sl, e, _⟩ := c.look
  intro A' Q' E' s' k z
  unfold isType loadHead
  exact wpAny_bind (wpAny_loadPart (k _ _ (X _ _ e)) (wpAny_pure z))
 ne := fun h tp dd its n sl X e => by
  obtain ⟨oc, od, cd, sl', q, _⟩ := c.look
  refine Bool.eq_false_iff.mpr fun z => ?_
  have r : C = tp := Value.ref.inj (beq_iff_eq.mp z)
  rw [← r, X _ _ q] at e
  cases e
 ca := fun {_ _ _ _ _ s} X p k => by
  obtain ⟨h, g, d, t, os⟩ := s
  obtain ⟨o, e, q⟩ := p
  exact eD X e q c.f5 c.f6 c.f1 c.f2 c.f4 k
end
noncomputable abbrev m7 : String := "ValueError.__new__"
noncomputable abbrev bxF := PySem.F.excBase_ValueError
section
variable {M : Model} {prog : Program} {w : World} {A : Around} {E : Value → Shared → Prop} {h : Heap} {g : Array GenState} {d : Drawn} {t : Nat} {os : OsState} {K : PySem.W.Frag} {C N fI : Addr} {rest : List Value}
variable {nm q : Str} {bs bm : List Value} {hdct : Bool} {sn : List Str} {sub : List Value} {ab : Bool} {col : Option Bool} {dd : Option Addr} {k0 k1 k2 k3 k5 : Option Value}
theorem Y7 {Q : Unit → Shared → Prop} (hC : h.get? C = some (excClassObj nm q C N bs bm hdct sn sub ab col dd k0 k1 k2 k3 k5 m7)) (b1 : (Value.ref C :: bm).contains (.type "ValueError") = true) (z : Q () ⟨h, g, d, t, os⟩) :
  wpAny M A (checkBuiltinCall m7 ⟨.ref C :: rest, []⟩) Q E ⟨h, g, d, t, os⟩ := by
 have st := bxF.noStar
 simp only [checkBuiltinCall, bxF.newKind, bxF.newSplit, bxF.newRow]
 repeat (first | refine wpAny_staticBase_exc hC ?_ | refine wpAny_madeBy_exc hC ?_ | (refine wpAny_isSubtype_exc hC ?_; rw [b1]) | refine wpAny_loadPart_at hC ?_ | simp only [bne_self_eq_false, Bool.false_eq_true, if_false] | wp_step)
 exact z
theorem aP {R : Result → Shared → Prop} (hC : h.get? C = some (excClassObj nm q C N bs bm hdct sn sub ab col dd k0 k1 k2 k3 k5 m7)) (b1 : (Value.ref C :: bm).contains (.type "ValueError") = true) (b2 : (Value.ref C :: bm).contains (.type "AttributeError") = false)
  (b3 : (Value.ref C :: bm).contains (.type "NameError") = false) (hr : rest.length ≤ sizeLine)
  (z : R (.ok (.ret (.ref (h.objs.size + 1)))) ⟨(h.push { cls := .type "tuple", data := .seq rest.toArray }).push { cls := .ref C, data := .fields #[.ref h.objs.size, .none, .none, .none, .bool false, .none] }, g, d, t, os⟩) :
  codeAny (model prog w) A (.builtin m7 ⟨.ref C :: rest, []⟩) R ⟨h, g, d, t, os⟩ := by
 have he := bxF.ends
 refine codeAny_builtinAt bxF.entry ?_
 unfold Builtin.«BaseException.__new__»
 refine wpAt_bind ?_
 show wpAt _ _ _ (stack >>= _) _ _ _
 refine wpAt_bind (wpAt_stack fun p below => wpAt_of_wpAny ?_)
 wp_walk
 refine wpAt_of_wpAny ?_
 rw [bxF.owner]
 repeat (first | (with_reducible refine wpAny_isSubtype_exc hC ?_; first | rw [b1] | rw [b2] | rw [b3]) | with_reducible refine wpAny_madeHere_exc bxF.canon hC ?_ | with_reducible refine wpAny_loadPart_at hC ?_ | wp_step)
 show R _ _
 rw [Heap.size_push]
 exact z
theorem gb {oI : Obj} {Q : Fin → Shared → Prop} (X : K.In h) (lk : K.lookup C = some (excClassObj nm q C N bs bm hdct sn sub ab col dd k0 k1 k2 k3 k5 m7)) (b1 : (Value.ref C :: bm).contains (.type "ValueError") = true) (b2 : (Value.ref C :: bm).contains (.type "AttributeError") = false)
  (b3 : (Value.ref C :: bm).contains (.type "NameError") = false) (hi : findIn K (.ref C) "__init__" = some (some (.ref fI))) (lI : K.lookup fI = some oI) (cI : oI.cls = .type "function") (hr : rest.length ≤ sizeLine)
  (z : ∀ h' e, Heap.MadeExcOf h h' e (.ref C) rest → h.objs.size ≤ e → wpAny (model prog w) A (call (.ref fI) (.ref e :: rest)) (fun r s' => r = .none ∧ Q (.done (.ret (.ref e))) s') E ⟨h', g, d, t, os⟩) :
  wpAny (model prog w) A (Builtin.«type.__call__» ⟨.ref C :: rest, []⟩) Q E ⟨h, g, d, t, os⟩ := by
 have hC := X _ _ lk
 repeat (first | with_reducible refine wpAny_madeBy_exc hC ?_ | with_reducible refine wpAny_loadPart_at hC ?_ | wp_step)
 refine codeAny_call_builtin_code (Code.quiet_builtin _ bxF.quiet) (Y7 hC b1 ?_)
 refine aP hC b1 b2 b3 hr ?_
 generalize eh : (h.push { cls := .type "tuple", data := .seq rest.toArray }).push { cls := .ref C, data := .fields #[.ref h.objs.size, .none, .none, .none, .bool false, .none] } = h1
 have kp : ∀ b o, h.get? b = some o → h1.get? b = some o := fun b o e => by rw [← eh]; exact Heap.get?_push_of_some _ (Heap.get?_push_of_some _ e)
 have X1 : K.In h1 := X.keeps kp
 have hC1 := X1 _ _ lk
 have ge : h1.get? (h.objs.size + 1) = some { cls := .ref C, data := .fields #[.ref h.objs.size, .none, .none, .none, .bool false, .none] } := by rw [← eh]; heap_get
 have gt : h1.get? h.objs.size = some { cls := .type "tuple", data := .seq rest.toArray } := by rw [← eh]; exact Heap.get?_push_of_some _ (Heap.get?_push_at rfl rfl)
 have bC : (Value.ref C :: bm).contains (.ref C) = true := by simp
 have L := looks_findIn (M := model prog w) X1 hi
 show wpAny _ _ _ _ _ _
 unfold isInstance
 repeat (first | with_reducible refine L.at ?_ | with_reducible refine wpAny_loadPart_at ge ?_ | (with_reducible refine wpAny_isSubtype_exc hC1 ?_; rw [bC]) | wp_step)
 unfold bindSpecial
 refine wpAny_bind (wpAny_typeOf (T := "function") ⟨_, X1 _ _ lI, cI⟩ ?_)
 rw [if_pos (by decide)]
 refine wpAny_pure (wpAny_bind (wpAny_mono (z h1 _ ⟨kp, Heap.get?_none_of_le (Nat.le_succ _), h.objs.size, ge, Heap.get?_none_of_le (Nat.le_refl _), gt⟩ (Nat.le_succ _)) (fun r s' hz => ?_) fun _ _ y => y))
 obtain ⟨rfl, hz⟩ := hz
 wp_walk
 exact hz
theorem gJ {oI : Obj} {Q : Value → Shared → Prop} (X : K.In h) (lk : K.lookup C = some (excClassObj nm q C N bs bm hdct sn sub ab col dd k0 k1 k2 k3 k5 m7)) (b1 : (Value.ref C :: bm).contains (.type "ValueError") = true) (b2 : (Value.ref C :: bm).contains (.type "AttributeError") = false)
  (b3 : (Value.ref C :: bm).contains (.type "NameError") = false) (hi : findIn K (.ref C) "__init__" = some (some (.ref fI))) (lI : K.lookup fI = some oI) (cI : oI.cls = .type "function") (hr : rest.length ≤ sizeLine)
  (z : ∀ h' e, Heap.MadeExcOf h h' e (.ref C) rest → h.objs.size ≤ e → wpAny (model prog w) (A.under (.builtin "type.__call__" ⟨.ref C :: rest, []⟩)) (call (.ref fI) (.ref e :: rest)) (fun r s' => r = .none ∧ Q (.ref e) s') E ⟨h', g, d, t, os⟩) :
  wpAny (model prog w) A (call (.ref C) rest) Q E ⟨h, g, d, t, os⟩ := by
 have hC := X _ _ lk
 have y1 := tc_lookup
 have y2 := tc_bind (.ref C)
 have yT : (⟨h, g, d, t, os⟩ : Shared).TypeIs (.ref C) "type" := ⟨_, hC, rfl⟩
 refine wpAny_call (codeAny_of_tree ?_)
 show wpAny _ _ (callAny (.ref C) _) _ _ _
 repeat (any_goals (first | with_reducible refine wpAny_loadPart_at hC ?_ | assumption | wp_step))
 refine ⟨rfl, codeAny_call_builtin_at (Code.quiet_builtin _ (by decide +kernel)) entry_typeCall (wpAny_check_type_call_sub hC (gb X lk b1 b2 b3 hi lI cI hr fun h' e m n => ?_))⟩
 exact z h' e m n
end
noncomputable def u2 : List Value := [.type "ValueError", .type "Exception", .type "BaseException", .type "object"]
theorem cY (self : Value) : refuseLoop self "__setattr__" u2 = pure () := by kernel_rfl
section
variable {prog : Program} {w : World} {A : Around} {E : Value → Shared → Prop} {h : Heap} {g : Array GenState} {d : Drawn} {t : Nat} {os : OsState} {K : PySem.W.Frag} {x C W : Addr} {o : Obj} {vs : Array Value} {mA : Str → Option Value} {name : Str} {v : Value} {cd : ClassData}
theorem eV {tk : Tok} {ns : List Str} {Q : Fin → Shared → Prop} (X : K.In h) (hc : clsIn K C = some cd) (hm : cd.mro = .ref C :: .ref W :: u2) (hk : cd.hasDict = true) (f3 : findIn K (.ref C) name = some none) (I : h.Inst x C mA)
  (hq : ∀ h' tk', h'.Inst x C (fun y => if y = name then some v else mA y) →
   (∀ b u, b ≠ x → (∀ o0 dx, h.get? x = some o0 → o0.dict = some dx → b ≠ dx) → h.get? b = some u → h'.get? b = some u) →
   (∀ o0, h.get? x = some o0 → ∃ o1, h'.get? x = some o1 ∧ o1.cls = o0.cls ∧ o1.data = o0.data ∧ o1.slots = o0.slots ∧ (∀ dx, o0.dict = some dx → o1.dict = some dx) ∧ (o0.dict = none → ∃ dx, o1.dict = some dx ∧ h.objs.size ≤ dx)) → Q (.done (.ret .none)) ⟨h', g, d, tk', os⟩)
  (hw : Within mA ns) (hz : ns.length ≤ 1000) :
  wpAny (model prog w) A (Builtin.«object.__setattr__» ⟨[.ref x, .str name tk, v], []⟩) Q E ⟨h, g, d, t, os⟩ := by
 obtain ⟨o, hx, hcl, hnc, hd⟩ := I
 have L1 := looks_findIn (M := model prog w) X f3
 have L2 := looks_clsIn (M := model prog w) X hc
 have L3 : Looks (model prog w) h (mroOf (.ref C)) cd.mro := L2.andThen .now
 have lx : Looks (model prog w) h (typeOf (.ref x)) (.ref C) := by
  intro A' Q' E' s' k z
  unfold typeOf
  refine wpAny_bind (wpAny_loadPart (k _ _ hx) (wpAny_pure ?_))
  rw [hcl]
  exact z
 have rf : refuseLoop (.ref x) "__setattr__" cd.mro = pure () := by rw [hm, refuseLoop_ref, refuseLoop_ref]; exact cY _
 rw [osa_eq, refuse_eq]
 refine wpAny_bind (wpAny_bind (lx.at (wpAny_bind (L3.at ?_))))
 rw [rf]
 refine wpAny_pure (wpAny_bind (lx.at (wpAny_bind (L1.at (wpAny_bind (wpAny_pure ?_))))))
 show wpAny _ _ (storeInOwnDict (.ref x) (.ref C) (.str name tk) name v false) _ _ _
 unfold storeInOwnDict
 repeat (first | (with_reducible refine wpAny_loadPart_at hx ?_; rw [hcl]) | with_reducible refine L2.at ?_ | wp_step)
 rcases hd with ⟨dn, mn⟩ | ⟨dx, de, ne, nd⟩
 ·rw [dn, if_neg (by simp [typeHasDict])]
  split
  ·rename_i z
   cases z
  split
  ·rename_i z
   exact absurd z (hnc _)
  ·have nx : x ≠ h.objs.size := Nat.ne_of_lt (Heap.lt_size hx)
   have gx : (h.push { cls := .type "dict", data := .dict #[] }).get? x = some o := Heap.get?_push_of_some _ hx
   refine wpAny_bind (wpAny_alloc' (wpAny_bind (wpAny_update' gx (wpAny_pure ?_))))
   generalize eh : ((h.push { cls := .type "dict", data := .dict #[] }).update x fun o => { cls := o.cls, dict := some h.objs.size, data := o.data, slots := o.slots }) = h1
   have g1 : h1.get? h.objs.size = some { cls := .type "dict", data := .dict #[] } := by rw [← eh]; exact (Heap.get?_update_ne _ _ _ _ nx.symm).trans (Heap.get?_push_at rfl rfl)
   have gx1 : h1.get? x = some { cls := o.cls, dict := some h.objs.size, data := o.data, slots := o.slots } := by
    rw [← eh]
    refine Heap.get?_update_self _ gx ?_
    have fr := (Heap.get?_some_iff.mp hx).2
    obtain ⟨oc, od, dt, sl⟩ := o
    cases dt <;> first | rfl | exact fr
   have gk : ∀ b u, b ≠ x → h.get? b = some u → h1.get? b = some u := fun b u nb e => by rw [← eh]; exact (Heap.get?_update_ne _ _ _ _ nb).trans (Heap.get?_push_of_some _ e)
   have n1 : h1.Ns h.objs.size (fun _ => none) := ⟨_, #[], _, g1, rfl, fun e he => absurd he (by simp), fun _ => rfl⟩
   show wpAny _ _ (storeInDict h.objs.size (.str name tk) name v) _ _ _
   unfold storeInDict newKeyGuard
   refine wpAny_bind (wpAny_pure (wpAny_bind (wpAny_nsSet1 (Heap.Ns1.of_empty n1) fun h' n' hs => ?_)))
   obtain ⟨oD, es, ep, go, gd, gc⟩ := n'.count (Within.cons name v Within.nil)
   refine wpAny_bind (wpAny_lookBehind go (by rw [gd]; exact pastItsLine_dict (Nat.le_trans gc (by rw [List.length_cons, List.length_nil, sizeLine_eq]; omega))) ?_)
   wp_walk
   have gx' := (hs.2 x nx).trans gx1
   refine hq h' _ ⟨_, gx', hcl, hnc, .inr ⟨h.objs.size, rfl, nx.symm, ?_⟩⟩ (fun b u nb _ e => (hs.2 b (Nat.ne_of_lt (Heap.lt_size e))).trans (gk b u nb e)) fun o0 e0 => ?_
   ·obtain ⟨o', es', ep', e1, e2, e3, e4, e5⟩ := n'
    exact ⟨o', es', ep', e1, e2, e3, e4, fun y => by rw [e5 y]; by_cases hy : y = name <;> simp [hy, mn]⟩
   ·obtain rfl : o = o0 := Option.some.inj (hx.symm.trans e0)
    exact ⟨_, gx', rfl, rfl, rfl, (fun dx e => by rw [dn] at e; cases e), fun _ => ⟨_, rfl, Nat.le_refl _⟩⟩
 ·rw [de]
  refine wpAny_pure ?_
  show wpAny _ _ (storeInDict dx (.str name tk) name v) _ _ _
  unfold storeInDict newKeyGuard
  refine wpAny_bind (wpAny_pure (wpAny_bind (wpAny_nsSet1 nd fun h' n' hs => ?_)))
  obtain ⟨oD, es, ep, go, gd, gc⟩ := n'.count (Within.cons name v hw)
  refine wpAny_bind (wpAny_lookBehind go (by rw [gd]; exact pastItsLine_dict (Nat.le_trans gc (by rw [List.length_cons, sizeLine_eq]; omega))) ?_)
  wp_walk
  exact hq h' _ ⟨o, (hs.2 x ne.symm).trans hx, hcl, hnc, .inr ⟨dx, de, ne, n'⟩⟩ (fun b u _ nb e => (hs.2 b (nb o dx hx de)).trans e) fun o0 e0 => ⟨o0, (hs.2 x ne.symm).trans e0, rfl, rfl, rfl, (fun _ e => e), fun z => by rw [hx] at e0; cases e0; rw [de] at z; cases z⟩
theorem P7 {ns : List Str} {Q : Unit → Shared → Prop} (X : K.In h) (hc : clsIn K C = some cd) (hm : cd.mro = .ref C :: .ref W :: u2) (hk : cd.hasDict = true) (f3 : findIn K (.ref C) name = some none)
  (f7 : findIn K (.ref C) "__setattr__" = some (some (.builtin "object.__setattr__"))) (I : h.Inst x C mA)
  (hq : ∀ h' tk', h'.Inst x C (fun y => if y = name then some v else mA y) →
   (∀ b u, b ≠ x → (∀ o0 dx, h.get? x = some o0 → o0.dict = some dx → b ≠ dx) → h.get? b = some u → h'.get? b = some u) →
   (∀ o0, h.get? x = some o0 → ∃ o1, h'.get? x = some o1 ∧ o1.cls = o0.cls ∧ o1.data = o0.data ∧ o1.slots = o0.slots ∧ (∀ dx, o0.dict = some dx → o1.dict = some dx) ∧ (o0.dict = none → ∃ dx, o1.dict = some dx ∧ h.objs.size ≤ dx)) → Q () ⟨h', g, d, tk', os⟩)
  (hw : Within mA ns) (hz : ns.length ≤ 1000) : wpAny (model prog w) A (setAttr (.ref x) name v) Q E ⟨h, g, d, t, os⟩ := by
 obtain ⟨o, hx, hcl, hnc, hd⟩ := id I
 have lx : Looks (model prog w) h (typeOf (.ref x)) (.ref C) := by
  intro A' Q' E' s' k z
  unfold typeOf
  refine wpAny_bind (wpAny_loadPart (k _ _ hx) (wpAny_pure ?_))
  rw [hcl]
  exact z
 have L7 := looks_findIn (M := model prog w) X f7
 have SF := PySem.F.store_object
 refine wpAny_bind (wpAny_mkText (wpAny_bind (wpAny_bind (wpAny_bind (lx.at (L7.at (wpAny_holding ?_)))))))
 rw [SF.slot.bind]
 have sub : Looks (model prog w) h (isInstance (.ref x) (.type "object")) true := lx.andThen (looks_mroIn X (by unfold mroIn; rw [hc, Option.bind_some, hm]; rfl))
 refine wpAny_bind (wpAny_pure (wpAny_bind (wpAny_call ?_)))
 refine codeAny_call_builtin SF.slot.plain SF.entry (@check_slot (model prog w) _ _ ⟨h, g, d, t + 1, os⟩ "object.__setattr__" "object" "__setattr__" (.ref x) [.str name t, v] [] _ SF.kind SF.split sub (SF.args (.ref x) (.str name t) v) ?_)
 refine eV X hc hm hk f3 I (fun h' tk' I' k1 k2 => ?_) hw hz
 exact wpAny_pure (wpAny_pure (hq h' tk' I' k1 k2))
end
end L2
namespace L2
open PySem PySem.W PySem.Spec PySem.Builtin PySem.Builtin.ObjectAttr PyProof.Rows
structure XK1 (K : PySem.W.Frag) (C W : Addr) : Prop where
 xc : XC K C
 ob : ∃ nm q N bs hdct sn sub ab col dd k0 k1 k2 k3 k5, K.lookup C = some (excClassObj nm q C N bs (.ref W :: u2) hdct sn sub ab col dd k0 k1 k2 k3 k5 m7)
 sa : findIn K (.ref C) "__setattr__" = some (some (.builtin "object.__setattr__"))
theorem XK1.cls {K : PySem.W.Frag} {C W : Addr} (c : XK1 K C W) : ∃ cd, clsIn K C = some cd ∧ cd.mro = .ref C :: .ref W :: u2 ∧ cd.hasDict = true := by
 obtain ⟨nm, q, N, bs, hdct, sn, sub, ab, col, dd, k0, k1, k2, k3, k5, e⟩ := c.ob
 obtain ⟨oc, od, cd, sl, e2, hd⟩ := c.xc.look
 rw [e] at e2
 cases e2
 exact ⟨_, by unfold clsIn; rw [e], rfl, hd⟩
section
variable {P : Program} {w : World} {A : Around} {s : Shared} {K : PySem.W.Frag} {e C W fI : Addr} {u0 u1 : Value} {R : Result → Shared → Prop}
variable {name qual : Str} {params : Arguments} {body : List Stmt} {scope : Scope} {kV doc pm cdv ct oc : Value} {an od : Option Addr} {osl : Array (Option Value)}
theorem aU {ps : List Str} {us : List Value} (hr : A.depth < recursionLimit) (X : K.In s.heap) (lim : s.heap.NoLimit) (lk : K.lookup fI = some ⟨oc, od, .func (PySem.W.fnOf name qual params body scope .none kV doc pm an cdv ct), osl⟩)
  (hcd : PySem.W.codeIn K cdv qual = true) (k1 : scope.kind = .function) (k2 : scope.isCoroutine = false) (k3 : scope.isGenerator = false) (hp : ∀ x ∈ ps, scope.names.lookup x = some .local)
  (hb : bindArgs (PySem.W.fnOf name qual params body scope .none kV doc pm an cdv ct) ⟨us, []⟩ = pure (ps.zip us))
  (z : ∀ h' tk, (∀ b o, s.heap.get? b = some o → h'.get? b = some o) → h'.Ns s.heap.objs.size (bindL (envOfC qual scope s.heap.objs.size fI cdv).kindOf (ps.zip us) fun _ => none) →
   wpAny (model P w) (A.deeper (envOfC qual scope s.heap.objs.size fI cdv)) (execs body (envOfC qual scope s.heap.objs.size fI cdv)) (fun fl s' => match fl with | .ret v => R (.ok (.ret v)) s' | .next => R (.ok (.ret .none)) s' | _ => False)
    (fun _ _ => False) { s with heap := h', toks := tk }) :
  codeAny (model P w) A (.call (.ref fI) ⟨us, []⟩) R s := by
 refine codeAny_call_function hr (X _ _ lk) rfl k2 k3 rfl (PySem.W.codeRec_of X hcd) (wpAny_of_eq hb ?_)
 refine wpAny_newFunctionEnv_cells k1 (fun y hy => .inl (hp y.1 (List.of_mem_zip (a := y.1) (b := y.2) hy).1)) fun env he s1 x => ?_
 subst he
 obtain ⟨h1, tk, rfl, hk⟩ := x.done
 refine ⟨lim.keeps hk, codeAny_func ?_⟩
 refine wpAny_mono (z h1 tk hk x.toInCall.ns) (fun fl s' q => ?_) fun _ _ q => q.elim
 cases fl <;> first | exact q | exact q.elim
structure Mdx (K : PySem.W.Frag) (h h' : Heap) (e dx C : Addr) (vs : Array Value) (mA : Str → Option Value) : Prop where
 kp : ∀ b u, b ≠ e → h.get? b = some u → h'.get? b = some u
 at_ : ∃ o, h'.get? e = some o ∧ o.cls = .ref C ∧ o.data = .fields vs ∧ o.dict = some dx
 ne : dx ≠ e
 nw : h.objs.size ≤ dx
 ns : h'.Ns1 dx mA
theorem n9 {qual : Str} {scope : Scope} {L f : Addr} {cdv : Value} {x : Str} (h : scope.names.lookup x = some .local) : (envOfC qual scope L f cdv).kindOf x = some .local := h
theorem cb {vs : Array Value} {p1 p2 p3 p4 : Pos} (c : XK1 K C W) (hw : findIn K (.ref C) "word" = some none) (hr : A.depth < recursionLimit) (X : K.In s.heap) (lim : s.heap.NoLimit)
  (lk : K.lookup fI = some ⟨oc, od, .func (PySem.W.fnOf name qual params [.Assign [.Attribute (.Name "self" p1) "word" p2] (.Name "word" p3) p4] scope .none kV doc pm an cdv ct), osl⟩) (hcd : PySem.W.codeIn K cdv qual = true)
  (k1 : scope.kind = .function) (k2 : scope.isCoroutine = false) (k3 : scope.isGenerator = false) (hp : ∀ x ∈ (["self", "word"] : List Str), scope.names.lookup x = some .local)
  (hb : bindArgs (PySem.W.fnOf name qual params [.Assign [.Attribute (.Name "self" p1) "word" p2] (.Name "word" p3) p4] scope .none kV doc pm an cdv ct) ⟨[.ref e, u0], []⟩ = pure ((["self", "word"] : List Str).zip [.ref e, u0]))
  (hx : s.heap.get? e = some { cls := .ref C, data := .fields vs }) (hK : K.lookup e = none)
  (z : ∀ h' tk dx, Mdx K s.heap h' e dx C vs (fun y => if y = "word" then some u0 else none) → R (.ok (.ret .none)) { s with heap := h', toks := tk }) :
  codeAny (model P w) A (.call (.ref fI) ⟨[.ref e, u0], []⟩) R s := by
 obtain ⟨cd, c1, c2, c3⟩ := c.cls
 have ks := hp "self" (by simp)
 have kw := hp "word" (by simp)
 refine aU hr X lim lk hcd k1 k2 k3 hp hb fun h1 tk hk hn => ?_
 have q1 : (bindL (envOfC qual scope s.heap.objs.size fI cdv).kindOf ((["self", "word"] : List Str).zip [Value.ref e, u0]) fun _ => none) "self" = some (.ref e) := B1 (i := 0) (by decide) rfl rfl (n9 ks)
 have q2 : (bindL (envOfC qual scope s.heap.objs.size fI cdv).kindOf ((["self", "word"] : List Str).zip [Value.ref e, u0]) fun _ => none) "word" = some u0 := B1 (i := 1) (by decide) rfl rfl (n9 kw)
 have I0 : h1.Inst e C (fun _ => none) := ⟨_, hk _ _ hx, rfl, (fun c z => by cases z), .inl ⟨rfl, fun _ => rfl⟩⟩
 refine wpAny_execs_cons (plainObj_wpAny_Assign_Attribute (wpAny_Name (wpAny_loadName_local k1 (n9 kw) hn q2 (wpAny_Name (wpAny_loadName_local k1 (n9 ks) hn q1 (P7 (X.keeps hk) c1 c2 c3 hw c.sa I0 (fun h2 tk2 I2 kp2 st2 => ?_) Within.nil (by decide))) (by decide))) (by decide)))
 refine wpAny_execs_nil ?_
 obtain ⟨o1, g1, g2, g3, _, _, g6⟩ := st2 _ (hk _ _ hx)
 obtain ⟨dx, g7, g8⟩ := g6 rfl
 obtain ⟨o2, r1, r2, r3, r4⟩ := I2
 rw [g1] at r1
 cases r1
 rcases r4 with ⟨r4, _⟩ | ⟨d2, r4, r5, r6⟩
 ·rw [g7] at r4; cases r4
 ·rw [g7] at r4
  cases r4
  refine z _ _ dx ⟨fun b u nb eb => kp2 b u nb (fun o0 d0 e0 f0 => ?_) (hk _ _ eb), ⟨_, g1, r2, g3, g7⟩, r5, ?_, r6⟩
  ·rw [hk _ _ hx] at e0; cases e0; cases f0
  ·exact Nat.le_trans (Nat.le_of_lt hn.lt) g8
theorem cQ {vs : Array Value} {p1 p2 p3 p4 p5 p6 p7 p8 : Pos} (c : XK1 K C W) (hw : findIn K (.ref C) "word" = some none) (ha : findIn K (.ref C) "at" = some none) (hr : A.depth < recursionLimit) (X : K.In s.heap) (lim : s.heap.NoLimit)
  (lk : K.lookup fI = some ⟨oc, od, .func (PySem.W.fnOf name qual params [.Assign [.Attribute (.Name "self" p1) "word" p2] (.Name "word" p3) p4, .Assign [.Attribute (.Name "self" p5) "at" p6] (.Name "at" p7) p8] scope .none kV doc pm an cdv ct), osl⟩) (hcd : PySem.W.codeIn K cdv qual = true)
  (k1 : scope.kind = .function) (k2 : scope.isCoroutine = false) (k3 : scope.isGenerator = false) (hp : ∀ x ∈ (["self", "word", "at"] : List Str), scope.names.lookup x = some .local)
  (hb : bindArgs (PySem.W.fnOf name qual params [.Assign [.Attribute (.Name "self" p1) "word" p2] (.Name "word" p3) p4, .Assign [.Attribute (.Name "self" p5) "at" p6] (.Name "at" p7) p8] scope .none kV doc pm an cdv ct) ⟨[.ref e, u0, u1], []⟩ = pure ((["self", "word", "at"] : List Str).zip [.ref e, u0, u1]))
  (hx : s.heap.get? e = some { cls := .ref C, data := .fields vs }) (hK : K.lookup e = none)
  (z : ∀ h' tk dx, Mdx K s.heap h' e dx C vs (fun y => if y = "at" then some u1 else if y = "word" then some u0 else none) → R (.ok (.ret .none)) { s with heap := h', toks := tk }) :
  codeAny (model P w) A (.call (.ref fI) ⟨[.ref e, u0, u1], []⟩) R s := by
 obtain ⟨cd, c1, c2, c3⟩ := c.cls
 have ks := hp "self" (by simp)
 have ka := hp "at" (by simp)
 have kw := hp "word" (by simp)
 refine aU hr X lim lk hcd k1 k2 k3 hp hb fun h1 tk hk hn => ?_
 have q1 : (bindL (envOfC qual scope s.heap.objs.size fI cdv).kindOf ((["self", "word", "at"] : List Str).zip [Value.ref e, u0, u1]) fun _ => none) "self" = some (.ref e) := B1 (i := 0) (by decide) rfl rfl (n9 ks)
 have q2 : (bindL (envOfC qual scope s.heap.objs.size fI cdv).kindOf ((["self", "word", "at"] : List Str).zip [Value.ref e, u0, u1]) fun _ => none) "word" = some u0 := B1 (i := 1) (by decide) rfl rfl (n9 kw)
 have q3 : (bindL (envOfC qual scope s.heap.objs.size fI cdv).kindOf ((["self", "word", "at"] : List Str).zip [Value.ref e, u0, u1]) fun _ => none) "at" = some u1 := B1 (i := 2) (by decide) rfl rfl (n9 ka)
 have I0 : h1.Inst e C (fun _ => none) := ⟨_, hk _ _ hx, rfl, (fun c z => by cases z), .inl ⟨rfl, fun _ => rfl⟩⟩
 refine wpAny_execs_cons (plainObj_wpAny_Assign_Attribute (wpAny_Name (wpAny_loadName_local k1 (n9 kw) hn q2 (wpAny_Name (wpAny_loadName_local k1 (n9 ks) hn q1 (P7 (X.keeps hk) c1 c2 c3 hw c.sa I0 (fun h2 tk2 I2 kp2 st2 => ?_) Within.nil (by decide))) (by decide))) (by decide)))
 obtain ⟨o1, g1, g2, g3, _, _, g6⟩ := st2 _ (hk _ _ hx)
 obtain ⟨dx, g7, g8⟩ := g6 rfl
 have nL : s.heap.objs.size ≠ e := fun z => by have := Heap.lt_size hx; rw [← z] at this; exact Nat.lt_irrefl _ this
 have k2' : ∀ b u, b ≠ e → h1.get? b = some u → h2.get? b = some u := fun b u nb eb => kp2 b u nb (fun o0 d0 e0 f0 => by rw [hk _ _ hx] at e0; cases e0; cases f0) eb
 have hn2 : h2.Ns s.heap.objs.size (bindL (envOfC qual scope s.heap.objs.size fI cdv).kindOf ((["self", "word", "at"] : List Str).zip [Value.ref e, u0, u1]) fun _ => none) := by
  obtain ⟨o, es, ep, e1, e2⟩ := hn
  exact ⟨o, es, ep, k2' _ _ nL e1, e2⟩
 have X2 : K.In h2 := fun b o eb => k2' b o (fun z => by rw [z, hK] at eb; cases eb) ((X.keeps hk) _ _ eb)
 refine wpAny_execs_cons (plainObj_wpAny_Assign_Attribute (wpAny_Name (wpAny_loadName_local k1 (n9 ka) hn2 q3 (wpAny_Name (wpAny_loadName_local k1 (n9 ks) hn2 q1 (P7 X2 c1 c2 c3 ha c.sa I2 (fun h3 tk3 I3 kp3 st3 => ?_) (Within.cons "word" u0 Within.nil) (by decide))) (by decide))) (by decide)))
 refine wpAny_execs_nil ?_
 obtain ⟨o3, y1, y2, y3, _, y5, _⟩ := st3 _ g1
 have y7 := y5 _ g7
 obtain ⟨o2, r1, r2, r3, r4⟩ := I3
 rw [y1] at r1
 cases r1
 rcases r4 with ⟨r4, _⟩ | ⟨d2, r4, r5, r6⟩
 ·rw [y7] at r4; cases r4
 ·rw [y7] at r4
  cases r4
  have nd : s.heap.objs.size ≤ dx := Nat.le_trans (Nat.le_of_lt hn.lt) g8
  refine z _ _ dx ⟨fun b u nb eb => kp3 b u nb (fun o0 d0 e0 f0 => ?_) (k2' b u nb (hk _ _ eb)), ⟨_, y1, r2, y3.trans g3, y7⟩, r5, nd, r6⟩
  rw [g1] at e0
  cases e0
  rw [g7] at f0
  cases f0
  rintro rfl
  exact absurd (Nat.lt_of_lt_of_le (Heap.lt_size eb) nd) (Nat.lt_irrefl _)
end
noncomputable def Z7 (p1 p2 p3 p4 : Pos) : List Stmt := [.Assign [.Attribute (.Name "self" p1) "word" p2] (.Name "word" p3) p4]
noncomputable def Y8 (p1 p2 p3 p4 p5 p6 p7 p8 : Pos) : List Stmt := [.Assign [.Attribute (.Name "self" p1) "word" p2] (.Name "word" p3) p4, .Assign [.Attribute (.Name "self" p5) "at" p6] (.Name "at" p7) p8]
structure XD (K : PySem.W.Frag) (C W fI : Addr) (ps : List Str) (body : List Stmt) : Prop where
 k1 : XK1 K C W
 hi : PySem.W.findIn K (.ref C) "__init__" = some (some (.ref fI))
 fn : ∃ (oc : Value) (od : Option Addr) (name qual : Str) (params : Arguments) (scope : Scope) (kV doc pm : Value) (an : Option Addr) (cdv ct : Value) (osl : Array (Option Value)),
  K.lookup fI = some ⟨oc, od, .func (PySem.W.fnOf name qual params body scope .none kV doc pm an cdv ct), osl⟩ ∧ oc = .type "function" ∧ PySem.W.codeIn K cdv qual = true ∧ scope.kind = .function ∧ scope.isCoroutine = false ∧ scope.isGenerator = false ∧
  (∀ x ∈ ("self" :: ps : List Str), scope.names.lookup x = some .local) ∧ ∀ us : List Value, us.length = ps.length + 1 → bindArgs (PySem.W.fnOf name qual params body scope .none kV doc pm an cdv ct) ⟨us, []⟩ = pure (("self" :: ps : List Str).zip us)
 no : ∀ x ∈ ps, PySem.W.findIn K (.ref C) x = some none
structure Mdn (h h' : Heap) (e dx C : Addr) (mA : Str → Option Value) : Prop where
 kp : ∀ b u, h.get? b = some u → h'.get? b = some u
 ne : dx ≠ e
 n1 : h.objs.size ≤ e
 n2 : h.objs.size ≤ dx
 at_ : ∃ o, h'.get? e = some o ∧ o.cls = .ref C ∧ (∃ t0, o.data = .fields #[.ref t0, .none, .none, .none, .bool false, .none]) ∧ o.dict = some dx
 ns : h'.Ns1 dx mA
theorem fu (C W : Addr) : (Value.ref C :: .ref W :: u2).contains (.type "ValueError") = true ∧ (Value.ref C :: .ref W :: u2).contains (.type "AttributeError") = false ∧ (Value.ref C :: .ref W :: u2).contains (.type "NameError") = false := ⟨rfl, rfl, rfl⟩
theorem aY {K : PySem.W.Frag} {h : Heap} {e : Addr} (X : K.In h) (n : h.objs.size ≤ e) : K.lookup e = none := by
 cases q : K.lookup e with
 | none => rfl
 | some o => exact absurd (Nat.lt_of_lt_of_le (Heap.lt_size (X _ _ q)) n) (Nat.lt_irrefl _)
theorem L8 {h : Heap} {b e : Addr} {u : Obj} (q : h.get? b = some u) (n : h.objs.size ≤ e) : b ≠ e := fun z => by rw [z] at q; exact absurd (Nat.lt_of_lt_of_le (Heap.lt_size q) n) (Nat.lt_irrefl _)
section
variable {P : Program} {w : World} {A : Around} {E : Value → Shared → Prop} {s : Shared} {K : PySem.W.Frag} {C W fI : Addr} {u0 u1 : Value} {Q : Value → Shared → Prop} {k : Nat}
theorem bo {ps : List Str} {body : List Stmt} {us : List Value} (c : XD K C W fI ps body) (hl : us.length ≤ sizeLine) (X : K.In s.heap)
  (z : ∀ h1 e, (∀ b u, s.heap.get? b = some u → h1.get? b = some u) → s.heap.objs.size ≤ e → s.heap.objs.size ≤ h1.objs.size → (∃ t0, h1.get? e = some { cls := .ref C, data := .fields #[.ref t0, .none, .none, .none, .bool false, .none] }) →
   wpAny (model P w) (A.under (.builtin "type.__call__" ⟨.ref C :: us, []⟩)) (call (.ref fI) (.ref e :: us)) (fun r s' => r = .none ∧ Q (.ref e) s') E { s with heap := h1 }) : wpAny (model P w) A (call (.ref C) us) Q E s := by
 obtain ⟨nm, q, N, bs, hdct, sn, sub, ab, col, dd, k0, k1, k2, k3, k5, lk⟩ := c.k1.ob
 obtain ⟨oc, od, name, qual, params, scope, kV, doc, pm, an, cdv, ct, osl, lf, rfl, _⟩ := c.fn
 obtain ⟨b1, b2, b3⟩ := fu C W
 obtain ⟨h, g, d, t, os⟩ := s
 refine gJ X lk b1 b2 b3 c.hi lf rfl hl fun h1 e m n => ?_
 obtain ⟨t0, e1, _⟩ := m.there
 exact z h1 e m.keeps n (Nat.le_of_lt (Nat.lt_of_le_of_lt n (Heap.lt_size e1))) ⟨t0, e1⟩
theorem mk1 {p1 p2 p3 p4 : Pos} (c : XD K C W fI ["word"] (Z7 p1 p2 p3 p4)) (hr : Room (k + 1) A) (X : K.In s.heap) (lim : s.heap.NoLimit)
  (z : ∀ h' tk e dx, Mdn s.heap h' e dx C (fun y => if y = "word" then some u0 else none) → Q (.ref e) { s with heap := h', toks := tk }) : wpAny (model P w) A (call (.ref C) [u0]) Q E s := by
 refine bo c (show 1 ≤ sizeLine by decide) X fun h1 e kp ne sz ⟨t0, hx⟩ => ?_
 obtain ⟨oc, od, name, qual, params, scope, kV, doc, pm, an, cdv, ct, osl, lf, _, f1, f2, f3, f4, f5, f6⟩ := c.fn
 refine wpAny_call (cb (s := { s with heap := h1 }) c.k1 (c.no _ (by simp)) (hr.make C _ _).depth (X.keeps kp) (lim.keeps kp) lf f1 f2 f3 f4 f5 (f6 _ rfl) hx ?_ fun h2 tk dx m => ?_)
 ·exact aY X ne
 ·exact ⟨rfl, z h2 tk e dx ⟨fun b u eb => m.kp b u (L8 eb ne) (kp b u eb), m.ne, ne, Nat.le_trans sz m.nw, let ⟨o, y1, y2, y3, y4⟩ := m.at_; ⟨o, y1, y2, ⟨t0, y3⟩, y4⟩, m.ns⟩⟩
theorem mk2 {p1 p2 p3 p4 p5 p6 p7 p8 : Pos} (c : XD K C W fI ["word", "at"] (Y8 p1 p2 p3 p4 p5 p6 p7 p8)) (hr : Room (k + 1) A) (X : K.In s.heap) (lim : s.heap.NoLimit)
  (z : ∀ h' tk e dx, Mdn s.heap h' e dx C (fun y => if y = "at" then some u1 else if y = "word" then some u0 else none) → Q (.ref e) { s with heap := h', toks := tk }) : wpAny (model P w) A (call (.ref C) [u0, u1]) Q E s := by
 refine bo c (show 2 ≤ sizeLine by decide) X fun h1 e kp ne sz ⟨t0, hx⟩ => ?_
 obtain ⟨oc, od, name, qual, params, scope, kV, doc, pm, an, cdv, ct, osl, lf, _, f1, f2, f3, f4, f5, f6⟩ := c.fn
 refine wpAny_call (cQ (s := { s with heap := h1 }) c.k1 (c.no _ (by simp)) (c.no _ (by simp)) (hr.make C _ _).depth (X.keeps kp) (lim.keeps kp) lf f1 f2 f3 f4 f5 (f6 _ rfl) hx ?_ fun h2 tk dx m => ?_)
 ·exact aY X ne
 ·exact ⟨rfl, z h2 tk e dx ⟨fun b u eb => m.kp b u (L8 eb ne) (kp b u eb), m.ne, ne, Nat.le_trans sz m.nw, let ⟨o, y1, y2, y3, y4⟩ := m.at_; ⟨o, y1, y2, ⟨t0, y3⟩, y4⟩, m.ns⟩⟩
end
noncomputable abbrev E5 : String := "ValueError.__init__"
section
variable {prog : Program} {w : World} {A : Around} {E : Value → Shared → Prop} {h : Heap} {g : Array GenState} {d : Drawn} {t : Nat} {os : OsState} {K : PySem.W.Frag} {C N : Addr} {rest : List Value}
variable {nm q : Str} {bs bm : List Value} {hdct : Bool} {sn : List Str} {sub : List Value} {ab : Bool} {col : Option Bool} {dd : Option Addr} {k0 k1 k2 k3 k5 : Option Value}
theorem iT {M : Model} {e : Addr} {oe : Obj} {Q : Unit → Shared → Prop} (hC : h.get? C = some (excClassObj nm q C N bs bm hdct sn sub ab col dd k0 k1 k2 k3 k5 m7)) (b1 : (Value.ref C :: bm).contains (.type "ValueError") = true) (he : h.get? e = some oe) (hc : oe.cls = .ref C) (z : Q () ⟨h, g, d, t, os⟩) :
  wpAny M A (checkBuiltinCall E5 ⟨.ref e :: rest, []⟩) Q E ⟨h, g, d, t, os⟩ := by
 have st := bxF.noStar
 simp only [checkBuiltinCall, bxF.initKind, bxF.initSplit, bxF.initRow]
 repeat (first | (with_reducible refine wpAny_isSubtype_exc hC ?_; rw [b1]) | (with_reducible refine wpAny_loadPart_at he ?_; rw [hc]) | with_reducible refine wpAny_loadPart_at hC ?_ | wp_step)
 refine wpAny_onRaise ?_
 rw [show ∀ (a b : String) (n : Nat), Bind.check ⟨.positional, "*", "ValueError", .self, [⟨"args", .varPos, false⟩]⟩ a b n (List.map (fun x => x.fst) ({ pos := Value.ref e :: rest } : Args).kw) = pure () from fun a b n => check_star_args _ _ _ _ _ _]
 exact wpAny_pure z
theorem eL {Q : Fin → Shared → Prop} (X : K.In h) (lk : K.lookup C = some (excClassObj nm q C N bs bm hdct sn sub ab col dd k0 k1 k2 k3 k5 m7)) (b1 : (Value.ref C :: bm).contains (.type "ValueError") = true) (b2 : (Value.ref C :: bm).contains (.type "AttributeError") = false)
  (b3 : (Value.ref C :: bm).contains (.type "NameError") = false) (hi : findIn K (.ref C) "__init__" = some (some (.builtin E5))) (hr : rest.length ≤ sizeLine)
  (z : ∀ h' e, (∀ b u, h.get? b = some u → h'.get? b = some u) → h.objs.size ≤ e → (∃ t0, h'.get? e = some { cls := .ref C, data := .fields #[.ref t0, .none, .none, .none, .bool false, .none] }) → Q (.done (.ret (.ref e))) ⟨h', g, d, t, os⟩) :
  wpAny (model prog w) A (Builtin.«type.__call__» ⟨.ref C :: rest, []⟩) Q E ⟨h, g, d, t, os⟩ := by
 have hC := X _ _ lk
 repeat (first | with_reducible refine wpAny_madeBy_exc hC ?_ | with_reducible refine wpAny_loadPart_at hC ?_ | wp_step)
 refine codeAny_call_builtin_code (Code.quiet_builtin _ bxF.quiet) (Y7 hC b1 ?_)
 refine aP hC b1 b2 b3 hr ?_
 generalize eh : (h.push { cls := .type "tuple", data := .seq rest.toArray }).push { cls := .ref C, data := .fields #[.ref h.objs.size, .none, .none, .none, .bool false, .none] } = h1
 have kp : ∀ b o, h.get? b = some o → h1.get? b = some o := fun b o e => by rw [← eh]; exact Heap.get?_push_of_some _ (Heap.get?_push_of_some _ e)
 have X1 : K.In h1 := X.keeps kp
 have hC1 := X1 _ _ lk
 have ge : h1.get? (h.objs.size + 1) = some { cls := .ref C, data := .fields #[.ref h.objs.size, .none, .none, .none, .bool false, .none] } := by rw [← eh]; heap_get
 have bC : (Value.ref C :: bm).contains (.ref C) = true := by simp
 have L := looks_findIn (M := model prog w) X1 hi
 show wpAny _ _ _ _ _ _
 unfold isInstance
 repeat (first | with_reducible refine L.at ?_ | with_reducible refine wpAny_loadPart_at ge ?_ | (with_reducible refine wpAny_isSubtype_exc hC1 ?_; rw [bC]) | wp_step)
 refine wpAny_of_eq (bxF.init.bind _) ?_
 refine wpAny_bind (wpAny_call (codeAny_call_builtin bxF.init.plain bxF.initEntry (iT hC1 b1 ge rfl ?_)))
 wp_walk
 refine z _ _ (fun b o hb => ?_) (Nat.le_succ _) ⟨h1.objs.size, ?_⟩
 ·rw [Heap.get?_update_other _ _ (Nat.ne_of_gt (Nat.lt_succ_of_lt (Heap.lt_size hb)))]
  exact Heap.get?_push_of_some _ (kp _ _ hb)
 ·rw [Heap.get?_update_self _ (Heap.get?_push_of_some _ ge) rfl]
  rfl
theorem ip {Q : Value → Shared → Prop} (X : K.In h) (lk : K.lookup C = some (excClassObj nm q C N bs bm hdct sn sub ab col dd k0 k1 k2 k3 k5 m7)) (b1 : (Value.ref C :: bm).contains (.type "ValueError") = true) (b2 : (Value.ref C :: bm).contains (.type "AttributeError") = false)
  (b3 : (Value.ref C :: bm).contains (.type "NameError") = false) (hi : findIn K (.ref C) "__init__" = some (some (.builtin E5))) (hr : rest.length ≤ sizeLine)
  (z : ∀ h' e, (∀ b u, h.get? b = some u → h'.get? b = some u) → h.objs.size ≤ e → (∃ t0, h'.get? e = some { cls := .ref C, data := .fields #[.ref t0, .none, .none, .none, .bool false, .none] }) → Q (.ref e) ⟨h', g, d, t, os⟩) :
  wpAny (model prog w) A (call (.ref C) rest) Q E ⟨h, g, d, t, os⟩ := by
 have hC := X _ _ lk
 have y1 := tc_lookup
 have y2 := tc_bind (.ref C)
 have yT : (⟨h, g, d, t, os⟩ : Shared).TypeIs (.ref C) "type" := ⟨_, hC, rfl⟩
 refine wpAny_call (codeAny_of_tree ?_)
 show wpAny _ _ (callAny (.ref C) _) _ _ _
 repeat (any_goals (first | with_reducible refine wpAny_loadPart_at hC ?_ | assumption | wp_step))
 refine ⟨rfl, codeAny_call_builtin_at (Code.quiet_builtin _ (by decide +kernel)) entry_typeCall (wpAny_check_type_call_sub hC (eL X lk b1 b2 b3 hi hr fun h' e m n r => ?_))⟩
 exact z h' e m n r
end
end L2
namespace DL
open PySem PySem.Spec L2
structure Rf1 (K : PySem.W.Frag) (mg : Str → Option Value) (c : Str) : Prop where
 ex : ∃ C W fI p1 p2 p3 p4, mg c = some (.ref C) ∧ PySem.W.nsIn K mainGlobals c = some (some (.ref C)) ∧ PySem.W.keepIn K (.ref C) = true ∧ XD K C W fI ["word"] (Z7 p1 p2 p3 p4)
structure Rf2 (K : PySem.W.Frag) (mg : Str → Option Value) (c : Str) : Prop where
 ex : ∃ C W fI p1 p2 p3 p4 p5 p6 p7 p8, mg c = some (.ref C) ∧ PySem.W.nsIn K mainGlobals c = some (some (.ref C)) ∧ PySem.W.keepIn K (.ref C) = true ∧ XD K C W fI ["word", "at"] (Y8 p1 p2 p3 p4 p5 p6 p7 p8)
noncomputable def n0 (c : Str) (t : DA) : DE := fun s => (t s).map fun x => (.exc c x.1, x.2)
section
variable {X : Cx} {pins : List (Addr × Obj)} {σ : L2.St} {H : Hp} {s : Shared} {h' : Heap} {e dx C : Addr} {mA : Str → Option Value} {xs : List V} {tk : Nat}
theorem er (I : Inv X pins σ H s) (m : Mdn s.heap h' e dx C mA) (hl : xs.length ≤ 2) (r : ∀ f, RelO ((fnm.zip xs).lookup f) (mA f)) :
  ∃ o od, H dx = none ∧ H e = none ∧ dx ≠ e ∧ Inv X pins σ (a7 (a7 H dx (.frz od (.xd (fnm.zip xs)))) e (.frz o (.own e))) { s with heap := h', toks := tk } ∧
   ExO (a7 (a7 H dx (.frz od (.xd (fnm.zip xs)))) e (.frz o (.own e))) e C xs := by
 obtain ⟨o, e1, e2, ⟨t0, e3⟩, e4⟩ := m.at_
 obtain ⟨od, es, ep, d1, d2⟩ := id m.ns
 have n1 : H e = none := I.hok.fresh m.n1
 have n2 : H dx = none := I.hok.fresh m.n2
 refine ⟨o, od, n2, n1, m.ne, I.un ⟨fun b u q _ _ _ => m.kp b u q, fun b u q _ _ _ => ⟨u.slots, m.kp b u q⟩, fun b u q n _ => ?_, fun b u q _ => ⟨u, m.kp b u q⟩, fun b ys q => ?_, fun b u v q => ?_, fun b ps q => ⟨#[], ?_⟩⟩ fun b u q => ?_, o, e7, e2, ⟨_, e3⟩, hl, .inr ⟨dx, od, e4, ?_⟩⟩
 ·rw [a8 (L8 q m.n1), a8 (L8 q m.n2)]; exact n
 ·rw [a8 (g5 q n1), a8 (g5 q n2)]; exact q
 ·rw [a8 (g5 q n1), a8 (g5 q n2)]; exact q
 ·rw [a8 (g5 q n1), a8 (g5 q n2)]; simpa using q
 ·by_cases h1 : b = e
  ·subst h1
   rw [e7] at q
   cases q
   exact ⟨e1, o, e1⟩
  ·rw [a8 h1] at q
   by_cases h2 : b = dx
   ·subst h2
    rw [e7] at q
    cases q
    exact ⟨d1, mA, m.ns, r⟩
   ·rw [a8 h2] at q
    exact (I.hok b u q).stay (fun c v _ z => m.kp c v z) (fun c z => by rw [a8 (g5 z n1), a8 (g5 z n2)]; exact z) fun c ys z => by rw [a8 (g5 z n1), a8 (g5 z n2)]; exact z
 ·rw [a8 m.ne]; exact e7
end
section
variable {X : Cx} {g : Gh} {c : Str} {p pos : Pos} {a b : Expr} {es : List Expr} {fa fb : DE} {t : DA} {k : Nat}
theorem Z3 {pins : List (Addr × Obj)} {σ : L2.St} {H : Hp} {s : Shared} {h' : Heap} {e dx C : Addr} {mA : Str → Option Value} {xs : List V} {tk : Nat} {ds : List D} {s0 : DS} {fa : Option Addr} {O : List Addr} {Q : VK} (I : Inv X pins σ H s) (m : Mdn s.heap h' e dx C mA) (hl : xs.length ≤ 2) (r : ∀ f, RelO ((fnm.zip xs).lookup f) (mA f))
  (hn : PySem.W.nsIn X.K mainGlobals c = some (some (.ref C))) (G : GI X.K g σ H fa O s0) (rs : Reps X.K (NN g.F fa O) fa H ds xs)
  (q : ∀ v H', StE fa O H fa O H' → GI X.K g σ H' fa O s0 → Rep X.K (NN g.F fa O) fa H' (.exc c ds) v → Q v H') : EP X pins σ Q (.ref e) { s with heap := h', toks := tk } := by
 obtain ⟨o, od, n2, n1, ne, J, z⟩ := er (tk := tk) I m hl r
 have G1 := G.new (o := .frz od (.xd (fnm.zip xs))) n2
 have n1' : a7 H dx (.frz od (.xd (fnm.zip xs))) e = none := by rw [a8 ne.symm]; exact n1
 have G2 := G1.new (o := .frz o (.own e)) n1'
 refine ⟨.ref e, _, J, rfl, q _ _ ((j8 n2).trans (j8 n1')) G2 ?_⟩
 simp only [Rep]
 exact ⟨e, C, xs, rfl, hn, z, (rs.stp G (j8 n2).stp).stp G1 (j8 n1').stp⟩
theorem bz {α : Type} : ∀ {l : List α}, l.length = 2 → ∃ x y, l = [x, y]
 | [x, y], _ => ⟨x, y, rfl⟩
theorem B8 (R : Rf1 X.K X.mg c) (hr : Room (k + 1) X.A) (hg : Gl X c) (ha : AO X g [a] t) (hl : ∀ s ds s', t s = some (ds, s') → ds.length = 1) (hdb : (c == ("__debug__" : Str)) = false := by decide) (he : starEach [a] X.env = [(false, eval a X.env)] := by rfl) :
  EO X g (.Call (.Name c p) [a] [] pos) (n0 c t) := by
 refine ⟨fun pins s σ H Q I h => ?_⟩
 obtain ⟨C, W, fI, p1, p2, p3, p4, hm, hn, hk, xd⟩ := R.ex
 refine h.elim fun fa0 O s0 d s1 G0 e0 q => ?_
 obtain ⟨⟨ds, s2⟩, t1, t2⟩ := Option.map_eq_some_iff.mp e0
 cases t2
 refine wpAny_Call_Name_kw (E6 I hg hm ?_ hdb)
 refine PySem.W.callWith_K (h₀ := X.base) I.ok.mod.kin hk (b0 (ha.pe pos pins s σ H (fun vs H1 => ∃ f1 O1, StE fa0 O H f1 O1 H1 ∧ GI X.K g σ H1 f1 O1 s2 ∧ Reps X.K (NN g.F f1 O1) f1 H1 ds vs) I ⟨fa0, O, s0, ds, s2, G0, t1, fun vs H1 f1 O1 a1 a2 a3 => ⟨f1, O1, a1, a2, a3⟩⟩) fun us s3 ⟨vs, H1, I1, rv, f1, O1, b1, b2, b3⟩ => ⟨I1.kIn, ?_⟩) he rfl
 have l1 := hl _ _ _ t1
 have l2 := b3.length
 have l3 := rv.length
 obtain ⟨x0, rfl⟩ : ∃ x0, vs = [x0] := List.length_eq_one_iff.mp (by rw [l2, l1])
 obtain ⟨u0, rfl⟩ : ∃ u0, us = [u0] := List.length_eq_one_iff.mp (by rw [← l3]; rfl)
 have r0 : c5 x0 u0 := by cases rv with | cons r _ => exact r
 refine L2.mk1 xd hr I1.kIn I1.nolimit fun h' tk e dx m => ?_
 refine Z3 I1 m (by simp) (fun f => ?_) hn b2 b3 fun v H' c1 c2 c3 => q v H' f1 O1 (b1.trans c1) c2 c3
 show RelO (([(("word" : Str), x0)] : List (Str × V)).lookup f) _
 by_cases hf : f = "word"
 ·subst hf
  exact r0
 ·rw [List.lookup_cons, beq_eq_false_iff_ne.mpr hf]
  simp only [if_neg hf]
  trivial
theorem M1 (R : Rf2 X.K X.mg c) (hr : Room (k + 1) X.A) (hg : Gl X c) (ha : AO X g [a, b] t) (hl : ∀ s ds s', t s = some (ds, s') → ds.length = 2) (hdb : (c == ("__debug__" : Str)) = false := by decide) (hpl : (backTo pos (starEach [b] X.env)).any (·.1) = false := by rfl) (he : starEach [a, b] X.env = (false, eval a X.env) :: starEach [b] X.env := by rfl) :
  EO X g (.Call (.Name c p) [a, b] [] pos) (n0 c t) := by
 refine ⟨fun pins s σ H Q I h => ?_⟩
 obtain ⟨C, W, fI, p1, p2, p3, p4, p5, p6, p7, p8, hm, hn, hk, xd⟩ := R.ex
 refine h.elim fun fa0 O s0 d s1 G0 e0 q => ?_
 obtain ⟨⟨ds, s2⟩, t1, t2⟩ := Option.map_eq_some_iff.mp e0
 cases t2
 refine wpAny_Call_Name_kw (E6 I hg hm ?_ hdb)
 refine PySem.W.callWith_K (h₀ := X.base) I.ok.mod.kin hk (b0 (ha.pe pos pins s σ H (fun vs H1 => ∃ f1 O1, StE fa0 O H f1 O1 H1 ∧ GI X.K g σ H1 f1 O1 s2 ∧ Reps X.K (NN g.F f1 O1) f1 H1 ds vs) I ⟨fa0, O, s0, ds, s2, G0, t1, fun vs H1 f1 O1 a1 a2 a3 => ⟨f1, O1, a1, a2, a3⟩⟩) fun us s3 ⟨vs, H1, I1, rv, f1, O1, b1, b2, b3⟩ => ⟨I1.kIn, ?_⟩) he hpl
 have l1 := hl _ _ _ t1
 have l2 := b3.length
 have l3 := rv.length
 obtain ⟨x0, x1, rfl⟩ : ∃ x0 x1, vs = [x0, x1] := bz (by rw [l2, l1])
 obtain ⟨u0, u1, rfl⟩ : ∃ u0 u1, us = [u0, u1] := bz (by rw [← l3]; rfl)
 have r0 : c5 x0 u0 := by cases rv with | cons r _ => exact r
 have r1 : c5 x1 u1 := by
  cases rv with | cons _ q =>
  cases q with | cons r _ => exact r
 refine L2.mk2 xd hr I1.kIn I1.nolimit fun h' tk e dx m => ?_
 refine Z3 I1 m (by simp) (fun f => ?_) hn b2 b3 fun v H' c1 c2 c3 => q v H' f1 O1 (b1.trans c1) c2 c3
 show RelO (([(("word" : Str), x0), ("at", x1)] : List (Str × V)).lookup f) _
 by_cases hf : f = "word"
 ·subst hf
  exact r0
 ·rw [List.lookup_cons, beq_eq_false_iff_ne.mpr hf]
  by_cases ha : f = "at"
  ·subst ha
   exact r1
  ·rw [List.lookup_cons, beq_eq_false_iff_ne.mpr ha]
   simp only [if_neg hf, if_neg ha]
   trivial
end
noncomputable def Q9 (f : Str) : Option Nat := if f = "word" then some 0 else if f = "at" then some 1 else none
noncomputable def k6 (cs : List Str) (f : Str) : D → Option D
 | .exc c ds => if cs.contains c = true then (Q9 f).bind fun i => ds[i]? else none
 | _ => none
noncomputable def B5 (c c' : Str) : Bool := c == c' || c' == "WideError"
noncomputable def o8 (cs : List Str) (c' : Str) : D → Option D
 | .exc c _ => if cs.contains c = true then some (.bl (B5 c c')) else none
 | _ => none
noncomputable def G3 (cs : List Str) : D → Option D
 | .exc c _ => if cs.contains c = true then some (.bl true) else none
 | _ => none
structure RfX (K : PySem.W.Frag) (mg : Str → Option Value) (cs' : List Str) (c : Str) : Prop where
 ex : ∃ C, PySem.W.nsIn K mainGlobals c = some (some (.ref C)) ∧ XC K C ∧ PySem.W.kitOne K (.ref C) (.type "ValueError") = some true ∧ (∀ x ∈ fnm, PySem.W.findIn K (.ref C) x = some none) ∧
  ∀ c' ∈ cs', ∃ C', mg c' = some (.ref C') ∧ PySem.W.kitOne K (.ref C) (.ref C') = some (B5 c c')
section
variable {X : Cx} {g : Gh} {a : Expr} {fa : DE} {pos : Pos} {cs cs' : List Str}
theorem Z1 {pins : List (Addr × Obj)} {σ : L2.St} {H : Hp} {s : Shared} {e C : Addr} {xs : List V} (I : Inv X pins σ H s) (h : ExO H e C xs) :
  ∃ o, s.heap.get? e = some o ∧ o.cls = .ref C ∧ (∃ vs, o.data = .fields vs) ∧ (xs = [] ∨ ∃ dx mA, o.dict = some dx ∧ s.heap.Ns1 dx mA ∧ ∀ f, RelO ((fnm.zip xs).lookup f) (mA f)) := by
 obtain ⟨o, e1, e2, e3, _, e4⟩ := h
 refine ⟨o, (I.hok _ _ e1).1, e2, e3, e4.imp id ?_⟩
 rintro ⟨dx, od, d1, d2⟩
 obtain ⟨_, mA, n1, n2⟩ := I.hok _ _ d2
 exact ⟨dx, mA, d1, n1, n2⟩
theorem l6 {f : Str} (R : ∀ c ∈ cs, RfX X.K X.mg cs' c) (ha : EO X g a fa) (hb : attributeBase a f X.env (eval a X.env) = eval a X.env) : EO X g (.Attribute a f pos) (c8 (k6 cs f) fa) := by
 refine ⟨fun pins s σ H Q I h => ?_⟩
 refine h.elim fun fa0 O s0 d s1 G0 e0 q => ?_
 refine d8 e0 fun x s2 h1 h2 => ?_
 refine v3 h2 fun d' h3 h4 => ?_
 cases h4
 refine jn hb (b0 (ha.pe pins s σ H (fun v H1 => ∃ f1 O1, StE fa0 O H f1 O1 H1 ∧ GI X.K g σ H1 f1 O1 s2 ∧ Rep X.K (NN g.F f1 O1) f1 H1 x v) I ⟨fa0, O, s0, x, s2, G0, h1, fun v H1 f1 O1 a1 a2 a3 => ⟨f1, O1, a1, a2, a3⟩⟩) fun u s3 ⟨v, H1, I1, rv, f1, O1, b1, b2, b3⟩ => ?_)
 cases x with
 | exc c ds =>
  have h3 : (if cs.contains c = true then (Q9 f).bind fun i => ds[i]? else none) = some d := h3
  by_cases hc : cs.contains c = true
  ·rw [if_pos hc] at h3
   obtain ⟨i, i1, i2⟩ := Option.bind_eq_some_iff.mp h3
   simp only [Rep] at b3
   obtain ⟨e, C, xs, rfl, n1, eo, rs⟩ := b3
   cases rv
   obtain ⟨C2, m1, m2, m3, m4, m5⟩ := (R c (by simpa using hc)).ex
   rw [n1] at m1
   cases m1
   obtain ⟨o, o1, o2, ⟨vs, o3⟩, o4⟩ := Z1 I1 eo
   obtain ⟨x0, y1, y2⟩ := Reps.get rs i2
   rcases o4 with rfl | ⟨dx, mA, z1, z2, z3⟩
   ·cases y1
   have fi : f ∈ fnm ∧ ((fnm.zip xs).lookup f) = some x0 := by
    unfold Q9 at i1
    by_cases w1 : f = "word"
    ·subst w1
     rw [if_pos rfl] at i1
     cases i1
     cases xs with
     | nil => cases y1
     | cons x1 r => cases y1; exact ⟨by simp [fnm], rfl⟩
    ·rw [if_neg w1] at i1
     by_cases w2 : f = "at"
     ·subst w2
      rw [if_pos rfl] at i1
      cases i1
      cases xs with
      | nil => cases y1
      | cons x1 r =>
       cases r with
       | nil => cases y1
       | cons x2 r => cases y1; exact ⟨by simp [fnm], rfl⟩
     ·rw [if_neg w2] at i1; cases i1
   have z4 := z3 f
   rw [fi.2] at z4
   cases mv : mA f with
   | none => rw [mv] at z4; exact z4.elim
   | some u0 =>
    rw [mv] at z4
    have z4 : c5 x0 u0 := z4
    obtain ⟨hh, gg, dd, tt, oo⟩ := s3
    refine cS I1.kIn o1 o2 o3 z1 z2.ns mv m2.f0 m2.f1 m2.f2 (m4 f fi.1) m2.f4 (fun id z => ?_) ⟨x0, H1, I1.tok _, z4, q x0 H1 f1 O1 b1 b2 y2⟩
    subst z
    cases x0 <;> first | (obtain ⟨_, z⟩ := z4; cases z) | cases z4
  ·rw [if_neg hc] at h3; cases h3
 | _ => cases h3
theorem iG {pins : List (Addr × Obj)} {σ : L2.St} {H : Hp} {s : Shared} {e C : Addr} {xs : List V} {c : Value} {b : Bool} {Q : VK} (I : Inv X pins σ H s) (h : ExO H e C xs) (xc : XC X.K C) (k : PySem.W.kitOne X.K (.ref C) c = some b) (q : Q (.bl b) H) :
  wpAny (model X.prog X.w) X.A (call (.builtin "isinstance") [.ref e, c]) (EP X pins σ Q) X.xe s := by
 obtain ⟨o, o1, o2, _⟩ := Z1 I h
 exact PySem.W.kia_one xc.kit I.kIn ⟨o, o1, o2⟩ k (fun z => nomatch z) fun tk => ⟨.bl b, H, I.tok tk, rfl, q⟩
theorem V5 {c : Value} {v : V} (hv : ∀ u, c5 v u → u = c) : CallR X (.builtin "isinstance") (fun xs H Q => ∃ e C b ys, xs = [.ref e, v] ∧ ExO H e C ys ∧ XC X.K C ∧ PySem.W.kitOne X.K (.ref C) c = some b ∧ Q (.bl b) H) := by
 intro pins s σ H xs us Q I r h
 obtain ⟨e, C, b, ys, rfl, h1, h2, h3, q⟩ := h
 obtain ⟨u, c0, rfl, ru, rc⟩ := gy r
 cases ru
 cases hv _ rc
 exact iG I h1 h2 h3 q
theorem W6 {p : D → Option D} {c : Value} {v : V} {f : Str → Bool} (hp : ∀ d b, p d = some b → ∃ c0 ds, d = .exc c0 ds ∧ c0 ∈ cs ∧ b = .bl (f c0)) (R : ∀ c0 ∈ cs, ∃ C, PySem.W.nsIn X.K mainGlobals c0 = some (some (.ref C)) ∧ XC X.K C ∧ PySem.W.kitOne X.K (.ref C) c = some (f c0))
  (σ : L2.St) (H : Hp) (Q : VK) (hQ : liftE X.K g (c8 p fa) σ H Q) : U5 (fun xs H Q => ∃ e C b ys, xs = [.ref e, v] ∧ ExO H e C ys ∧ XC X.K C ∧ PySem.W.kitOne X.K (.ref C) c = some b ∧ Q (.bl b) H) (S6 (liftE X.K g fa) (S6 (tC v) aS)) σ H Q := by
 refine hQ.elim fun f0 O s d s' I e k => ?_
 refine d8 e fun x s1 h1 h => ?_
 refine v3 h fun d' h3 h => ?_
 cases h
 obtain ⟨c0, ds, rfl, m, rfl⟩ := hp _ _ h3
 refine ⟨f0, O, s, _, s1, I, h1, fun y H1 f1 O1 a1 I1 r1 => ?_⟩
 simp only [Rep] at r1
 obtain ⟨a, C, xs, rfl, n1, eo, rs⟩ := r1
 obtain ⟨C2, m1, m2, m3⟩ := R c0 m
 rw [n1] at m1
 cases m1
 exact ⟨a, C, _, xs, rfl, eo, m2, m3, k _ H1 f1 O1 a1 I1 (by simp only [Rep])⟩
theorem gu {c' : Str} (d b : D) (h : o8 cs c' d = some b) : ∃ c0 ds, d = .exc c0 ds ∧ c0 ∈ cs ∧ b = .bl (B5 c0 c') := by
 cases d with
 | exc c ds =>
  have h : (if cs.contains c = true then some (.bl (B5 c c')) else none) = some b := h
  by_cases z : cs.contains c = true
  ·rw [if_pos z] at h; cases h; exact ⟨c, ds, rfl, by simpa using z, rfl⟩
  ·rw [if_neg z] at h; cases h
 | _ => cases h
theorem eS (d b : D) (h : G3 cs d = some b) : ∃ c0 ds, d = .exc c0 ds ∧ c0 ∈ cs ∧ b = .bl ((fun _ => true) c0) := by
 cases d with
 | exc c ds =>
  have h : (if cs.contains c = true then some (.bl true) else none) = some b := h
  by_cases z : cs.contains c = true
  ·rw [if_pos z] at h; cases h; exact ⟨c, ds, rfl, by simpa using z, rfl⟩
  ·rw [if_neg z] at h; cases h
 | _ => cases h
theorem gv {c' : Str} {C' : Addr} {p p2 : Pos} (R : ∀ c ∈ cs, RfX X.K X.mg cs' c) (hc : c' ∈ cs') (hg : Gl X "isinstance") (hm : X.mg "isinstance" = none) (hgc : Gl X c') (hmc : X.mg c' = some (.ref C')) (ha : EO X g a fa)
  (hd : (c' == ("__debug__" : Str)) = false := by decide) (hs1 : starEach [.Name c' p2] X.env = (false, eval (.Name c' p2) X.env) :: starEach [] X.env := by rfl)
  (he : starEach [a, .Name c' p2] X.env = (false, eval a X.env) :: starEach [.Name c' p2] X.env := by rfl) (hpl : (backTo pos (starEach [.Name c' p2] X.env)).any (·.1) = false := by rfl) :
  EO X g (.Call (.Name "isinstance" p) [a, .Name c' p2] [] pos) (c8 (o8 cs c') fa) :=
 EO.w (S8 (V5 (c := .ref C') (v := .ref C') fun u r => r) hg hm aN (A2 ha.pe (A2 (dc (v := .ref C') hgc hmc rfl hd) F9 hs1) he) (by decide) (by decide) he hpl)
  (W6 (f := fun c0 => B5 c0 c') gu fun c0 m => by
   obtain ⟨C, m1, m2, m3, m4, m5⟩ := (R c0 m).ex
   obtain ⟨C2, z1, z2⟩ := m5 c' hc
   rw [hmc] at z1
   cases z1
   exact ⟨C, m1, m2, z2⟩)
theorem Z8 {p p2 : Pos} (R : ∀ c ∈ cs, RfX X.K X.mg cs' c) (hg : Gl X "isinstance") (hm : X.mg "isinstance" = none) (hgc : Gl X "ValueError") (hmc : X.mg "ValueError" = none) (ha : EO X g a fa)
  (hs1 : starEach [.Name "ValueError" p2] X.env = (false, eval (.Name "ValueError" p2) X.env) :: starEach [] X.env := by rfl)
  (he : starEach [a, .Name "ValueError" p2] X.env = (false, eval a X.env) :: starEach [.Name "ValueError" p2] X.env := by rfl) (hpl : (backTo pos (starEach [.Name "ValueError" p2] X.env)).any (·.1) = false := by rfl) :
  EO X g (.Call (.Name "isinstance" p) [a, .Name "ValueError" p2] [] pos) (c8 (G3 cs) fa) :=
 EO.w (S8 (V5 (c := .type "ValueError") (v := .ty "ValueError") fun u r => r) hg hm aN (A2 ha.pe (A2 (cu (v := .ty "ValueError") hgc hmc (by rfl) rfl (by decide) (by decide)) F9 hs1) he) (by decide) (by decide) he hpl)
  (W6 (f := fun _ => true) eS fun c0 m => by
   obtain ⟨C, m1, m2, m3, _⟩ := (R c0 m).ex
   exact ⟨C, m1, m2, m3⟩)
end
structure Rf0 (K : PySem.W.Frag) (mg : Str → Option Value) (c : Str) : Prop where
 ex : ∃ C nm q N bs bm hdct sn sub ab col dd k0 k1 k2 k3 k5, mg c = some (.ref C) ∧ PySem.W.nsIn K mainGlobals c = some (some (.ref C)) ∧ PySem.W.keepIn K (.ref C) = true ∧ K.lookup C = some (excClassObj nm q C N bs bm hdct sn sub ab col dd k0 k1 k2 k3 k5 m7) ∧
  (Value.ref C :: bm).contains (.type "ValueError") = true ∧ (Value.ref C :: bm).contains (.type "AttributeError") = false ∧ (Value.ref C :: bm).contains (.type "NameError") = false ∧ PySem.W.findIn K (.ref C) "__init__" = some (some (.builtin E5))
structure RfA (K : PySem.W.Frag) (mg : Str → Option Value) (cs cs' : List Str) : Prop where
 rx : ∀ c ∈ cs, RfX K mg cs' c
 mm : ∀ c ∈ cs', ∃ C, mg c = some (.ref C)
 ve : mg "ValueError" = none
noncomputable def N6 (c : Str) (t : DA) : DE := fun s => (t s).map fun x => (.exc c [], x.2)
section
variable {X : Cx} {g : Gh} {c : Str} {p pos : Pos} {a : Expr} {t : DA} {fa : DE} {cs cs' : List Str}
theorem ba (R : Rf0 X.K X.mg c) (hg : Gl X c) (ha : AO X g [a] t) (hl : ∀ s ds s', t s = some (ds, s') → ds.length = 1) (hdb : (c == ("__debug__" : Str)) = false := by decide) (he : starEach [a] X.env = [(false, eval a X.env)] := by rfl) :
  EO X g (.Call (.Name c p) [a] [] pos) (N6 c t) := by
 refine ⟨fun pins s σ H Q I h => ?_⟩
 obtain ⟨C, nm, q0, N, bs, bm, hdct, sn, sub, ab, col, dd, k0, k1, k2, k3, k5, hm, hn, hk, lk, b1, b2, b3, hi⟩ := R.ex
 refine h.elim fun fa0 O s0 d s1 G0 e0 q => ?_
 obtain ⟨⟨ds, s2⟩, t1, t2⟩ := Option.map_eq_some_iff.mp e0
 cases t2
 refine wpAny_Call_Name_kw (E6 I hg hm ?_ hdb)
 refine PySem.W.callWith_K (h₀ := X.base) I.ok.mod.kin hk (b0 (ha.pe pos pins s σ H (fun vs H1 => ∃ f1 O1, StE fa0 O H f1 O1 H1 ∧ GI X.K g σ H1 f1 O1 s2 ∧ Reps X.K (NN g.F f1 O1) f1 H1 ds vs) I ⟨fa0, O, s0, ds, s2, G0, t1, fun vs H1 f1 O1 a1 a2 a3 => ⟨f1, O1, a1, a2, a3⟩⟩) fun us s3 ⟨vs, H1, I1, rv, f1, O1, b1', b2', b3'⟩ => ⟨I1.kIn, ?_⟩) he rfl
 have l1 := hl _ _ _ t1
 have l2 := b3'.length
 have l3 := rv.length
 obtain ⟨hh, gg, d0, tt, oo⟩ := s3
 refine ip I1.kIn lk b1 b2 b3 hi (by rw [List.nil_append, ← l3, l2, l1]; decide) fun h' e kp ne ⟨t0, ge⟩ => ?_
 have n1 : H1 e = none := I1.hok.fresh ne
 have J := I1.laid (t' := tt) (o := .frz { cls := .ref C, data := .fields #[.ref t0, .none, .none, .none, .bool false, .none] } (.own e)) kp ne ⟨ge, _, ge⟩
 refine ⟨.ref e, _, J, rfl, q _ _ f1 O1 (b1'.trans (j8 n1)) (b2'.new n1) ?_⟩
 simp only [Rep]
 exact ⟨e, C, [], rfl, hn, ⟨_, e7, rfl, ⟨_, rfl⟩, Nat.zero_le _, .inl rfl⟩, by simp only [Reps]⟩
theorem A8 {c' : Str} {p p2 : Pos} (R : RfA X.K X.mg cs cs') (hc : cs'.contains c' = true) (hg : Gl X "isinstance") (hm : X.mg "isinstance" = none) (hgc : Gl X c') (ha : EO X g a fa)
  (hd : (c' == ("__debug__" : Str)) = false := by decide) (hs1 : starEach [.Name c' p2] X.env = (false, eval (.Name c' p2) X.env) :: starEach [] X.env := by rfl)
  (he : starEach [a, .Name c' p2] X.env = (false, eval a X.env) :: starEach [.Name c' p2] X.env := by rfl) (hpl : (backTo pos (starEach [.Name c' p2] X.env)).any (·.1) = false := by rfl) :
  EO X g (.Call (.Name "isinstance" p) [a, .Name c' p2] [] pos) (c8 (o8 cs c') fa) := by
 have hc : c' ∈ cs' := by simpa using hc
 obtain ⟨C, e⟩ := R.mm c' hc
 exact gv R.rx hc hg hm hgc e ha hd hs1 he hpl
end
section
variable {K : PySem.W.Frag} {mg : Str → Option Value} {h : Heap} {c : Str} {C W fI : Addr} {cs cs' : List Str}
theorem xc_mk (f0 : PySem.W.hasDictIn K C = true) (f1 : PySem.W.findIn K (.ref C) "__getattribute__" = some (some (.builtin "BaseException.__getattribute__"))) (f2 : PySem.W.findIn K (.ref C) "__getattr__" = some none)
  (f4 : PySem.W.subIn K (.ref C) (.type "BaseException") = some true) (f5 : PySem.W.subIn K (.ref C) (.type "object") = some true) (f6 : PySem.W.findIn K (.ref C) "__class__" = some (some (.builtin "object.__class__"))) : XC K C := ⟨f0, f1, f2, f4, f5, f6⟩
theorem rf0_mk (X : K.In h) (G : h.Ns mainGlobals mg) {nm q : Str} {N : Addr} {bs bm : List Value} {hdct : Bool} {sn : List Str} {sub : List Value} {ab : Bool} {col : Option Bool} {dd : Option Addr} {k0 k1 k2 k3 k5 : Option Value}
  (a : PySem.W.nsIn K mainGlobals c = some (some (.ref C))) (kp : PySem.W.keepIn K (.ref C) = true) (lk : K.lookup C = some (excClassObj nm q C N bs bm hdct sn sub ab col dd k0 k1 k2 k3 k5 m7)) (hi : PySem.W.findIn K (.ref C) "__init__" = some (some (.builtin E5)))
  (b : ((Value.ref C :: bm).contains (.type "ValueError") && !(Value.ref C :: bm).contains (.type "AttributeError") && !(Value.ref C :: bm).contains (.type "NameError")) = true) : Rf0 K mg c := by
 rw [Bool.and_eq_true, Bool.and_eq_true] at b
 exact ⟨C, nm, q, N, bs, bm, hdct, sn, sub, ab, col, dd, k0, k1, k2, k3, k5, PySem.W.mg_of X G a, a, kp, lk, b.1.1, by simpa using b.1.2, by simpa using b.2, hi⟩
theorem xk1_mk {nm q : Str} {N : Addr} {bs : List Value} {hdct : Bool} {sn : List Str} {sub : List Value} {ab : Bool} {col : Option Bool} {dd : Option Addr} {k0 k1 k2 k3 k5 : Option Value} (x : XC K C) (lk : K.lookup C = some (excClassObj nm q C N bs (.ref W :: u2) hdct sn sub ab col dd k0 k1 k2 k3 k5 m7))
  (sa : PySem.W.findIn K (.ref C) "__setattr__" = some (some (.builtin "object.__setattr__"))) : XK1 K C W := ⟨x, ⟨nm, q, N, bs, hdct, sn, sub, ab, col, dd, k0, k1, k2, k3, k5, lk⟩, sa⟩
theorem rf1_mk (X : K.In h) (G : h.Ns mainGlobals mg) {p1 p2 p3 p4 : Pos} {od : Option Addr} {name qual : Str} {params : Arguments} {scope : Scope} {kV doc pm : Value} {an : Option Addr} {cdv ct : Value} {osl : Array (Option Value)} (a : PySem.W.nsIn K mainGlobals c = some (some (.ref C))) (kp : PySem.W.keepIn K (.ref C) = true)
  (x : XK1 K C W) (hi : PySem.W.findIn K (.ref C) "__init__" = some (some (.ref fI))) (w1 : PySem.W.findIn K (.ref C) "word" = some none)
  (lf : K.lookup fI = some ⟨.type "function", od, .func (PySem.W.fnOf name qual params [.Assign [.Attribute (.Name "self" p1) "word" p2] (.Name "word" p3) p4] scope .none kV doc pm an cdv ct), osl⟩) (cd : PySem.W.codeIn K cdv qual = true)
  (s1 : scope.kind = .function ∧ scope.isCoroutine = false ∧ scope.isGenerator = false ∧ ∀ x ∈ (["self", "word"] : List Str), scope.names.lookup x = some .local)
  (s2 : ∀ us : List Value, us.length = 2 → bindArgs (PySem.W.fnOf name qual params [.Assign [.Attribute (.Name "self" p1) "word" p2] (.Name "word" p3) p4] scope .none kV doc pm an cdv ct) ⟨us, []⟩ = pure ((["self", "word"] : List Str).zip us)) : Rf1 K mg c :=
 ⟨C, W, fI, p1, p2, p3, p4, PySem.W.mg_of X G a, a, kp, x, hi, ⟨_, od, name, qual, params, scope, kV, doc, pm, an, cdv, ct, osl, lf, rfl, cd, s1.1, s1.2.1, s1.2.2.1, s1.2.2.2, s2⟩, fun y hy => by
  rcases List.mem_singleton.mp hy with rfl
  exact w1⟩
theorem rf2_mk (X : K.In h) (G : h.Ns mainGlobals mg) {p1 p2 p3 p4 p5 p6 p7 p8 : Pos} {od : Option Addr} {name qual : Str} {params : Arguments} {scope : Scope} {kV doc pm : Value} {an : Option Addr} {cdv ct : Value} {osl : Array (Option Value)} (a : PySem.W.nsIn K mainGlobals c = some (some (.ref C))) (kp : PySem.W.keepIn K (.ref C) = true)
  (x : XK1 K C W) (hi : PySem.W.findIn K (.ref C) "__init__" = some (some (.ref fI))) (w1 : PySem.W.findIn K (.ref C) "word" = some none) (w2 : PySem.W.findIn K (.ref C) "at" = some none)
  (lf : K.lookup fI = some ⟨.type "function", od, .func (PySem.W.fnOf name qual params [.Assign [.Attribute (.Name "self" p1) "word" p2] (.Name "word" p3) p4, .Assign [.Attribute (.Name "self" p5) "at" p6] (.Name "at" p7) p8] scope .none kV doc pm an cdv ct), osl⟩) (cd : PySem.W.codeIn K cdv qual = true)
  (s1 : scope.kind = .function ∧ scope.isCoroutine = false ∧ scope.isGenerator = false ∧ ∀ x ∈ (["self", "word", "at"] : List Str), scope.names.lookup x = some .local)
  (s2 : ∀ us : List Value, us.length = 3 → bindArgs (PySem.W.fnOf name qual params [.Assign [.Attribute (.Name "self" p1) "word" p2] (.Name "word" p3) p4, .Assign [.Attribute (.Name "self" p5) "at" p6] (.Name "at" p7) p8] scope .none kV doc pm an cdv ct) ⟨us, []⟩ = pure ((["self", "word", "at"] : List Str).zip us)) : Rf2 K mg c :=
 ⟨C, W, fI, p1, p2, p3, p4, p5, p6, p7, p8, PySem.W.mg_of X G a, a, kp, x, hi, ⟨_, od, name, qual, params, scope, kV, doc, pm, an, cdv, ct, osl, lf, rfl, cd, s1.1, s1.2.1, s1.2.2.1, s1.2.2.2, s2⟩, fun y hy => by
  rcases List.mem_cons.mp hy with rfl | hy
  ·exact w1
  ·rcases List.mem_singleton.mp hy with rfl
   exact w2⟩
theorem rfx_mk (a : PySem.W.nsIn K mainGlobals c = some (some (.ref C))) (x : XC K C) (v : PySem.W.kitOne K (.ref C) (.type "ValueError") = some true) (w1 : PySem.W.findIn K (.ref C) "word" = some none) (w2 : PySem.W.findIn K (.ref C) "at" = some none)
  (m : ∀ c' ∈ cs', ∃ C', mg c' = some (.ref C') ∧ PySem.W.kitOne K (.ref C) (.ref C') = some (B5 c c')) : RfX K mg cs' c := ⟨C, a, x, v, fun y hy => by
  rcases List.mem_cons.mp hy with rfl | hy
  ·exact w1
  ·rcases List.mem_singleton.mp hy with rfl
   exact w2, m⟩
theorem mem0 {P : Str → Prop} : ∀ c ∈ ([] : List Str), P c := fun _ h => by cases h
theorem memC {P : Str → Prop} {c : Str} {l : List Str} (h : P c) (r : ∀ c ∈ l, P c) : ∀ x ∈ c :: l, P x := fun x hx => by
 rcases List.mem_cons.mp hx with rfl | hx
 ·exact h
 ·exact r x hx
theorem kit_mk (X : K.In h) (G : h.Ns mainGlobals mg) {c' : Str} {C' : Addr} {b : Bool} (a : PySem.W.nsIn K mainGlobals c' = some (some (.ref C'))) (k : PySem.W.kitOne K (.ref C) (.ref C') = some b) : ∃ C', mg c' = some (.ref C') ∧ PySem.W.kitOne K (.ref C) (.ref C') = some b := ⟨C', PySem.W.mg_of X G a, k⟩
theorem cls_mk (X : K.In h) (G : h.Ns mainGlobals mg) (a : PySem.W.nsIn K mainGlobals c = some (some (.ref C))) : ∃ C, mg c = some (.ref C) := ⟨C, PySem.W.mg_of X G a⟩
theorem rfa_mk (X : K.In h) (G : h.Ns mainGlobals mg) (v : PySem.W.nsIn K mainGlobals "ValueError" = some none) (a : ∀ c ∈ cs, RfX K mg cs' c) (b : ∀ c ∈ cs', ∃ C, mg c = some (.ref C)) : RfA K mg cs cs' := ⟨a, b, PySem.W.mg_none_of X G v⟩
end
end DL
namespace T
open PySem PySem.Spec L2 DL
noncomputable def T4 : DM := (j5 (J9 0))
noncomputable def D8 : c7 := t5 1 (T4)
noncomputable def w4 : DM := (c6 (e8 (a5 n4 (g0 0 "turn") (dC (.int 1))) (d7 2)) (c6 (o5 0 "turn" (dV 2)) (c6 (k8 (dB (a5 (j6 (fun i j => decide (j < i))) (g0 0 "left") (dC (.int 0)))) (c6 (e8 (a5 j3 (g0 0 "left") (dL 1)) (d7 3)) (c6 (o5 0 "left" (a5 v7 (g0 0 "left") (dL 1))) (j5 (dV 3)))) u4) (c6 (e8 (g0 0 "cells") (d7 4)) (c6 (e8 (C9 (dB (a5 (j6 (fun i j => decide (j < i))) (i4 (one n3) (a0 (dL 4) a9)) (dC (.int 0)))) (a5 d6 (dL 4) (a5 j3 (g0 0 "at") (i4 (one n3) (a0 (dL 4) a9)))) (dC (.int 0))) (d7 5)) (c6 (o5 0 "at" (a5 n4 (g0 0 "at") (dC (.int 1)))) (c6 (k8 (E3 (dB (a5 (j6 (fun i j => decide (j ≤ i))) (dL 5) (a5 D9 (dC (.int 10)) (dC (.int 18))))) (dB (a5 (j6 (fun i j => decide (i ≤ j))) (g0 0 "at") (i4 (one n3) (a0 (dL 4) a9))))) (c6 (o5 0 "left" (a5 v7 (dL 5) (dL 1))) (j5 (a5 j3 (dL 5) (dL 1)))) u4) (c6 (e8 (a5 j3 (a5 l0 (a5 n4 (a5 n4 (a5 n4 (a5 j3 (dL 5) (dC (.int 1000003))) (a5 l0 (a5 l0 (dC (.int 31)) (dL 2)) (dL 2))) (a5 l0 (dC (.int 7)) (dL 2))) (dC (.int 11))) (dC (.int 48271))) (dC (.int 2147483647))) (d7 6)) (c6 (e8 (a5 j3 (a5 n4 (a5 l0 (a5 v7 (dL 6) (dC (.int 64))) (dC (.int 69621))) (a5 l0 (dC (.int 7919)) (dL 2))) (dC (.int 2147483587))) (d7 6)) (j5 (a5 j3 (a5 v7 (dL 6) (dC (.int 64))) (dL 1))))))))))))
noncomputable def A4 : c7 := t5 7 (w4)
noncomputable def fv : DM := (c6 (B2 1 (k9 (a0 (c8 (o8 ["WideError", "NoPaper", "NoOutline", "NoJoin", "TooMany", "NoText", "NoRow"] "NoJoin") (dV 0)) (a0 (c8 (o8 ["WideError", "NoPaper", "NoOutline", "NoJoin", "TooMany", "NoText", "NoRow"] "NoOutline") (dV 0)) (a0 (c8 (o8 ["WideError", "NoPaper", "NoOutline", "NoJoin", "TooMany", "NoText", "NoRow"] "NoPaper") (dV 0)) (a0 (c8 (o8 ["WideError", "NoPaper", "NoOutline", "NoJoin", "TooMany", "NoText", "NoRow"] "NoRow") (dV 0)) a9)))))) (j5 (m6 (R7 O6 (dL 1) (m6 (k9 (a0 (c8 (o8 ["WideError", "NoPaper", "NoOutline", "NoJoin", "TooMany", "NoText", "NoRow"] "NoText") (dV 0)) (a0 (c8 (o8 ["WideError", "NoPaper", "NoOutline", "NoJoin", "TooMany", "NoText", "NoRow"] "TooMany") (dV 0)) a9))))))))
noncomputable def w5 : c7 := t5 2 (fv)
noncomputable abbrev bB (m_law_sorts : c7) (m_law_draw : c7) (m_law_feed : c7) : DM := (c6 (k8 (F7 (D2 (D7 (c8 (o8 ["WideError", "NoPaper", "NoOutline", "NoJoin", "TooMany", "NoText", "NoRow"] "WideError") (a5 d6 (dL 5) (dL 6))))) (D2 (D7 (c8 (G3 ["WideError", "NoPaper", "NoOutline", "NoJoin", "TooMany", "NoText", "NoRow"]) (a5 d6 (dL 5) (dL 6)))))) (j5 (dC (.bl false))) u4) (k8 (dB (a5 u9 (o9 m_law_sorts (a0 (a5 d6 (dL 5) (dL 6)) a9)) (m6 (M8 [6] (U3 (a0 (dC (.int 6)) a9)) Q7 (a5 E7 (dL 0) (dL 1)))))) (j5 (dC (.bl false))) u4))
noncomputable abbrev V4 (m_law_sorts : c7) (m_law_draw : c7) (m_law_feed : c7) : DM := (c6 (e8 (o9 m_law_draw (a0 (dV 1) (a0 (a5 D9 (dC (.int 10)) (dC (.int 6))) a9))) (d7 3)) (c6 (e8 (a5 d6 (m6 (k9 (a0 (dC (.str "shape")) (a0 (dC (.str "place")) (a0 (dC (.str "lack")) (a0 (dC (.str "")) a9)))))) (o9 m_law_draw (a0 (dV 1) (a0 (dC (.int 4)) a9)))) (d7 4)) (c6 (B2 5 (k9 (a0 (n0 "NoJoin" (a0 (dV 4) a9)) (a0 (n0 "NoOutline" (a0 (dV 4) (a0 (dV 3) a9))) (a0 (n0 "NoPaper" (a0 (dV 4) (a0 (dV 3) a9))) (a0 (N6 "NoRow" (a0 (dC (.str "a text")) a9)) (a0 (n0 "NoText" (a0 (dV 3) a9)) a9))))))) (c6 (C4 5 (n0 "TooMany" (a0 (dV 4) a9))) (c6 (F2 (a0 (dC (.int 6)) a9) (d7 6) (bB m_law_sorts m_law_draw m_law_feed)) (c6 (B2 7 (k9 (a0 (n0 "NoPaper" (a0 (dC .non) (a0 (m6 (k9 (a0 (dC (.int 1)) a9))) a9))) (a0 (n0 "NoOutline" (a0 (P0 (a0 (dC (.int 0)) a9)) (a0 (dC (.str "x")) a9))) (a0 (n0 "NoJoin" (a0 (m6 (k9 (a0 (dC (.int 0)) a9))) a9)) (a0 (n0 "NoText" (a0 (dC .non) a9)) (a0 (n0 "TooMany" (a0 (dC (.bl true)) a9)) a9))))))) (c6 (B2 8 (k9 (a0 (c8 (k6 ["WideError", "NoPaper", "NoOutline", "NoJoin", "TooMany", "NoText", "NoRow"] "word") (a5 d6 (dL 7) (dC (.int 0)))) (a0 (c8 (k6 ["WideError", "NoPaper", "NoOutline", "NoJoin", "TooMany", "NoText", "NoRow"] "at") (a5 d6 (dL 7) (dC (.int 0)))) (a0 (c8 (k6 ["WideError", "NoPaper", "NoOutline", "NoJoin", "TooMany", "NoText", "NoRow"] "word") (a5 d6 (dL 7) (dC (.int 1)))) (a0 (c8 (k6 ["WideError", "NoPaper", "NoOutline", "NoJoin", "TooMany", "NoText", "NoRow"] "at") (a5 d6 (dL 7) (dC (.int 1)))) (a0 (c8 (k6 ["WideError", "NoPaper", "NoOutline", "NoJoin", "TooMany", "NoText", "NoRow"] "word") (a5 d6 (dL 7) (dC (.int 2)))) (a0 (c8 (k6 ["WideError", "NoPaper", "NoOutline", "NoJoin", "TooMany", "NoText", "NoRow"] "word") (a5 d6 (dL 7) (dC (.int 3)))) (a0 (c8 (k6 ["WideError", "NoPaper", "NoOutline", "NoJoin", "TooMany", "NoText", "NoRow"] "word") (a5 d6 (dL 7) (dC (.int 4)))) a9))))))))) (c6 (k8 (dB (a5 u9 (i4 (one u7) (a0 (dL 8) a9)) (i4 (one u7) (a0 (m6 (k9 (a0 (dC .non) (a0 (m6 (k9 (a0 (dC (.int 1)) a9))) (a0 (P0 (a0 (dC (.int 0)) a9)) (a0 (dC (.str "x")) (a0 (m6 (k9 (a0 (dC (.int 0)) a9))) (a0 (dC .non) (a0 (dC (.bl true)) a9))))))))) a9)))) (j5 (dC (.bl false))) u4) (c6 (e8 (N6 "WideError" (a0 (dC (.str "a text")) a9)) (d7 9)) (c6 (k8 (F7 (D2 (D7 (c8 (G3 ["WideError", "NoPaper", "NoOutline", "NoJoin", "TooMany", "NoText", "NoRow"]) (dV 9)))) (dB (a5 Y5 (dC (.bl true)) (o9 m_law_sorts (a0 (dV 9) a9))))) (j5 (dC (.bl false))) u4) (c6 (B2 10 (k9 (a0 (c8 (k6 ["WideError", "NoPaper", "NoOutline", "NoJoin", "TooMany", "NoText", "NoRow"] "word") (a5 d6 (dL 5) (dC (.int 0)))) (a0 (c8 (k6 ["WideError", "NoPaper", "NoOutline", "NoJoin", "TooMany", "NoText", "NoRow"] "word") (a5 d6 (dL 5) (dC (.int 1)))) (a0 (c8 (k6 ["WideError", "NoPaper", "NoOutline", "NoJoin", "TooMany", "NoText", "NoRow"] "at") (a5 d6 (dL 5) (dC (.int 1)))) (a0 (c8 (k6 ["WideError", "NoPaper", "NoOutline", "NoJoin", "TooMany", "NoText", "NoRow"] "word") (a5 d6 (dL 5) (dC (.int 2)))) (a0 (c8 (k6 ["WideError", "NoPaper", "NoOutline", "NoJoin", "TooMany", "NoText", "NoRow"] "at") (a5 d6 (dL 5) (dC (.int 2)))) (a0 (c8 (k6 ["WideError", "NoPaper", "NoOutline", "NoJoin", "TooMany", "NoText", "NoRow"] "word") (a5 d6 (dL 5) (dC (.int 4)))) (a0 (c8 (k6 ["WideError", "NoPaper", "NoOutline", "NoJoin", "TooMany", "NoText", "NoRow"] "word") (a5 d6 (dL 5) (dC (.int 5)))) a9))))))))) (k8 (dB (a5 u9 (i4 (one u7) (a0 (dL 10) a9)) (i4 (one u7) (a0 (m6 (k9 (a0 (dV 4) (a0 (dV 4) (a0 (dV 3) (a0 (dV 4) (a0 (dV 3) (a0 (dV 3) (a0 (dV 4) a9))))))))) a9)))) (j5 (dC (.bl false))) u4))))))))))))
noncomputable def R5 (m_law_sorts : c7) (m_law_draw : c7) (m_law_feed : c7) : DM := (c6 (e8 (o9 m_law_feed (a0 (dV 0) a9)) (d7 1)) (c6 (F2 (a0 (dC (.int 3)) a9) (d7 2) (V4 m_law_sorts m_law_draw m_law_feed)) (j5 (dC (.bl true)))))
noncomputable def Q3 (m_law_sorts : c7) (m_law_draw : c7) (m_law_feed : c7) : c7 := t5 11 (R5 m_law_sorts m_law_draw m_law_feed)
end T
namespace DL
open PySem L2
theorem N4 {n k : Nat} (hk : 0 < k) (h : n < 2 ^ k) : n.log2 < k := by
 by_cases h0 : n = 0
 ·subst h0; simpa using hk
 ·exact (Nat.log2_lt h0).mpr h
theorem E4 {i : Int} (h : i.natAbs < 2 ^ 200) : d9 i = true := by
 have := N4 (by decide) h
 exact decide_eq_true (by omega)
theorem fW {j : Int} (h0 : j ≠ 0) (h : j.natAbs < 2 ^ 200) : n5 j = true := by
 have := N4 (by decide) h
 unfold n5
 rw [decide_eq_true h0, Bool.true_and]
 exact decide_eq_true (by omega)
theorem cU (x y : Str) : u9 (.str x) (.str y) = some (.bl (!decide (x = y))) := rfl
theorem cZ {i : Int} (h : i.natAbs.log2 < 1920) : (PySem.Str.ofString (toString i)).length ≤ 1921 := PyProof.Rows.int_text_len_1921 h
theorem bf {d : D} (h : r8 d = true) : u7 d = some (.str d.py.shown) := by unfold u7; rw [if_pos h]
theorem bp (f : FS) (h : f.kind = 0) : f.get "at" = some (.int f.pos) := by unfold FS.get; rw [if_pos h, if_neg (by decide +kernel), if_pos rfl]
theorem iH {α : Type} {xs : List α} {i : Int} (h0 : 0 ≤ i) (h1 : i < xs.length) : l7 xs i = xs[i.toNat]? := by
 unfold l7 B3
 rw [if_pos h0, if_pos h1]
 rfl
theorem t6 {a b : Int} (h : 0 < b) : 0 ≤ a.fmod b ∧ a.fmod b < b := by
 rw [Int.fmod_eq_emod_of_nonneg a (by omega)]
 exact ⟨Int.emod_nonneg a (by omega), Int.emod_lt_of_pos a h⟩
theorem l5 {a b : DM} {s s1 : DS} (h : a s = some (.next, s1)) : c6 a b s = b s1 := by simp [c6, h, K9]
theorem bK {a b : DM} {s s1 : DS} {d : D} (h : a s = some (.ret d, s1)) : c6 a b s = some (.ret d, s1) := by simp [c6, h, K9]
theorem eJ {f : DE} {i : Nat} {s s1 : DS} {d : D} (h : f s = some (d, s1)) : e8 f (d7 i) s = some (.next, { s1 with sl := s1.sl.set i (.val d) }) := by simp [e8, h, d7]
theorem f9 {p : D → D → Option D} {a b : DE} {s s1 s2 : DS} {x y z : D} (h1 : a s = some (x, s1)) (h2 : b s1 = some (y, s2)) (h3 : p x y = some z) : a5 p a b s = some (z, s2) := by
 unfold a5
 rw [h1, Option.bind_some, h2, Option.bind_some, h3]
 rfl
theorem F5 {f : DE} {t : D → DS → Option DS} {s s1 s2 : DS} {d : D} (h1 : f s = some (d, s1)) (h2 : t d s1 = some s2) : e8 f t s = some (.next, s2) := by
 unfold e8
 rw [h1, Option.bind_some, h2]
 rfl
theorem bD {c : DT} {a b : DM} {s s1 : DS} (h : c s = some (true, s1)) : k8 c a b s = a s1 := by simp [k8, h]
theorem X4 {c : DT} {a b : DM} {s s1 : DS} (h : c s = some (false, s1)) : k8 c a b s = b s1 := by simp [k8, h]
theorem aA {f : DE} {s s1 : DS} {d : D} (h : f s = some (d, s1)) : j5 f s = some (.ret d, s1) := by simp [j5, h]
theorem E9 {n : Nat} {b : DM} {ds : List D} {fs : Option FS} {d : D} {s : DS} (h : b ⟨ds.map .val ++ List.replicate (n - ds.length) .no, fs⟩ = some (.ret d, s)) : t5 n b ds fs = some (d, s.fs) := by simp [t5, h]
noncomputable def Bd (k : Nat) (i : Int) : Prop := i.natAbs < 2 ^ k
structure Ok (k n : Nat) (d : D) : Prop where
 pl : d.plain = true
 sh : d.py.showable = true
 la : d.py.canLay0 = true
 dp : d.py.depth ≤ k
 le : d.py.leavesShort 1921 = true
 bu : d.py.bulk ≤ n
structure OkL (k n : Nat) (ds : List D) : Prop where
 pl : D.plains ds = true
 sh : PyData.showableAll (D.pys ds) = true
 la : PyData.canLayAll0 (D.pys ds) = true
 dp : PyData.depthAll (D.pys ds) ≤ k
 le : PyData.leavesShortAll 1921 (D.pys ds) = true
 bu : PyData.bulkAll (D.pys ds) ≤ n
theorem Ok.mono {k n k' n' : Nat} {d : D} (h : Ok k n d) (hk : k ≤ k') (hn : n ≤ n') : Ok k' n' d := ⟨h.pl, h.sh, h.la, Nat.le_trans h.dp hk, h.le, Nat.le_trans h.bu hn⟩
theorem OkL.mono {k n k' n' : Nat} {ds : List D} (h : OkL k n ds) (hk : k ≤ k') (hn : n ≤ n') : OkL k' n' ds := ⟨h.pl, h.sh, h.la, Nat.le_trans h.dp hk, h.le, Nat.le_trans h.bu hn⟩
theorem Ok.int {i : Int} (h : Bd 1920 i) : Ok 0 0 (.int i) := by
 have hl : i.natAbs.log2 < 1920 := N4 (by decide) h
 refine ⟨rfl, ?_, rfl, Nat.le_refl _, ?_, Nat.le_refl _⟩
 ·simp only [D.py, PyData.showable]; exact decide_eq_true hl
 ·simp only [D.py, PyData.leavesShort, PyData.shown]
  exact decide_eq_true (cZ hl)
theorem Ok.str {x : Str} (h : PyData.strOk x = true) : Ok 0 x.length (.str x) := by
 refine ⟨rfl, rfl, ?_, Nat.le_refl _, ?_, Nat.le_refl _⟩
 ·simp only [D.py, PyData.canLay0]; exact h
 ·exact PyData.leavesShort_of_canLay0 1921 (.str x) (by simp only [PyData.canLay0]; exact h) rfl
theorem OkL.nil : OkL 0 0 [] := ⟨rfl, rfl, rfl, Nat.le_refl _, rfl, Nat.le_refl _⟩
theorem OkL.cons {k l n m : Nat} {d : D} {ds : List D} (h : Ok k n d) (hs : OkL l m ds) : OkL (max k l) (n + 1 + m) (d :: ds) := by
 refine ⟨?_, ?_, ?_, ?_, ?_, ?_⟩
 ·simp only [D.plains, h.pl, hs.pl, Bool.and_self]
 ·simp only [D.pys, PyData.showableAll, h.sh, hs.sh, Bool.and_self]
 ·simp only [D.pys, PyData.canLayAll0, h.la, hs.la, Bool.and_self]
 ·have := h.dp; have := hs.dp; simp only [D.pys, PyData.depthAll]; omega
 ·simp only [D.pys, PyData.leavesShortAll, h.le, hs.le, Bool.and_self]
 ·have := h.bu; have := hs.bu; simp only [D.pys, PyData.bulkAll]; omega
theorem Ok.lst {k n : Nat} {ds : List D} (h : OkL k n ds) : Ok (k + 1) n (.lst ds) := by
 refine ⟨?_, ?_, ?_, ?_, ?_, ?_⟩
 ·simp only [D.plain, h.pl]
 ·simp only [D.py, PyData.showable, h.sh]
 ·simp only [D.py, PyData.canLay0, h.la]
 ·have := h.dp; simp only [D.py, PyData.depth]; omega
 ·simp only [D.py, PyData.leavesShort, h.le]
 ·have := h.bu; simp only [D.py, PyData.bulk]; omega
theorem OkL.all {k n : Nat} : ∀ {ds : List D}, (∀ d ∈ ds, Ok k n d) → OkL k (ds.length * (n + 1)) ds
 | [], _ => OkL.nil.mono (by omega) (by omega)
 | d :: r, h => by
  have := (OkL.cons (h d (List.mem_cons_self ..)) (OkL.all (ds := r) fun x hx => h x (List.mem_cons_of_mem _ hx)))
  refine this.mono (by omega) ?_
  rw [List.length_cons, Nat.add_mul, Nat.one_mul]; omega
theorem Ok.show {k n : Nat} {d : D} (h : Ok k n d) (hk : k ≤ 64 := by decide) (hn : n ≤ 8000 := by decide) : r8 d = true := by
 have e := PyData.shown_le_bulk 1921 (by decide) d.py h.le
 have e2 : (1921 + 2) * d.py.bulk ≤ 1923 * 8000 := Nat.mul_le_mul (by decide) (Nat.le_trans h.bu hn)
 have : d.py.shown.length ≤ sizeLine := by rw [sizeLine_eq]; omega
 simp only [r8, h.pl, h.sh, h.la, Bool.true_and, Bool.and_true, decide_eq_true this, decide_eq_true (Nat.le_trans h.dp hk)]
end DL
namespace T
open PySem L2 DL
theorem D5 (a : Int) {b : Int} (h : b ≠ 0) : j3 (.int a) (.int b) = some (.int (a.fmod b)) := by simp [j3, h]
theorem J8 (a : Int) {b : Int} (h : n5 b = true) : v7 (.int a) (.int b) = some (.int (a.fdiv b)) := by simp [v7, h]
theorem D0 {a b : Int} (h1 : d9 a = true) (h2 : d9 b = true) : l0 (.int a) (.int b) = some (.int (a * b)) := by simp [l0, h1, h2]
theorem T1 {i : Nat} {key : Str} {fe : DE} {s s1 : DS} {d : D} {r : Option (Fl × DS)} (h : fe s = some (d, s1)) (e : o5 i key (fun _ => some (d, s1)) s = r) : o5 i key fe s = r := by
 rw [← e]
 unfold o5
 rw [h]
set_option maxHeartbeats 4000000 in
theorem gE (f : FS) (many : Int) (hm : 0 < many) (hm2 : many < 2 ^ 100) (ht : 0 ≤ f.turn) (ht2 : f.turn < 2 ^ 40) (hk : f.kind = 0) :
  ∃ r f', A4 [.feed, .int many] (some f) = some (.int r, some f') ∧ 0 ≤ r ∧ r < many ∧ f'.turn = f.turn + 1 ∧ f'.kind = 0 := by
 have dm : n5 many = true := fW (by omega) (by omega)
 have hne : many ≠ 0 := by omega
 obtain ⟨cs, ps, lf, tn, kd⟩ := f
 simp only at ht ht2 hk ⊢
 subst hk
 by_cases hl : 0 < lf
 ·refine ⟨lf.fmod many, ⟨cs, ps, lf.fdiv many, tn + 1, 0⟩, ?_, (t6 hm).1, (t6 hm).2, rfl, rfl⟩
  refine E9 (s := ⟨[.val .feed, .val (.int many), .val (.int (tn + 1)), .val (.int (lf.fmod many)), .no, .no, .no], some ⟨cs, ps, lf.fdiv many, tn + 1, 0⟩⟩) ?_
  show w4 ⟨[.val .feed, .val (.int many), .no, .no, .no, .no, .no], some ⟨cs, ps, lf, tn, 0⟩⟩ = _
  unfold w4
  rw [l5 (s1 := ⟨[.val .feed, .val (.int many), .val (.int (tn + 1)), .no, .no, .no, .no], some ⟨cs, ps, lf, tn, 0⟩⟩) (F5 (f9 rfl rfl rfl) rfl), l5 (s1 := ⟨[.val .feed, .val (.int many), .val (.int (tn + 1)), .no, .no, .no, .no], some ⟨cs, ps, lf, tn + 1, 0⟩⟩) rfl]
  have c0 : dB (a5 (j6 (fun i j => decide (j < i))) (g0 0 "left") (dC (.int 0))) ⟨[.val .feed, .val (.int many), .val (.int (tn + 1)), .no, .no, .no, .no], some ⟨cs, ps, lf, tn + 1, 0⟩⟩ = some (true, ⟨[.val .feed, .val (.int many), .val (.int (tn + 1)), .no, .no, .no, .no], some ⟨cs, ps, lf, tn + 1, 0⟩⟩) := by
   rw [← decide_eq_true hl]; rfl
  refine bK ?_
  rw [bD c0, l5 (s1 := ⟨[.val .feed, .val (.int many), .val (.int (tn + 1)), .val (.int (lf.fmod many)), .no, .no, .no], some ⟨cs, ps, lf, tn + 1, 0⟩⟩) (F5 (f9 rfl rfl (D5 lf hne)) rfl),
   l5 (s1 := ⟨[.val .feed, .val (.int many), .val (.int (tn + 1)), .val (.int (lf.fmod many)), .no, .no, .no], some ⟨cs, ps, lf.fdiv many, tn + 1, 0⟩⟩) (T1 (f9 rfl rfl (J8 lf dm)) rfl)]
  rfl
 ·-- the cell
  have cell : ∃ c : Int, ∀ a b e x y z : Sl, C9 (dB (a5 (j6 (fun i j => decide (j < i))) (i4 (one n3) (a0 (dL 4) a9)) (dC (.int 0)))) (a5 d6 (dL 4) (a5 j3 (g0 0 "at") (i4 (one n3) (a0 (dL 4) a9)))) (dC (.int 0)) ⟨[.val .feed, a, b, e, .val (.lst (cs.map .int)), x, y], some ⟨cs, ps, lf, tn + 1, 0⟩⟩ =
    some (.int c, ⟨[.val .feed, a, b, e, .val (.lst (cs.map .int)), x, y], some ⟨cs, ps, lf, tn + 1, 0⟩⟩) := by
   by_cases hc : 0 < cs.length
   ·have hi := t6 (a := ps) (b := (cs.length : Int)) (by omega)
    obtain ⟨c, hg⟩ : ∃ c : Int, l7 (cs.map D.int) (ps.fmod (cs.length : Int)) = some (.int c) := by
     have : (ps.fmod (cs.length : Int)).toNat < cs.length := by omega
     refine ⟨cs[(ps.fmod (cs.length : Int)).toNat], ?_⟩
     rw [iH hi.1 (by rw [List.length_map]; exact hi.2), List.getElem?_map, List.getElem?_eq_getElem this]
     rfl
    refine ⟨c, fun a b e x y z => ?_⟩
    have hn : cs ≠ [] := by intro z; rw [z] at hc; simp at hc
    simp [C9, dB, a5, i4, one, n3, a0, a9, dL, dC, j6, g0, bp, j3, d6, hn, hc, hg]
   ·refine ⟨0, fun a b e x y z => ?_⟩
    have hz : cs = [] := List.eq_nil_of_length_eq_zero (by omega)
    subst hz
    simp [C9, dB, a5, i4, one, n3, a0, a9, dL, dC, j6]
  obtain ⟨c, hcell⟩ := cell
  have hc1 := t6 (a := c) (b := 1000003) (by decide)
  have pre : ∀ rest : DM, c6 (e8 (a5 n4 (g0 0 "turn") (dC (.int 1))) (d7 2)) (c6 (o5 0 "turn" (dV 2)) (c6 (k8 (dB (a5 (j6 (fun i j => decide (j < i))) (g0 0 "left") (dC (.int 0)))) (c6 (e8 (a5 j3 (g0 0 "left") (dL 1)) (d7 3)) (c6 (o5 0 "left" (a5 v7 (g0 0 "left") (dL 1))) (j5 (dV 3)))) u4)
    (c6 (e8 (g0 0 "cells") (d7 4)) (c6 (e8 (C9 (dB (a5 (j6 (fun i j => decide (j < i))) (i4 (one n3) (a0 (dL 4) a9)) (dC (.int 0)))) (a5 d6 (dL 4) (a5 j3 (g0 0 "at") (i4 (one n3) (a0 (dL 4) a9)))) (dC (.int 0))) (d7 5)) (c6 (o5 0 "at" (a5 n4 (g0 0 "at") (dC (.int 1)))) rest)))))
    ⟨[.val .feed, .val (.int many), .no, .no, .no, .no, .no], some ⟨cs, ps, lf, tn, 0⟩⟩ = rest ⟨[.val .feed, .val (.int many), .val (.int (tn + 1)), .no, .val (.lst (cs.map .int)), .val (.int c), .no], some ⟨cs, ps + 1, lf, tn + 1, 0⟩⟩ := fun rest => by
   rw [l5 (s1 := ⟨[.val .feed, .val (.int many), .val (.int (tn + 1)), .no, .no, .no, .no], some ⟨cs, ps, lf, tn, 0⟩⟩) (F5 (f9 rfl rfl rfl) rfl)]
   rw [l5 (s1 := ⟨[.val .feed, .val (.int many), .val (.int (tn + 1)), .no, .no, .no, .no], some ⟨cs, ps, lf, tn + 1, 0⟩⟩) rfl]
   rw [l5 (s1 := ⟨[.val .feed, .val (.int many), .val (.int (tn + 1)), .no, .no, .no, .no], some ⟨cs, ps, lf, tn + 1, 0⟩⟩) (by
    have c0 : dB (a5 (j6 (fun i j => decide (j < i))) (g0 0 "left") (dC (.int 0))) ⟨[.val .feed, .val (.int many), .val (.int (tn + 1)), .no, .no, .no, .no], some ⟨cs, ps, lf, tn + 1, 0⟩⟩ = some (false, ⟨[.val .feed, .val (.int many), .val (.int (tn + 1)), .no, .no, .no, .no], some ⟨cs, ps, lf, tn + 1, 0⟩⟩) := by
     rw [← decide_eq_false hl]; rfl
    rw [X4 c0]; rfl)]
   rw [l5 (s1 := ⟨[.val .feed, .val (.int many), .val (.int (tn + 1)), .no, .val (.lst (cs.map .int)), .no, .no], some ⟨cs, ps, lf, tn + 1, 0⟩⟩) rfl]
   rw [l5 (eJ (hcell _ _ _ _ _ .no))]
   rw [l5 (s1 := ⟨[.val .feed, .val (.int many), .val (.int (tn + 1)), .no, .val (.lst (cs.map .int)), .val (.int c), .no], some ⟨cs, ps + 1, lf, tn + 1, 0⟩⟩) (T1 (f9 rfl rfl rfl) rfl)]
  have test : E3 (dB (a5 (j6 (fun i j => decide (j ≤ i))) (dL 5) (a5 D9 (dC (.int 10)) (dC (.int 18))))) (dB (a5 (j6 (fun i j => decide (i ≤ j))) (g0 0 "at") (i4 (one n3) (a0 (dL 4) a9)))) ⟨[.val .feed, .val (.int many), .val (.int (tn + 1)), .no, .val (.lst (cs.map .int)), .val (.int c), .no], some ⟨cs, ps + 1, lf, tn + 1, 0⟩⟩ =
    some (decide (1000000000000000000 ≤ c) && decide (ps + 1 ≤ (cs.length : Int)), ⟨[.val .feed, .val (.int many), .val (.int (tn + 1)), .no, .val (.lst (cs.map .int)), .val (.int c), .no], some ⟨cs, ps + 1, lf, tn + 1, 0⟩⟩) := by
   by_cases h1 : 1000000000000000000 ≤ c
   ·simp [E3, dB, a5, dL, dC, D9, j6, g0, bp, i4, one, n3, a0, a9, h1]
   ·simp [E3, dB, a5, dL, dC, D9, j6, h1]
  by_cases hb : (decide (1000000000000000000 ≤ c) && decide (ps + 1 ≤ (cs.length : Int))) = true
  ·refine ⟨c.fmod many, ⟨cs, ps + 1, c.fdiv many, tn + 1, 0⟩, E9 (s := ⟨[.val .feed, .val (.int many), .val (.int (tn + 1)), .no, .val (.lst (cs.map .int)), .val (.int c), .no], some ⟨cs, ps + 1, c.fdiv many, tn + 1, 0⟩⟩) ?_, (t6 hm).1, (t6 hm).2, rfl, rfl⟩
   show w4 ⟨[.val .feed, .val (.int many), .no, .no, .no, .no, .no], some ⟨cs, ps, lf, tn, 0⟩⟩ = _
   unfold w4
   rw [pre]
   rw [hb] at test
   refine bK ?_
   rw [bD test]
   rw [l5 (s1 := ⟨[.val .feed, .val (.int many), .val (.int (tn + 1)), .no, .val (.lst (cs.map .int)), .val (.int c), .no], some ⟨cs, ps + 1, c.fdiv many, tn + 1, 0⟩⟩) (T1 (f9 rfl rfl (J8 c dm)) rfl)]
   exact aA (f9 rfl rfl (D5 c hne))
  ·have q : ∃ M : Int, e8 (a5 j3 (a5 l0 (a5 n4 (a5 n4 (a5 n4 (a5 j3 (dL 5) (dC (.int 1000003))) (a5 l0 (a5 l0 (dC (.int 31)) (dL 2)) (dL 2))) (a5 l0 (dC (.int 7)) (dL 2))) (dC (.int 11))) (dC (.int 48271))) (dC (.int 2147483647))) (d7 6)
     ⟨[.val .feed, .val (.int many), .val (.int (tn + 1)), .no, .val (.lst (cs.map .int)), .val (.int c), .no], some ⟨cs, ps + 1, lf, tn + 1, 0⟩⟩ = some (.next, ⟨[.val .feed, .val (.int many), .val (.int (tn + 1)), .no, .val (.lst (cs.map .int)), .val (.int c), .val (.int M)], some ⟨cs, ps + 1, lf, tn + 1, 0⟩⟩) ∧ 0 ≤ M ∧ M < 2147483647 := by
    have b1 : d9 31 = true := by decide
    have b2 : d9 (tn + 1) = true := E4 (by omega)
    have p1 : (tn + 1) * 31 ≤ 2 ^ 40 * 31 := Int.mul_le_mul_of_nonneg_right (by omega) (by decide)
    have b3 : d9 (31 * (tn + 1)) = true := E4 (by omega)
    have p2 : 0 ≤ 31 * (tn + 1) * (tn + 1) := Int.mul_nonneg (by omega) (by omega)
    have p3 : 31 * (tn + 1) * (tn + 1) ≤ 31 * 2 ^ 40 * 2 ^ 40 := Int.mul_le_mul (by omega) (by omega) (by omega) (by decide)
    have b4 : d9 (c.fmod 1000003 + 31 * (tn + 1) * (tn + 1) + 7 * (tn + 1) + 11) = true := E4 (by omega)
    have b5 : d9 48271 = true := by decide
    have b6 : d9 7 = true := by decide
    refine ⟨((c.fmod 1000003 + 31 * (tn + 1) * (tn + 1) + 7 * (tn + 1) + 11) * 48271).fmod 2147483647, ?_, t6 (by decide)⟩
    exact F5 (f9 (f9 (f9 (f9 (f9 (f9 rfl rfl (D5 c (by decide))) (f9 (f9 rfl rfl (D0 b1 b2)) rfl (D0 b3 b2)) rfl) (f9 rfl rfl (D0 b6 b2)) rfl) rfl rfl) rfl (D0 b4 b5)) rfl (D5 _ (by decide))) rfl
   obtain ⟨M, e1, m1, m2⟩ := q
   have hM := Int.fdiv_eq_ediv_of_nonneg M (show (0 : Int) ≤ 64 by decide)
   have b7 : d9 (M.fdiv 64) = true := E4 (by rw [hM]; omega)
   have b8 : d9 69621 = true := by decide
   have b9 : d9 7919 = true := by decide
   have b10 : d9 (tn + 1) = true := E4 (by omega)
   have d64 : n5 64 = true := by decide
   refine ⟨(((M.fdiv 64 * 69621 + 7919 * (tn + 1)).fmod 2147483587).fdiv 64).fmod many, ⟨cs, ps + 1, lf, tn + 1, 0⟩, E9 (s := ⟨[.val .feed, .val (.int many), .val (.int (tn + 1)), .no, .val (.lst (cs.map .int)), .val (.int c), .val (.int ((M.fdiv 64 * 69621 + 7919 * (tn + 1)).fmod 2147483587))], some ⟨cs, ps + 1, lf, tn + 1, 0⟩⟩) ?_, (t6 hm).1, (t6 hm).2, rfl, rfl⟩
   show w4 ⟨[.val .feed, .val (.int many), .no, .no, .no, .no, .no], some ⟨cs, ps, lf, tn, 0⟩⟩ = _
   unfold w4
   rw [pre]
   have hb' : (decide (1000000000000000000 ≤ c) && decide (ps + 1 ≤ (cs.length : Int))) = false := by simpa using hb
   rw [hb'] at test
   rw [l5 (by rw [X4 test]; rfl)]
   rw [l5 e1]
   rw [l5 (s1 := ⟨[.val .feed, .val (.int many), .val (.int (tn + 1)), .no, .val (.lst (cs.map .int)), .val (.int c), .val (.int ((M.fdiv 64 * 69621 + 7919 * (tn + 1)).fmod 2147483587))], some ⟨cs, ps + 1, lf, tn + 1, 0⟩⟩) (F5 (f9 (f9 (f9 (f9 rfl rfl (J8 M d64)) rfl (D0 b7 b8)) (f9 rfl rfl (D0 b9 b10)) rfl) rfl (D5 _ (by decide))) rfl)]
   exact aA (f9 (f9 rfl rfl (J8 _ d64)) rfl (D5 _ hne))
noncomputable def Fd (n : Nat) (f : FS) : Prop := 0 ≤ f.turn ∧ f.turn ≤ n ∧ f.kind = 0
theorem Fd.mono {n m : Nat} {f : FS} (h : Fd n f) (hm : n ≤ m) : Fd m f := ⟨h.1, by have := h.2.1; omega, h.2.2⟩
theorem aL {n : Nat} {f : FS} (many : Int) (h : Fd n f) (hm : 0 < many := by first | decide | omega) (hn : n < 2 ^ 30 := by omega) (hm2 : many < 2 ^ 100 := by first | decide | omega) :
  ∃ r f', A4 [.feed, .int many] (some f) = some (.int r, some f') ∧ 0 ≤ r ∧ r < many ∧ Fd (n + 1) f' := by
 obtain ⟨r, f', e, h0, h1, h2, h3⟩ := gE f many hm hm2 h.1 (by have := h.2.1; omega) h.2.2
 exact ⟨r, f', e, h0, h1, by have := h.1; omega, by have := h.2.1; omega, h3⟩
theorem gN (ns : List Int) (h : ns.length ≤ 63) : D8 [.scr ns] none = some (.feed, some ⟨ns, 0, 0, 0, 0⟩) := by
 refine E9 (s := ⟨[.val (.scr ns)], some ⟨ns, 0, 0, 0, 0⟩⟩) ?_
 show T4 ⟨[.val (.scr ns)], none⟩ = _
 simp [T4, j5, J9]
theorem Fd.zero (ns : List Int) : Fd 0 ⟨ns, 0, 0, 0, 0⟩ := ⟨by simp, by simp, rfl⟩
end T
namespace DL
open PySem L2
theorem O8 {t : D → DS → Option DS} {b : DM} (P : Nat → DS → Prop) : ∀ (ds : List D) (n : Nat) (s : DS), P n s → (∀ i d s, ds[i]? = some d → P (n + i) s → ∃ s1 s2, t d s = some s1 ∧ (b s1 = some (.next, s2) ∨ b s1 = some (.cont, s2)) ∧ P (n + i + 1) s2) →
  ∃ s', m9 t b ds s = some (.next, s') ∧ P (n + ds.length) s'
 | [], n, s, h, _ => ⟨s, rfl, h⟩
 | d :: r, n, s, h, k => by
  obtain ⟨s1, s2, e1, e2, h2⟩ := k 0 d s rfl h
  obtain ⟨s', e3, h3⟩ := O8 P r (n + 1) s2 h2 (fun i d' s hd hp => by
   have := k (i + 1) d' s (by simpa using hd) (by rwa [show n + 1 + i = n + (i + 1) by omega] at hp)
   rwa [show n + (i + 1) + 1 = n + 1 + i + 1 by omega] at this)
  refine ⟨s', ?_, by rw [List.length_cons, show n + (r.length + 1) = n + 1 + r.length by omega]; exact h3⟩
  rw [m9, e1]
  rcases e2 with e2 | e2 <;> simp [e2, e3]
theorem bq {lo : Int} {n i : Nat} {d : D} (h : (k7 lo n)[i]? = some d) : d = .int (lo + i) ∧ i < n := by
 have hi : i < n := by have := (List.getElem?_eq_some_iff.mp h).1; rwa [K6] at this
 rw [S4 hi] at h
 cases h
 exact ⟨rfl, hi⟩
theorem bt {n : Nat} (h : n < 2 ^ 30) : C8 [.int (n : Int)] = some (k7 0 n) := by
 have : -(2 ^ 62) ≤ (n : Int) ∧ (n : Int) < 2 ^ 62 := by omega
 simp only [C8, if_pos this, Int.toNat_natCast]
end DL
namespace T
open PySem L2 DL
theorem cT {k : Nat} {i : Int} (h : i.natAbs < 2 ^ k) : Bd k i := h
section
variable {a b : DM} {c c' : DT} {e e' : DE} {f : DA} {s s1 s2 : DS} {d x y w : D} {ds xs : List D} {r : Option (Fl × DS)} {q : Option (D × DS)} {v : Option (Bool × DS)} {fs fs' : Option FS} {sl : List Sl} {m : c7} {p : D → D → Option D} {p1 : D → Option D} {pl : List D → Option D} {n : Nat} {t : D → DS → Option DS} {B : Bool}
theorem l4 (h : a s = some (.next, s1)) (k : b s1 = r) : c6 a b s = r := by simp [c6, h, K9, k]
theorem E2 (h : c s = some (false, s1)) (k : b s1 = r) : k8 c a b s = r := by simp [k8, h, k]
theorem R9 (h1 : e s = some (d, s1)) (h2 : t d s1 = some s2) : e8 e t s = some (.next, s2) := by simp [e8, h1, h2]
theorem F8 (h1 : e s = some (x, s1)) (h2 : e' s1 = some (y, s2)) (h3 : p x y = some w) : a5 p e e' s = some (w, s2) := by simp [a5, h1, h2, h3]
theorem O5 (h1 : e s = some (x, s1)) (h3 : p1 x = some w) : c8 p1 e s = some (w, s1) := by simp [c8, h1, h3]
theorem F4 (h1 : f s = some (xs, ⟨sl, fs⟩)) (h2 : m xs fs = some (d, fs')) : o9 m f s = some (d, ⟨sl, fs'⟩) := by simp [o9, h1, h2]
theorem E1 (h1 : e s = some (x, s1)) (h2 : f s1 = some (xs, s2)) : a0 e f s = some (x :: xs, s2) := by simp [a0, h1, h2]
theorem M6 (h : f s = some (xs, s1)) (k : pl xs = some d) : i4 pl f s = some (d, s1) := by simp [i4, h, k]
theorem L6 (h : e s = some (.bl B, s1)) : dB e s = some (B, s1) := by simp [dB, h]
theorem S9 (h : e s = some (x, s1)) (k : Y3 x = some B) : D7 e s = some (B, s1) := by simp [D7, h, k]
theorem U7 (h : c s = some (true, s1)) : D2 c s = some (false, s1) := by simp [D2, h]
theorem az (h : c s = some (false, s1)) (k : c' s1 = v) : F7 c c' s = v := by simp [F7, h, k]
theorem Y4 (h : f s = some (xs, s1)) (h2 : C8 xs = some ds) (k : m9 t a ds s1 = r) : F2 f t a s = r := by simp only [F2, h, Option.bind_some, h2, k]
end
noncomputable abbrev ah : DM := V4 w5 A4 D8
noncomputable abbrev O0 : DM := bB w5 A4 D8
noncomputable def v8 (i : Int) : Str := if i = 0 then "shape" else if i = 1 then "place" else if i = 2 then "lack" else ""
noncomputable def K2 (w : Str) (n : Int) : List D := [.exc "NoJoin" [.str w], .exc "NoOutline" [.str w, .int n], .exc "NoPaper" [.str w, .int n], .exc "NoRow" [], .exc "NoText" [.int n]]
theorem cx (i : Fin 6) (w : Str) (n : Int) (fs : Option FS) (x : D) (h : (K2 w n ++ [.exc "TooMany" [.str w]])[i.1]? = some x) : w5 [x] fs = some (.lst ((List.range 6).map fun j => D.bl (decide (j = i.1))), fs) := by
 match i with
 | 0 => cases h; rfl
 | 1 => cases h; rfl
 | 2 => cases h; rfl
 | 3 => cases h; rfl
 | 4 => cases h; rfl
 | 5 => cases h; rfl
noncomputable abbrev i6 (w : Str) (n : Int) (x0 x1 x2 x3 x4 x6 x7 x8 x9 x10 : Sl) (fs : Option FS) : DS := ⟨[x0, x1, x2, x3, x4, .own (K2 w n ++ [.exc "TooMany" [.str w]]), x6, x7, x8, x9, x10], fs⟩
noncomputable def J2 (i : Nat) : List D := (List.range 6).map fun j => D.bl (decide (j = i))
theorem fY (i : Fin 6) : u9 (.lst (J2 i.1)) (.lst (J2 i.1)) = some (.bl false) := by
 match i with
 | 0 => rfl
 | 1 => rfl
 | 2 => rfl
 | 3 => rfl
 | 4 => rfl
 | 5 => rfl
theorem dN (w : Str) (n : Int) (x0 x1 x2 x3 x4 x7 x8 x9 x10 : Sl) (fs : Option FS) (i : Fin 6) :
  m6 (M8 [6] (U3 (a0 (dC (.int 6)) a9)) Q7 (a5 E7 (dL 0) (dL 1))) (i6 w n x0 x1 x2 x3 x4 (.val (.int i.1)) x7 x8 x9 x10 fs) = some (.lst (J2 i.1), i6 w n x0 x1 x2 x3 x4 (.val (.int i.1)) x7 x8 x9 x10 fs) := by
 match i with
 | 0 => rfl
 | 1 => rfl
 | 2 => rfl
 | 3 => rfl
 | 4 => rfl
 | 5 => rfl
noncomputable def K4 (w : Str) (n : Int) : Fin 6 → D
 | 0 => .exc "NoJoin" [.str w]
 | 1 => .exc "NoOutline" [.str w, .int n]
 | 2 => .exc "NoPaper" [.str w, .int n]
 | 3 => .exc "NoRow" []
 | 4 => .exc "NoText" [.int n]
 | 5 => .exc "TooMany" [.str w]
theorem fh (w : Str) (n : Int) (x0 x1 x2 x3 x4 x7 x8 x9 x10 : Sl) (fs : Option FS) (i : Fin 6) :
  a5 d6 (dL 5) (dL 6) (i6 w n x0 x1 x2 x3 x4 (.val (.int i.1)) x7 x8 x9 x10 fs) = some (K4 w n i, i6 w n x0 x1 x2 x3 x4 (.val (.int i.1)) x7 x8 x9 x10 fs) := by
 match i with
 | 0 => rfl
 | 1 => rfl
 | 2 => rfl
 | 3 => rfl
 | 4 => rfl
 | 5 => rfl
noncomputable abbrev V8 : List Str := ["WideError", "NoPaper", "NoOutline", "NoJoin", "TooMany", "NoText", "NoRow"]
theorem aW (w : Str) (n : Int) (i : Fin 6) : o8 V8 "WideError" (K4 w n i) = some (.bl true) ∧ G3 V8 (K4 w n i) = some (.bl true) := by
 match i with
 | 0 => exact ⟨rfl, rfl⟩
 | 1 => exact ⟨rfl, rfl⟩
 | 2 => exact ⟨rfl, rfl⟩
 | 3 => exact ⟨rfl, rfl⟩
 | 4 => exact ⟨rfl, rfl⟩
 | 5 => exact ⟨rfl, rfl⟩
theorem bU (w : Str) (n : Int) (i : Fin 6) (fs : Option FS) : w5 [K4 w n i] fs = some (.lst (J2 i.1), fs) := cx i w n fs _ (by
 match i with
 | 0 => rfl
 | 1 => rfl
 | 2 => rfl
 | 3 => rfl
 | 4 => rfl
 | 5 => rfl)
theorem js (w : Str) (n : Int) (x0 x1 x2 x3 x4 x7 x8 x9 x10 : Sl) (fs : Option FS) (i : Fin 6) :
  O0 (i6 w n x0 x1 x2 x3 x4 (.val (.int i.1)) x7 x8 x9 x10 fs) = some (.next, i6 w n x0 x1 x2 x3 x4 (.val (.int i.1)) x7 x8 x9 x10 fs) := by
 have g := fh w n x0 x1 x2 x3 x4 x7 x8 x9 x10 fs i
 exact l4 (E2 (az (U7 (S9 (O5 g (aW w n i).1) rfl)) (U7 (S9 (O5 g (aW w n i).2) rfl))) rfl) (E2 (L6 (F8 (F4 (E1 g rfl) (bU w n i fs)) (dN w n x0 x1 x2 x3 x4 x7 x8 x9 x10 fs i) (fY i))) rfl)
theorem fH (w : Str) (n : Int) (x0 x1 x2 x3 x4 x6 x7 x8 x9 x10 : Sl) (fs : Option FS) :
  ∃ y, m9 (d7 6) O0 (k7 0 6) (i6 w n x0 x1 x2 x3 x4 x6 x7 x8 x9 x10 fs) = some (.next, i6 w n x0 x1 x2 x3 x4 y x7 x8 x9 x10 fs) := by
 obtain ⟨s', e, y, rfl⟩ := O8 (t := d7 6) (b := O0) (fun i s => ∃ y, s = i6 w n x0 x1 x2 x3 x4 y x7 x8 x9 x10 fs) (k7 0 6) 0 (i6 w n x0 x1 x2 x3 x4 x6 x7 x8 x9 x10 fs) ⟨_, rfl⟩ (by
  rintro i d s hd ⟨y, rfl⟩
  obtain ⟨rfl, hi⟩ := bq hd
  have e := js w n x0 x1 x2 x3 x4 x7 x8 x9 x10 fs ⟨i, hi⟩
  rw [Int.zero_add]
  exact ⟨_, _, rfl, .inl e, _, rfl⟩)
 exact ⟨y, e⟩
noncomputable def B0 : List D := [.exc "NoPaper" [.non, .lst [.int 1]], .exc "NoOutline" [.tup [.int 0], .str "x"], .exc "NoJoin" [.lst [.int 0]], .exc "NoText" [.non], .exc "TooMany" [.bl true]]
noncomputable def o6 : List D := [.non, .lst [.int 1], .tup [.int 0], .str "x", .lst [.int 0], .non, .bl true]
theorem gZ : r8 (.lst o6) = true := by decide +kernel
theorem jd : u7 (.lst o6) = some (.str (D.py (.lst o6)).shown) := bf gZ
noncomputable def C0 (w : Str) (n : Int) : List D := [.str w, .str w, .int n, .str w, .int n, .int n, .str w]
theorem cj (i : Int) (n : Int) (h0 : 0 ≤ n) (h1 : n < 1000000) : r8 (.lst (C0 (v8 i) n)) = true := by
 have w1 : Ok 0 (v8 i).length (.str (v8 i)) := Ok.str (by unfold v8; split; decide +kernel; split; decide +kernel; split <;> decide +kernel)
 have w2 : (v8 i).length ≤ 8 := by unfold v8; split; decide +kernel; split; decide +kernel; split <;> decide +kernel
 have w := w1.mono (Nat.le_refl _) w2
 have z : Ok 0 8 (.int n) := (Ok.int (cT (by omega))).mono (Nat.le_refl _) (by decide)
 exact (Ok.lst (OkL.all (k := 0) (n := 8) fun d hd => by
  simp only [C0, List.mem_cons, List.not_mem_nil, or_false] at hd
  rcases hd with rfl | rfl | rfl | rfl | rfl | rfl | rfl <;> assumption)).show (by decide) (show 7 * 9 ≤ 8000 by decide)
theorem aZ (x : Str) : u9 (.str x) (.str x) = some (.bl false) := by rw [cU]; simp
theorem eP (fs : Option FS) : w5 [.exc "WideError" []] fs = some (.lst [.bl false, .bl false, .bl false, .bl false, .bl false, .bl false], fs) := rfl
theorem cV {r : Int} (h0 : 0 ≤ r) (h1 : r < 4) : d6 (.lst [.str "shape", .str "place", .str "lack", .str ""]) (.int r) = some (.str (v8 r)) := by
 have : r = 0 ∨ r = 1 ∨ r = 2 ∨ r = 3 := by omega
 rcases this with rfl | rfl | rfl | rfl <;> rfl
theorem eu {k : Nat} {f : FS} (h : Fd k f) (hk : k < 2 ^ 28) (x0 x2 x3 x4 x5 x6 x7 x8 x9 x10 : Sl) :
  ∃ y3 y4 y5 y6 y7 y8 y9 y10 f', ah ⟨[x0, .val .feed, x2, x3, x4, x5, x6, x7, x8, x9, x10], some f⟩ = some (.next, ⟨[x0, .val .feed, x2, y3, y4, y5, y6, y7, y8, y9, y10], some f'⟩) ∧ Fd (k + 2) f' := by
 obtain ⟨n, f1, e1, a1, a2, h1⟩ := aL 1000000 h
 obtain ⟨r, f2, e2, b1, b2, h2⟩ := aL 4 h1
 have sF := bf (cj r n a1 a2)
 have pk := cV b1 b2
 have sR := jd
 generalize v8 r = w at *
 obtain ⟨y, e5⟩ := fH w n x0 (.val .feed) x2 (.val (.int n)) (.val (.str w)) x6 x7 x8 x9 x10 (some f2)
 refine ⟨.val (.int n), .val (.str w), .own (K2 w n ++ [.exc "TooMany" [.str w]]), y, .own B0, .own o6, .val (.exc "WideError" []), .own (C0 w n), f2, ?_, h2⟩
 refine l4 (s1 := ⟨[x0, .val .feed, x2, .val (.int n), x4, x5, x6, x7, x8, x9, x10], some f1⟩) (R9 (F4 (E1 rfl rfl) e1) rfl) ?_
 refine l4 (s1 := ⟨[x0, .val .feed, x2, .val (.int n), .val (.str w), x5, x6, x7, x8, x9, x10], some f2⟩) (R9 (F8 (x := .lst [.str "shape", .str "place", .str "lack", .str ""]) rfl (F4 (E1 rfl rfl) e2) pk) rfl) ?_
 refine l4 (s1 := ⟨[x0, .val .feed, x2, .val (.int n), .val (.str w), .own (K2 w n), x6, x7, x8, x9, x10], some f2⟩) rfl ?_
 refine l4 (s1 := i6 w n x0 (.val .feed) x2 (.val (.int n)) (.val (.str w)) x6 x7 x8 x9 x10 (some f2)) rfl ?_
 refine l4 (s1 := i6 w n x0 (.val .feed) x2 (.val (.int n)) (.val (.str w)) y x7 x8 x9 x10 (some f2)) (Y4 rfl (bt (n := 6) (by decide)) e5) ?_
 refine l4 (s1 := i6 w n x0 (.val .feed) x2 (.val (.int n)) (.val (.str w)) y (.own B0) x8 x9 x10 (some f2)) rfl ?_
 refine l4 (s1 := i6 w n x0 (.val .feed) x2 (.val (.int n)) (.val (.str w)) y (.own B0) (.own o6) x9 x10 (some f2)) rfl ?_
 refine l4 (s1 := i6 w n x0 (.val .feed) x2 (.val (.int n)) (.val (.str w)) y (.own B0) (.own o6) x9 x10 (some f2)) (E2 (L6 (F8 (M6 (xs := [.lst o6]) rfl sR) (M6 (xs := [.lst o6]) rfl sR) (aZ _))) rfl) ?_
 refine l4 (s1 := i6 w n x0 (.val .feed) x2 (.val (.int n)) (.val (.str w)) y (.own B0) (.own o6) (.val (.exc "WideError" [])) x10 (some f2)) rfl ?_
 refine l4 (s1 := i6 w n x0 (.val .feed) x2 (.val (.int n)) (.val (.str w)) y (.own B0) (.own o6) (.val (.exc "WideError" [])) x10 (some f2)) (E2 (az (U7 (S9 (O5 rfl rfl) rfl)) (L6 (F8 rfl (F4 (E1 rfl rfl) (eP _)) rfl))) rfl) ?_
 refine l4 (s1 := i6 w n x0 (.val .feed) x2 (.val (.int n)) (.val (.str w)) y (.own B0) (.own o6) (.val (.exc "WideError" [])) (.own (C0 w n)) (some f2)) rfl ?_
 exact E2 (L6 (F8 (M6 (xs := [.lst (C0 w n)]) rfl sF) (M6 (xs := [.lst (C0 w n)]) rfl sF) (aZ _))) rfl
theorem math (ns : List Int) (hl : ns.length ≤ 63) : ∃ fs', Q3 w5 A4 D8 [.scr ns] none = some (.bl true, fs') := by
 obtain ⟨s', e, x2, x3, x4, x5, x6, x7, x8, x9, x10, f', rfl, hf⟩ := O8 (t := d7 2) (b := ah) (fun i s => ∃ x2 x3 x4 x5 x6 x7 x8 x9 x10 f, s = ⟨[.val (.scr ns), .val .feed, x2, x3, x4, x5, x6, x7, x8, x9, x10], some f⟩ ∧ Fd (2 * i) f) (k7 0 3) 0
  ⟨[.val (.scr ns), .val .feed, .no, .no, .no, .no, .no, .no, .no, .no, .no], some ⟨ns, 0, 0, 0, 0⟩⟩ ⟨_, _, _, _, _, _, _, _, _, _, rfl, Fd.zero ns⟩ (by
   rintro i d s hd ⟨x2, x3, x4, x5, x6, x7, x8, x9, x10, f, rfl, hf⟩
   obtain ⟨rfl, hi⟩ := bq hd
   obtain ⟨y3, y4, y5, y6, y7, y8, y9, y10, f', e, h'⟩ := eu hf (by omega) (.val (.scr ns)) (.val (.int (0 + (i : Int)))) x3 x4 x5 x6 x7 x8 x9 x10
   exact ⟨_, _, rfl, .inl e, _, _, _, _, _, _, _, _, _, f', rfl, h'.mono (by omega)⟩)
 refine ⟨_, E9 (s := ⟨[.val (.scr ns), .val .feed, x2, x3, x4, x5, x6, x7, x8, x9, x10], some f'⟩) ?_⟩
 show R5 _ _ _ ⟨[.val (.scr ns), .no, .no, .no, .no, .no, .no, .no, .no, .no, .no], none⟩ = _
 unfold R5
 have fd := gN ns hl
 refine l4 (s1 := ⟨[.val (.scr ns), .val .feed, .no, .no, .no, .no, .no, .no, .no, .no, .no], some ⟨ns, 0, 0, 0, 0⟩⟩) (R9 (F4 (E1 rfl rfl) fd) rfl) ?_
 refine l4 (Y4 rfl (bt (n := 3) (by decide)) e) rfl
end T
namespace T
open PySem PySem.Spec L2 DL
local macro_rules | `(tactic| wtm_at "c") => `(tactic| first | with_reducible exact cO | with_reducible exact dG | with_reducible exact fM | (with_reducible apply ig); exact J7 (by assumption) | (with_reducible apply aK); exact J7 (by assumption) | (with_reducible apply gX); exact J7 (by assumption))
local macro_rules | `(tactic| wtm_at "o") => `(tactic| first | with_reducible exact gY | with_reducible exact fA | with_reducible exact ez | with_reducible exact jv | with_reducible exact eZ | with_reducible exact Q1)
local macro_rules | `(tactic| wtm_at "q") => `(tactic| first | with_reducible exact eg | with_reducible exact iB | with_reducible exact eG | with_reducible exact dy | with_reducible exact ja | with_reducible exact Y9)
local macro_rules | `(tactic| wtm_at "r") => `(tactic| first | with_reducible exact dW _ | with_reducible exact fD | with_reducible exact W0 | with_reducible exact fF)
local macro_rules | `(tactic| wtm_at "k") => `(tactic| first | with_reducible exact dJ | (focus (with_reducible apply bX);exact hJ (by assumption);exact (by assumption : Room _ _).gd))
local macro_rules | `(tactic| wtm_at "m") => `(tactic| first | with_reducible exact eR | with_reducible exact eT)
local macro_rules | `(tactic| wtm_at "b") => `(tactic| first | exact Blt.isinstance (by assumption) | exact Blt.len (by assumption) | exact Blt.range (by assumption) | exact Blt.repr (by assumption))
local macro_rules | `(tactic| wtm_at "t") => `(tactic| first | exact jk | exact fL)
local macro_rules | `(tactic| wtm_at "n") => `(tactic| first | exact l8 | (refine i9 ?_);wtm_at "n")
local macro_rules | `(tactic| wtm_at "l") => `(tactic| first | exact Or.inl rfl | exact Or.inr rfl)
local macro_rules | `(tactic| wtm_at "x") => `(tactic| first | exact rfl | exact Or.inl rfl | exact Or.inr rfl | decide | (intro _;rfl))
local macro_rules | `(tactic| wtm_at "S") => `(tactic| first | (focus (with_reducible apply M7);all_goals wtm_at "x") | (focus (with_reducible apply u3);wtm_at "s";all_goals wtm_at "x") | (focus (with_reducible apply i8);wtm_at "s";wtm_at "S";all_goals wtm_at "x"))
local macro_rules | `(tactic| wtm_at "s") => `(tactic| first | (focus (with_reducible apply ae);assumption;exact rfl;wtm_at "l";wtm_at "E";all_goals wtm_at "x") | (focus (with_reducible apply A9);wtm_at "E";all_goals wtm_at "x") | (focus (with_reducible apply K7);wtm_at "T";wtm_at "S";wtm_at "S";all_goals wtm_at "x") | (focus (with_reducible apply W5);exact pv _;wtm_at "E";all_goals wtm_at "x") | (focus (with_reducible apply C1);assumption;exact rfl;wtm_at "l";wtm_at "F";all_goals wtm_at "x") | (focus (with_reducible apply R3);exact PassesOwn.never;exact rfl;exact rfl;exact Blt.range (by assumption);wtm_at "E";wtm_at "G";wtm_at "S";all_goals wtm_at "x") | (focus (with_reducible apply cJ);exact aa (by assumption);exact pv _;wtm_at "E";all_goals wtm_at "x"))
local macro_rules | `(tactic| wtm_at "B") => `(tactic| first | (focus (with_reducible apply Z2);exact pv _;all_goals wtm_at "x") | (focus (with_reducible apply EO.b);wtm_at "E";all_goals wtm_at "x"))
local macro_rules | `(tactic| wtm_at "E") => `(tactic| first | (focus (with_reducible apply w8);exact pv _;all_goals wtm_at "x") | (focus (with_reducible apply J6);all_goals wtm_at "x") | (focus (with_reducible apply cW);exact cG;exact hZ;wtm_at "B";wtm_at "B";exact fun _ _ => rfl;all_goals wtm_at "x") | (focus (with_reducible apply iW);rotate_left;wtm_at "q";rotate_right;wtm_at "o";wtm_at "B";wtm_at "B";all_goals wtm_at "x") | (focus (with_reducible apply fO);assumption;assumption;(first | decide | exact Nat.le_refl _ | exact Nat.le_trans (by decide) (Nat.le_add_right _ _));exact rfl;wtm_at "A";wtm_at "n";all_goals wtm_at "x") | (focus (with_reducible apply df);wtm_at "A";all_goals wtm_at "x") | (focus (with_reducible apply fB);decide +kernel;all_goals wtm_at "x") | (focus (with_reducible apply Y1);all_goals wtm_at "x") | (focus (with_reducible apply C3);all_goals wtm_at "x") | (focus (with_reducible apply FO.v);wtm_at "F";all_goals wtm_at "x") | (focus (with_reducible apply gh);rotate_left;wtm_at "r";rotate_right;wtm_at "c";wtm_at "B";wtm_at "B";(first | exact N7 _ | exact rfl);all_goals wtm_at "x") | (focus (with_reducible apply jj);wtm_at "T";wtm_at "E";wtm_at "E";all_goals wtm_at "x") | (focus (with_reducible apply hV);rotate_left;wtm_at "m";rotate_right;wtm_at "k";exact rfl;wtm_at "b";wtm_at "t";wtm_at "a";all_goals wtm_at "x") | (focus (with_reducible apply fj);exact aa (by assumption);exact pv _;all_goals wtm_at "x"))
local macro_rules | `(tactic| wtm_at "A") => `(tactic| first | (focus (with_reducible apply ac);wtm_at "E";wtm_at "A";all_goals wtm_at "x") | (focus (with_reducible apply n8);all_goals wtm_at "x"))
local macro_rules | `(tactic| wtm_at "a") => `(tactic| first | (focus (with_reducible apply bc);wtm_at "B";wtm_at "a";all_goals wtm_at "x") | (focus (with_reducible apply eN);all_goals wtm_at "x"))
local macro_rules | `(tactic| wtm_at "T") => `(tactic| first | (focus (with_reducible apply X3);rotate_left;wtm_at "r";rotate_right;wtm_at "c";wtm_at "B";wtm_at "B";(first | exact N7 _ | exact rfl);all_goals wtm_at "x") | (focus (with_reducible apply WO.t);wtm_at "W";all_goals wtm_at "x") | (focus (with_reducible apply N0);wtm_at "T";all_goals wtm_at "x") | (focus (with_reducible apply G8);wtm_at "B";all_goals wtm_at "x"))
local macro_rules | `(tactic| wtm_at "W") => `(tactic| first | (focus (with_reducible apply eF);wtm_at "T";wtm_at "W";all_goals wtm_at "x") | (focus (with_reducible apply je);wtm_at "T";all_goals wtm_at "x") | (focus (with_reducible apply U2);wtm_at "T";wtm_at "W";all_goals wtm_at "x") | (focus (with_reducible apply bH);wtm_at "T";all_goals wtm_at "x"))
local macro_rules | `(tactic| wtm_at "F") => `(tactic| first | (focus (with_reducible apply A1);wtm_at "A";all_goals wtm_at "x") | (focus (with_reducible apply bj);rotate_left;wtm_at "q";rotate_right;wtm_at "o";wtm_at "B";wtm_at "B";all_goals wtm_at "x"))
local macro_rules | `(tactic| wtm_at "G") => `(tactic| first | (focus (with_reducible apply fy);wtm_at "h";all_goals wtm_at "x"))
local macro_rules | `(tactic| wtm_at "h") => `(tactic| first | (focus (with_reducible apply V6);assumption;exact rfl;wtm_at "l";all_goals wtm_at "x"))
local macro_rules | `(tactic| wtm_at "R") => `(tactic| first | (refine u3 ?_;wtm_at "s") | (refine i8 ?_ ?_;wtm_at "s";wtm_at "S"))
noncomputable def K0 (i : Nat) : Stmt := PySem.Challenge.pw_widelines_k98_refusals_apart.main.body.getD i (.Pass ⟨0, 0, 0, 0⟩)
noncomputable abbrev U1 : Stmt := K0 9
theorem sc_law_feed : FnScope ["_law_script"] ["_law_script"] (e6 U1) := ⟨rfl, rfl, rfl, by decide +kernel, rfl, by decide +kernel, by decide +kernel⟩
set_option maxHeartbeats 4000000 in
section
variable {P : Program} {w : World} {K : PySem.W.Frag} {mg : Str → Option Value} {base : Heap}
theorem ik {f : Addr} {fd : FuncData} (B : Blt mg) (F : GF K mg "_law_feed" U1 f fd) : Cal P w K mg base 1 "_law_feed" ["_law_script"] (D8) :=
 U0 F (fun _ _ _ _ _ _ => aV fun _ => rfl) sc_law_feed fun cdv A outer s H E g hr =>
  have nd := sc_law_feed.nd
  (u3 (A9 (fP (pv 0))))
noncomputable abbrev N8 : Stmt := K0 10
theorem sc_law_draw : FnScope ["_law_feed_here", "_law_many", "_law_count", "_law_digit", "_law_cells", "_law_cell", "_law_mixed"] ["_law_feed_here", "_law_many"] (e6 N8) := ⟨rfl, rfl, rfl, by decide +kernel, rfl, by decide +kernel, by decide +kernel⟩
set_option maxHeartbeats 4000000 in
theorem iu {f : Addr} {fd : FuncData} (B : Blt mg) (F : GF K mg "_law_draw" N8 f fd) : Cal P w K mg base 1 "_law_draw" ["_law_feed_here", "_law_many"] (A4) :=
 U0 F (fun _ _ _ _ _ _ => on2 fun _ _ => rfl) sc_law_draw fun cdv A outer s H E g hr =>
  have nd := sc_law_draw.nd
  by unfold w4;wtm_at "R"
noncomputable abbrev Q5 : Stmt := K0 11
theorem sc_law_sorts : FnScope ["_law_e", "_law_some"] ["_law_e"] (e6 Q5) := ⟨rfl, rfl, rfl, by decide +kernel, rfl, by decide +kernel, by decide +kernel⟩
set_option maxHeartbeats 4000000 in
theorem eW (RA : RfA K mg ["WideError", "NoPaper", "NoOutline", "NoJoin", "TooMany", "NoText", "NoRow"] ["WideError", "NoPaper", "NoOutline", "NoJoin", "TooMany", "NoText", "NoRow"]) {f : Addr} {fd : FuncData} (B : Blt mg) (F : GF K mg "_law_sorts" Q5 f fd) : Cal P w K mg base 1 "_law_sorts" ["_law_e"] (w5) :=
 U0 F (fun _ _ _ _ _ _ => aV fun _ => rfl) sc_law_sorts fun cdv A outer s H E g hr =>
  have nd := sc_law_sorts.nd
  (i8 (C1 (i := 1) nd rfl (by first | exact Or.inl rfl | exact Or.inr rfl) (A1 (ac (A8 RA (by rfl) (by rfl) B.isinstance (by rfl) (w8 (pv 0))) (ac (A8 RA (by rfl) (by rfl) B.isinstance (by rfl) (w8 (pv 0))) (ac (A8 RA (by rfl) (by rfl) B.isinstance (by rfl) (w8 (pv 0))) (ac (A8 RA (by rfl) (by rfl) B.isinstance (by rfl) (w8 (pv 0))) n8)))))) (u3 (A9 (FO.v (bj Q1 Y9 (Z2 (pv 1)) (EO.b (FO.v (A1 (ac (A8 RA (by rfl) (by rfl) B.isinstance (by rfl) (w8 (pv 0))) (ac (A8 RA (by rfl) (by rfl) B.isinstance (by rfl) (w8 (pv 0))) n8))))))))))
noncomputable abbrev P4 : Stmt := K0 12
theorem sc_law : FnScope ["_law_script", "_law_feed_here", "_law_k", "_law_number", "_law_word", "_law_some", "_law_at", "_law_odd", "_law_told", "_law_base", "_law_fields"] ["_law_script"] (e6 P4) := ⟨rfl, rfl, rfl, by decide +kernel, rfl, by decide +kernel, by decide +kernel⟩
set_option maxHeartbeats 4000000 in
theorem eK {m_law_sorts : c7} {m_law_draw : c7} {m_law_feed : c7} (C_law_sorts : Cal P w K mg base 1 "_law_sorts" ["_law_e"] m_law_sorts) (C_law_draw : Cal P w K mg base 1 "_law_draw" ["_law_feed_here", "_law_many"] m_law_draw) (C_law_feed : Cal P w K mg base 1 "_law_feed" ["_law_script"] m_law_feed) (R_WideError : Rf0 K mg "WideError") (R_TooMany : Rf1 K mg "TooMany") (R_NoText : Rf1 K mg "NoText") (R_NoJoin : Rf1 K mg "NoJoin") (R_NoOutline : Rf2 K mg "NoOutline") (R_NoPaper : Rf2 K mg "NoPaper") (R_NoRow : Rf0 K mg "NoRow") (RA : RfA K mg ["WideError", "NoPaper", "NoOutline", "NoJoin", "TooMany", "NoText", "NoRow"] ["WideError", "NoPaper", "NoOutline", "NoJoin", "TooMany", "NoText", "NoRow"]) {f : Addr} {fd : FuncData} (B : Blt mg) (F : Fun K "law" "law" P4 f fd) : K5 P w K mg base 2 f fd ["_law_script"] (Q3 m_law_sorts m_law_draw m_law_feed) :=
 aM F sc_law fun cdv A outer s H E g hr =>
  have nd := sc_law.nd
  (i8 (by wtm_at "s") (i8 (R3 PassesOwn.never rfl (by rfl) B.range J6 (by wtm_at "G") (i8 (by wtm_at "s") (i8 (by wtm_at "s") (i8 (C1 (i := 5) nd rfl (by first | exact Or.inl rfl | exact Or.inr rfl) (A1 (ac (B8 (k := 0) R_NoJoin (hr.mono (by decide)) (by rfl) (by wtm_at "A") (i9 l8)) (ac (M1 (k := 0) R_NoOutline (hr.mono (by decide)) (by rfl) (by wtm_at "A") (i9 (i9 l8))) (ac (M1 (k := 0) R_NoPaper (hr.mono (by decide)) (by rfl) (by wtm_at "A") (i9 (i9 l8))) (ac (ba R_NoRow (by rfl) (by wtm_at "A") (i9 l8)) (ac (B8 (k := 0) R_NoText (hr.mono (by decide)) (by rfl) (by wtm_at "A") (i9 l8)) n8))))))) (i8 (W5 (pv 5) (B8 (k := 0) R_TooMany (hr.mono (by decide)) (by rfl) (by wtm_at "A") (i9 l8))) (i8 (R3 PassesOwn.never rfl (by rfl) B.range J6 (by wtm_at "G") (i8 (K7 (WO.t (U2 (N0 (G8 (EO.b (A8 RA (by rfl) (by rfl) B.isinstance (by rfl) (by wtm_at "E"))))) (bH (N0 (G8 (EO.b (Z8 RA.rx (by rfl) B.isinstance (by rfl) RA.ve (by wtm_at "E")))))))) (u3 (A9 C3)) M7) (u3 (K7 (X3 (aK (J7 hr)) W0 (by wtm_at "B") (EO.b (FO.v (cB (N' := ["_law_one", "_law_at"]) (idx := [6]) rfl (dQ (by rfl) (.cons rfl .nil) (by decide +kernel) rfl (by decide +kernel) (by rfl) (.cons rfl (by first | exact Or.inl rfl | exact Or.inr rfl) (by first | exact Or.inl rfl | exact Or.inr rfl) .nil)) (eX (by rfl) B.range J6) (fun _ _ _ _ => V6 (i := 0) (show List.Nodup (["_law_one", "_law_at"] : List Str) by decide +kernel) rfl (Or.inl rfl)) (fun _ _ _ _ _ => ee) (fun _ _ _ _ _ => (by wtm_at "E"))))) (N7 _)) (u3 (A9 C3)) M7)))) (i8 (C1 (i := 7) nd rfl (by first | exact Or.inl rfl | exact Or.inr rfl) (A1 (ac (M1 (k := 0) R_NoPaper (hr.mono (by decide)) (by rfl) (by wtm_at "A") (i9 (i9 l8))) (ac (M1 (k := 0) R_NoOutline (hr.mono (by decide)) (by rfl) (by wtm_at "A") (i9 (i9 l8))) (ac (B8 (k := 0) R_NoJoin (hr.mono (by decide)) (by rfl) (by wtm_at "A") (i9 l8)) (ac (B8 (k := 0) R_NoText (hr.mono (by decide)) (by rfl) (ac Y1 n8) (i9 l8)) (ac (B8 (k := 0) R_TooMany (hr.mono (by decide)) (by rfl) (ac C3 n8) (i9 l8)) n8))))))) (i8 (C1 (i := 8) nd rfl (by first | exact Or.inl rfl | exact Or.inr rfl) (A1 (ac (l6 RA.rx (by wtm_at "E") (by rfl)) (ac (l6 RA.rx (by wtm_at "E") (by rfl)) (ac (l6 RA.rx (by wtm_at "E") (by rfl)) (ac (l6 RA.rx (by wtm_at "E") (by rfl)) (ac (l6 RA.rx (by wtm_at "E") (by rfl)) (ac (l6 RA.rx (by wtm_at "E") (by rfl)) (ac (l6 RA.rx (by wtm_at "E") (by rfl)) n8))))))))) (i8 (by wtm_at "s") (i8 (ae (i := 9) nd rfl (by first | exact Or.inl rfl | exact Or.inr rfl) (ba R_WideError (by rfl) (by wtm_at "A") (i9 l8))) (i8 (K7 (WO.t (U2 (N0 (G8 (EO.b (Z8 RA.rx (by rfl) B.isinstance (by rfl) RA.ve (w8 (pv 9)))))) (by wtm_at "W"))) (u3 (A9 C3)) M7) (i8 (C1 (i := 10) nd rfl (by first | exact Or.inl rfl | exact Or.inr rfl) (A1 (ac (l6 RA.rx (by wtm_at "E") (by rfl)) (ac (l6 RA.rx (by wtm_at "E") (by rfl)) (ac (l6 RA.rx (by wtm_at "E") (by rfl)) (ac (l6 RA.rx (by wtm_at "E") (by rfl)) (ac (l6 RA.rx (by wtm_at "E") (by rfl)) (ac (l6 RA.rx (by wtm_at "E") (by rfl)) (ac (l6 RA.rx (by wtm_at "E") (by rfl)) n8))))))))) (by wtm_at "S"))))))))))))) (u3 (A9 C3))))
end
noncomputable abbrev whole : c7 := (Q3 w5 A4 D8)
set_option maxHeartbeats 4000000 in
theorem all_mk {l : PySem.W.OpenLaw} {w : World} {K : PySem.W.Frag} {h : Heap} {mg : Str → Option Value} {fa : Addr} (X : K.In h) (G : h.Ns mainGlobals mg) (hfa : mg "law" = some (.ref fa)) {f1 f2 f3 f4 : Addr} {d1 d2 d3 d4 : FuncData} 
  (g1 : GF K mg "_law_feed" U1 f1 d1)
  (g2 : GF K mg "_law_draw" N8 f2 d2)
  (g3 : GF K mg "_law_sorts" Q5 f3 d3)
  (g4 : GF K mg "law" P4 f4 d4)
  (R_WideError : Rf0 K mg "WideError")
  (R_TooMany : Rf1 K mg "TooMany")
  (R_NoText : Rf1 K mg "NoText")
  (R_NoJoin : Rf1 K mg "NoJoin")
  (R_NoOutline : Rf2 K mg "NoOutline")
  (R_NoPaper : Rf2 K mg "NoPaper")
  (R_NoRow : Rf0 K mg "NoRow")
  (RA : RfA K mg ["WideError", "NoPaper", "NoOutline", "NoJoin", "TooMany", "NoText", "NoRow"] ["WideError", "NoPaper", "NoOutline", "NoJoin", "TooMany", "NoText", "NoRow"])
  (B : Blt mg) :
  ∃ fd : FuncData, (∀ (s : Shared) (v : Value), BindsTo s fd ⟨[v], []⟩ [("_law_script", v)]) ∧ ∀ base : Heap, K.In base → base.Ns mainGlobals mg → FnOk l.prog w K mg base p0 2 fa fd ["_law_script"] (B6 K 1 whole) := by
 have e := hfa.symm.trans g4.m
 cases e
 refine ⟨d4, cA g4.F fun _ _ _ _ _ _ _ _ => .of_eq rfl, fun base _ _ => ?_⟩
 have C_law_feed := ik (P := l.prog) (w := w) (base := base) B g1
 have C_law_draw := iu (P := l.prog) (w := w) (base := base) B g2
 have C_law_sorts := eW (P := l.prog) (w := w) (base := base) RA B g3
 exact eK C_law_sorts C_law_draw C_law_feed R_WideError R_TooMany R_NoText R_NoJoin R_NoOutline R_NoPaper R_NoRow RA B g4.F
end T
open PySem PySem.W PyProof.Rows
set_option maxRecDepth 100000 in
set_option maxHeartbeats 0 in
theorem PySem.Challenge.cw_widelines_k98_refusals_apart_holds : PySem.Challenge.rw_widelines_k98_refusals_apart.Holds := by
 w_on; o_law; k_head; (case hw => w_witness2)
 k_fill
 refine DL.walkD (l := PySem.Challenge.rw_widelines_k98_refusals_apart) (m := T.whole) (k := 2) rfl rfl ⟨rfl, by decide, by decide, rfl⟩ (fun w h Y => PySem.W.kIn_of Y) ?F T.math
 case F =>
  intro w mg fa h KX G hmg
  refine' T.all_mk KX G hmg (DL.gf_mk KX G ?_ ?_ ?_ ?_) (DL.gf_mk KX G ?_ ?_ ?_ ?_) (DL.gf_mk KX G ?_ ?_ ?_ ?_) (DL.gf_mk KX G ?_ ?_ ?_ ?_) (DL.rf0_mk KX G ?_ ?_ ?_ ?_ ?_) (DL.rf1_mk KX G ?_ ?_ (DL.xk1_mk (DL.xc_mk ?_ ?_ ?_ ?_ ?_ ?_) ?_ ?_) ?_ ?_ ?_ ?_ ?_ ?_) (DL.rf1_mk KX G ?_ ?_ (DL.xk1_mk (DL.xc_mk ?_ ?_ ?_ ?_ ?_ ?_) ?_ ?_) ?_ ?_ ?_ ?_ ?_ ?_) (DL.rf1_mk KX G ?_ ?_ (DL.xk1_mk (DL.xc_mk ?_ ?_ ?_ ?_ ?_ ?_) ?_ ?_) ?_ ?_ ?_ ?_ ?_ ?_) (DL.rf2_mk KX G ?_ ?_ (DL.xk1_mk (DL.xc_mk ?_ ?_ ?_ ?_ ?_ ?_) ?_ ?_) ?_ ?_ ?_ ?_ ?_ ?_ ?_) (DL.rf2_mk KX G ?_ ?_ (DL.xk1_mk (DL.xc_mk ?_ ?_ ?_ ?_ ?_ ?_) ?_ ?_) ?_ ?_ ?_ ?_ ?_ ?_ ?_) (DL.rf0_mk KX G ?_ ?_ ?_ ?_ ?_) (DL.rfa_mk KX G ?_ (DL.memC (DL.rfx_mk ?_ (DL.xc_mk ?_ ?_ ?_ ?_ ?_ ?_) ?_ ?_ ?_ (DL.memC (DL.kit_mk KX G ?_ ?_) (DL.memC (DL.kit_mk KX G ?_ ?_) (DL.memC (DL.kit_mk KX G ?_ ?_) (DL.memC (DL.kit_mk KX G ?_ ?_) (DL.memC (DL.kit_mk KX G ?_ ?_) (DL.memC (DL.kit_mk KX G ?_ ?_) (DL.memC (DL.kit_mk KX G ?_ ?_) DL.mem0)))))))) (DL.memC (DL.rfx_mk ?_ (DL.xc_mk ?_ ?_ ?_ ?_ ?_ ?_) ?_ ?_ ?_ (DL.memC (DL.kit_mk KX G ?_ ?_) (DL.memC (DL.kit_mk KX G ?_ ?_) (DL.memC (DL.kit_mk KX G ?_ ?_) (DL.memC (DL.kit_mk KX G ?_ ?_) (DL.memC (DL.kit_mk KX G ?_ ?_) (DL.memC (DL.kit_mk KX G ?_ ?_) (DL.memC (DL.kit_mk KX G ?_ ?_) DL.mem0)))))))) (DL.memC (DL.rfx_mk ?_ (DL.xc_mk ?_ ?_ ?_ ?_ ?_ ?_) ?_ ?_ ?_ (DL.memC (DL.kit_mk KX G ?_ ?_) (DL.memC (DL.kit_mk KX G ?_ ?_) (DL.memC (DL.kit_mk KX G ?_ ?_) (DL.memC (DL.kit_mk KX G ?_ ?_) (DL.memC (DL.kit_mk KX G ?_ ?_) (DL.memC (DL.kit_mk KX G ?_ ?_) (DL.memC (DL.kit_mk KX G ?_ ?_) DL.mem0)))))))) (DL.memC (DL.rfx_mk ?_ (DL.xc_mk ?_ ?_ ?_ ?_ ?_ ?_) ?_ ?_ ?_ (DL.memC (DL.kit_mk KX G ?_ ?_) (DL.memC (DL.kit_mk KX G ?_ ?_) (DL.memC (DL.kit_mk KX G ?_ ?_) (DL.memC (DL.kit_mk KX G ?_ ?_) (DL.memC (DL.kit_mk KX G ?_ ?_) (DL.memC (DL.kit_mk KX G ?_ ?_) (DL.memC (DL.kit_mk KX G ?_ ?_) DL.mem0)))))))) (DL.memC (DL.rfx_mk ?_ (DL.xc_mk ?_ ?_ ?_ ?_ ?_ ?_) ?_ ?_ ?_ (DL.memC (DL.kit_mk KX G ?_ ?_) (DL.memC (DL.kit_mk KX G ?_ ?_) (DL.memC (DL.kit_mk KX G ?_ ?_) (DL.memC (DL.kit_mk KX G ?_ ?_) (DL.memC (DL.kit_mk KX G ?_ ?_) (DL.memC (DL.kit_mk KX G ?_ ?_) (DL.memC (DL.kit_mk KX G ?_ ?_) DL.mem0)))))))) (DL.memC (DL.rfx_mk ?_ (DL.xc_mk ?_ ?_ ?_ ?_ ?_ ?_) ?_ ?_ ?_ (DL.memC (DL.kit_mk KX G ?_ ?_) (DL.memC (DL.kit_mk KX G ?_ ?_) (DL.memC (DL.kit_mk KX G ?_ ?_) (DL.memC (DL.kit_mk KX G ?_ ?_) (DL.memC (DL.kit_mk KX G ?_ ?_) (DL.memC (DL.kit_mk KX G ?_ ?_) (DL.memC (DL.kit_mk KX G ?_ ?_) DL.mem0)))))))) (DL.memC (DL.rfx_mk ?_ (DL.xc_mk ?_ ?_ ?_ ?_ ?_ ?_) ?_ ?_ ?_ (DL.memC (DL.kit_mk KX G ?_ ?_) (DL.memC (DL.kit_mk KX G ?_ ?_) (DL.memC (DL.kit_mk KX G ?_ ?_) (DL.memC (DL.kit_mk KX G ?_ ?_) (DL.memC (DL.kit_mk KX G ?_ ?_) (DL.memC (DL.kit_mk KX G ?_ ?_) (DL.memC (DL.kit_mk KX G ?_ ?_) DL.mem0)))))))) DL.mem0))))))) (DL.memC (DL.cls_mk KX G ?_) (DL.memC (DL.cls_mk KX G ?_) (DL.memC (DL.cls_mk KX G ?_) (DL.memC (DL.cls_mk KX G ?_) (DL.memC (DL.cls_mk KX G ?_) (DL.memC (DL.cls_mk KX G ?_) (DL.memC (DL.cls_mk KX G ?_) DL.mem0)))))))) (DL.blt_mk KX G ?_ ?_ ?_ ?_ ?_ ?_ ?_ ?_ ?_ ?_ ?_ ?_ ?_ ?_ ?_ ?_ ?_ ?_ ?_)
  all_goals try k_is
  all_goals first | rfl | decide | exact ⟨rfl, rfl, rfl, by decide +kernel⟩ | exact DL.on2 (fun _ _ => rfl) | exact DL.on3 (fun _ _ _ => rfl)
