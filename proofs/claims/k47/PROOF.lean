import PyProof.Rows.All
import Wide.All
import OpenK.AllK
import Wide.FinOn
import Lean
import PyProof.EqAt
import PyProof.EqKinds
import PyProof.TupleCall
import PySem.Challenge.RW_widelines_k47_lines_joined
def PySem.W.Fast.tw646791474793280160 : Unit := ()
def PySem.W.Fast.tw11333724960589421380 : Unit := ()
def PySem.W.Fast.tw13989309308978876544 : Unit := ()
def PySem.W.Fast.tw16643813817449676424 : Unit := ()
def PySem.W.Fast.tw16816923409027595689 : Unit := ()
def PySem.W.Fast.tw2650119786137426409 : Unit := ()
def PySem.W.Fast.tw9142149000000643122 : Unit := ()
def PySem.W.Fast.tw6030709286373529535 : Unit := ()
def PySem.W.Fast.tw2578707683334065605 : Unit := ()
def PySem.W.Fast.tw11975106736056577211 : Unit := ()
def PySem.W.Fast.tw14644077245242876887 : Unit := ()
def PySem.W.Fast.tw5176483831095797583 : Unit := ()
def PySem.W.Fast.tw8646504956648891731 : Unit := ()
def PySem.W.Fast.tw755964426796534843 : Unit := ()
def PySem.W.Fast.tw14876318960817324119 : Unit := ()
def PySem.W.Fast.tw6535804194944323575 : Unit := ()
def PySem.W.Fast.tw8214282339486206329 : Unit := ()
local macro_rules | `(tactic| omega) => `(tactic| first | with_reducible assumption | decide | omega +splitMinMax)
theorem PySem.W.Fast.te11333724960589421380 : True := True.intro
set_option Elab.async false
set_option linter.all false
set_option maxRecDepth 100000
set_option bootstrap.genMatcherCode false
set_option genSizeOf false
namespace L2
open PySem PySem.Spec PyProof.Rows
noncomputable abbrev u4 := Sum Int Str
noncomputable def gM : u4 → Value → Bool
 | .inl k, v => Value.isInt k v
 | .inr x, v => Value.isStrOf x v
noncomputable def mR (w : World) : u4 → Int
 | .inl k => hashInt k
 | .inr x => hashStr w x
theorem G1 : ∀ {k : u4} {v : Value}, gM k v = true → (∃ i t, k = Sum.inl i ∧ v = Value.int i t) ∨ (∃ x t, k = Sum.inr x ∧ v = Value.str x t)
 | .inl i, v, h => by
  obtain ⟨t, e⟩ := Value.isInt_shape (k := i) (v := v) h
  exact .inl ⟨i, t, rfl, e⟩
 | .inr x, v, h => by
  obtain ⟨t, e⟩ := Value.isStrOf_shape (x := x) (v := v) h
  exact .inr ⟨x, t, rfl, e⟩
theorem qZ (a b : Int) : decide ((Sum.inl a : u4) = Sum.inl b) = (a == b) := by
 by_cases e : a = b
 ·subst e; simp
 ·have h : ¬ (Sum.inl a : u4) = Sum.inl b := fun q => e (Sum.inl.inj q)
  rw [decide_eq_false h]
  exact (beq_eq_false_iff_ne.mpr e).symm
theorem qd (a b : Str) : decide ((Sum.inr a : u4) = Sum.inr b) = decide (a = b) := by
 by_cases e : a = b
 ·subst e; simp
 ·have h : ¬ (Sum.inr a : u4) = Sum.inr b := fun q => e (Sum.inr.inj q)
  rw [decide_eq_false h, decide_eq_false e]
theorem qc (a : Int) (b : Str) : decide ((Sum.inl a : u4) = Sum.inr b) = false := decide_eq_false (fun q => nomatch q)
theorem rT (a : Str) (b : Int) : decide ((Sum.inr a : u4) = Sum.inl b) = false := decide_eq_false (fun q => nomatch q)
noncomputable def cb (prog : Program) (w : World) : PySem.KeyKind prog w u4 where
 is := gM
 hash := mR w
 inj := fun v a b ha hb => by
  rcases G1 ha with ⟨i, t, rfl, rfl⟩ | ⟨x, t, rfl, rfl⟩
  ·rcases G1 hb with ⟨j, u, rfl, e⟩ | ⟨y, u, rfl, e⟩
   ·injection e with e1 _; rw [e1]
   ·exact nomatch e
  ·rcases G1 hb with ⟨j, u, rfl, e⟩ | ⟨y, u, rfl, e⟩
   ·exact nomatch e
   ·injection e with e1 _; rw [e1]
 byValue := fun k v h => by
  rcases G1 h with ⟨i, t, rfl, rfl⟩ | ⟨x, t, rfl, rfl⟩ <;> rfl
 pyHash := fun hv h => by
  rcases G1 hv with ⟨i, t, rfl, rfl⟩ | ⟨x, t, rfl, rfl⟩
  ·exact wpAny_pyHash_int h
  ·exact wpAny_pyHash_str h
 eqBool := fun hu hv h => by
  rcases G1 hu with ⟨i, t, rfl, rfl⟩ | ⟨x, t, rfl, rfl⟩
  ·rcases G1 hv with ⟨j, u, rfl, rfl⟩ | ⟨y, u, rfl, rfl⟩
   ·rw [qZ] at h; exact wpAny_eqBool_int h
   ·rw [qc] at h; exact SeqAt.EqAt.int_str i t y u _ _ _ _ h
  ·rcases G1 hv with ⟨j, u, rfl, rfl⟩ | ⟨y, u, rfl, rfl⟩
   ·rw [rT] at h; exact SeqAt.EqAt.str_int x t j u _ _ _ _ h
   ·rw [qd] at h; exact wpAny_eqBool_str h
 «strs» := fun k x t v h => by
  rcases G1 h with ⟨i, u, rfl, e⟩ | ⟨y, u, rfl, e⟩
  ·exact nomatch e
  ·injection e with e1 _
   subst e1
   cases v <;> rfl
inductive V where
 | non | bl (b : Bool) | int (i : Int) | str (x : Str) | byt (b : Array UInt8) | flt (b : UInt64) | ref (a : Addr) | ty (n : String)
 deriving DecidableEq
noncomputable def RelV : V → Value → Prop
 | .non, u => u = Value.none
 | .bl b, u => u = Value.bool b
 | .int i, u => ∃ t, u = Value.int i t
 | .str x, u => ∃ t, u = Value.str x t
 | .byt b, u => ∃ t, u = Value.bytes b t
 | .flt b, u => ∃ t, u = Value.float b t
 | .ref a, u => u = Value.ref a
 | .ty n, u => u = Value.type n
noncomputable abbrev Vals : List V → List Value → Prop := Paired RelV
theorem Vals.length {xs : List V} {us : List Value} (r : Vals xs us) : xs.length = us.length := Paired.length r
theorem Vals.get : ∀ {xs : List V} {us : List Value} {i : Nat} {x : V}, Vals xs us → xs[i]? = some x → ∃ u, us[i]? = some u ∧ RelV x u
 | _, _, _, _, .nil, e => by simp at e
 | _, _, 0, _, .cons r _, e => by simp at e; subst e; exact ⟨_, rfl, r⟩
 | _, _, i + 1, x, .cons _ t, e => by
  obtain ⟨u, h1, h2⟩ := Vals.get (i := i) (x := x) t (by simpa using e)
  exact ⟨u, by simpa using h1, h2⟩
theorem Vals.set {x : V} {u : Value} (r : RelV x u) : ∀ {xs : List V} {us : List Value} (i : Nat), Vals xs us → Vals (xs.set i x) (us.set i u)
 | _, _, _, .nil => .nil
 | _, _, 0, .cons _ t => .cons r t
 | _, _, i + 1, .cons q t => .cons q (Vals.set r i t)
theorem Vals.append : ∀ {xs ys : List V} {us ws : List Value}, Vals xs us → Vals ys ws → Vals (xs ++ ys) (us ++ ws) := by
 intro xs ys us ws h s
 induction h with
 | nil => exact s
 | cons r t ih => exact .cons r ih
theorem Vals.take : ∀ {xs : List V} {us : List Value} (n : Nat), Vals xs us → Vals (xs.take n) (us.take n)
 | _, _, 0, _ => .nil
 | _, _, _ + 1, .nil => .nil
 | _, _, n + 1, .cons r t => .cons r (Vals.take n t)
theorem Vals.drop : ∀ {xs : List V} {us : List Value} (n : Nat), Vals xs us → Vals (xs.drop n) (us.drop n)
 | _, _, 0, r => r
 | _, _, _ + 1, .nil => .nil
 | _, _, n + 1, .cons _ t => Vals.drop n t
noncomputable def T5 : Option V → Option Value → Prop
 | some v, some u => RelV v u
 | none, none => True
 | _, _ => False
noncomputable def KV {κ : Type} : List (κ × V) → List (κ × Value) → Prop := Paired fun (p : κ × V) (q : κ × Value) => p.1 = q.1 ∧ RelV p.2 q.2
noncomputable def kV : u4 → V
 | .inl i => .int i
 | .inr x => .str x
inductive HO where
 | lst (xs : List V)
 | tup (xs : List V)
 | dK (kvs : List (u4 × V)) | dT (kvs : List (List u4 × V))
 | set (S : Int → Bool) (n : Nat)
 | ins (C dx : Addr) (fs : List (Str × V))
 | own (x : Addr)
 | xd (fs : List (Str × V))
 | met (f x : Addr)
 | rng (lo hi : Int)
 | frz (o : Obj) (u : HO)
 | tbl (ps : Array Value)
 | ext (φ : Heap → Prop)
noncomputable abbrev Hp := Addr → Option HO
noncomputable def e7 (H : Hp) (a : Addr) (o : HO) : Hp := fun b => if b = a then some o else H b
theorem r8 {H : Hp} {a : Addr} {o : HO} : e7 H a o a = some o := by unfold e7; rw [if_pos rfl]
theorem i5 {H : Hp} {a b : Addr} {o : HO} (h : b ≠ a) : e7 H a o b = H b := by unfold e7; rw [if_neg h]
theorem t7 {H : Hp} {a b : Addr} {o : HO} (h : H a = some o) (h' : H b = none) : a ≠ b := by
 intro e; subst e; rw [h] at h'; cases h'
section
variable (P : Program) (w : World)
noncomputable def ObjOk (H : Hp) (h : Heap) (a : Addr) : HO → Prop
 | .lst xs => xs.length ≤ sizeLine ∧ ∃ (its : List Value) (n : Nat), Vals xs its ∧ h.get? a = some { cls := .type "list", data := .seq its.toArray n }
 | .tup xs => xs.length ≤ sizeLine ∧ ∃ its : List Value, Vals xs its ∧ IsTup h a its.toArray
 | .dK kvs => kvs.length ≤ sizeLine ∧ (a == sysModules) = false ∧ ∃ vs, KV kvs vs ∧ h.DictOf (cb P w) a vs
 | .dT kvs => kvs.length ≤ sizeLine ∧ (a == sysModules) = false ∧ ∃ xs : List (List u4 × Addr × Value),
   Paired (fun (p : List u4 × V) (q : List u4 × Addr × Value) => p.1 = q.1 ∧ H q.2.1 = some (.tup (p.1.map kV)) ∧ RelV p.2 q.2.2) kvs xs ∧
   ∃ o es ep, h.get? a = some o ∧ o.ExactDict ∧ o.data = .dict es ep ∧ es.toList = xs.map (entryOfKey (tupleKind (cb P w))) ∧ (xs.map (·.1)).Nodup
 | .set S n => h.SetOf (intKind P w) a S n
 | .ins C dx fs => H dx = some (.own a) ∧ fs.length ≤ 1000 ∧ dx ≠ a ∧ h.get? a = some (PySem.W.instObj C dx) ∧
   ∃ mA, h.Ns1 dx mA ∧ (∀ f, T5 (fs.lookup f) (mA f)) ∧ PySem.Within mA (fs.map (·.1))
 | .own _ => ∃ o, h.get? a = some o
 | .xd fs => ∃ mA, h.Ns1 a mA ∧ ∀ f, T5 (fs.lookup f) (mA f)
 | .rng lo hi => ∃ t u v, h.get? a = some { cls := .type "range", data := .fields #[.int lo t, .int hi u, .int 1 v] }
 | .frz o u => h.get? a = some o ∧ ObjOk H h a u
 | .tbl ps => h.get? a = some { cls := .none, data := .fields ps }
 | .met f x => h.get? a = some (PySem.W.methodObj (.ref f) (.ref x))
 | .ext φ => φ h ∧ (∃ o, h.get? a = some o) ∧ ∀ h1 h2 : Heap, φ h1 → (∀ o, h1.get? a = some o → h2.get? a = some o) → φ h2
noncomputable def HOk (H : Hp) (h : Heap) : Prop := ∀ a o, H a = some o → ObjOk P w H h a o
end
section
variable {P : Program} {w : World} {H H' : Hp} {h h' : Heap} {a : Addr} {o : HO}
theorem ObjOk.lt (x : ObjOk P w H h a o) : a < h.objs.size := by
 cases o with
 | lst xs => obtain ⟨_, _, _, _, e⟩ := x; exact Heap.lt_size e
 | tup xs => obtain ⟨_, _, _, p⟩ := x; exact p.lt
 | dK kvs => obtain ⟨_, _, _, _, o, _, _, e, _⟩ := x; exact Heap.lt_size e
 | dT kvs => obtain ⟨_, _, _, _, o, _, _, e, _⟩ := x; exact Heap.lt_size e
 | set S n => obtain ⟨o, _, _, _, e, _⟩ := x; exact Heap.lt_size e
 | ins C dx fs => obtain ⟨_, _, _, e, _⟩ := x; exact Heap.lt_size e
 | own y => obtain ⟨_, e⟩ := x; exact Heap.lt_size e
 | xd fs => obtain ⟨_, ⟨_, _, _, e, _⟩, _⟩ := x; exact Heap.lt_size e
 | rng lo hi => obtain ⟨_, _, _, e⟩ := x; exact Heap.lt_size e
 | frz ob u => obtain ⟨e, _⟩ := x; exact Heap.lt_size e
 | tbl ps => exact Heap.lt_size (show h.get? a = some _ from x)
 | met f y => exact Heap.lt_size (show h.get? a = some _ from x)
 | ext φ => obtain ⟨_, ⟨_, e⟩, _⟩ := x; exact Heap.lt_size e
theorem Paired.mapP {α β : Type} {F G : α → β → Prop} : ∀ {l₁ : List α} {l₂ : List β}, Paired F l₁ l₂ → (∀ a b, F a b → G a b) → Paired G l₁ l₂ := by
 intro l₁ l₂ h f
 induction h with
 | nil => exact .nil
 | cons r t ih => exact .cons (f _ _ r) ih
theorem ObjOk.stay (x : ObjOk P w H h a o) (k : ∀ b u, (b = a ∨ H b = some (.own a)) → h.get? b = some u → h'.get? b = some u)
  (ho : ∀ b, H b = some (.own a) → H' b = some (.own a)) (ht : ∀ b xs, H b = some (.tup xs) → H' b = some (.tup xs)) : ObjOk P w H' h' a o := by
 induction o with
 | lst xs => obtain ⟨z, its, n, r, e⟩ := x; exact ⟨z, its, n, r, k _ _ (.inl rfl) e⟩
 | tup xs => obtain ⟨z, its, r, ob, e, c⟩ := x; exact ⟨z, its, r, ob, k _ _ (.inl rfl) e, c⟩
 | dK kvs => obtain ⟨z, y, vs, r, ob, es, ep, e, c⟩ := x; exact ⟨z, y, vs, r, ob, es, ep, k _ _ (.inl rfl) e, c⟩
 | dT kvs =>
  obtain ⟨z, y, xs, r, ob, es, ep, e, c⟩ := x
  exact ⟨z, y, xs, Paired.mapP r fun p q z => ⟨z.1, ht _ _ z.2.1, z.2.2⟩, ob, es, ep, k _ _ (.inl rfl) e, c⟩
 | set S n => obtain ⟨ob, es, ep, t, e, c⟩ := x; exact ⟨ob, es, ep, t, k _ _ (.inl rfl) e, c⟩
 | ins C dx fs =>
  obtain ⟨d, z, ne, e, mA, ⟨od, es, ep, e2, c⟩, r⟩ := x
  exact ⟨ho _ d, z, ne, k _ _ (.inl rfl) e, mA, ⟨od, es, ep, k _ _ (.inr d) e2, c⟩, r⟩
 | own y => obtain ⟨ob, e⟩ := x; exact ⟨ob, k _ _ (.inl rfl) e⟩
 | xd fs => obtain ⟨mA, ⟨od, es, ep, e, c⟩, r⟩ := x; exact ⟨mA, ⟨od, es, ep, k _ _ (.inl rfl) e, c⟩, r⟩
 | rng lo hi => obtain ⟨t, u, v, e⟩ := x; exact ⟨t, u, v, k _ _ (.inl rfl) e⟩
 | frz ob u ih => obtain ⟨e, q⟩ := x; exact ⟨k _ _ (.inl rfl) e, ih q⟩
 | tbl ps =>
  have e : h.get? a = some { cls := .none, data := .fields ps } := x
  show h'.get? a = some { cls := .none, data := .fields ps }
  exact k a _ (.inl rfl) e
 | met f y =>
  have e : h.get? a = some (PySem.W.methodObj (.ref f) (.ref y)) := x
  show h'.get? a = some (PySem.W.methodObj (.ref f) (.ref y))
  exact k a _ (.inl rfl) e
 | ext φ => obtain ⟨p, ⟨o, e⟩, st⟩ := x; exact ⟨st _ _ p fun o q => k _ _ (.inl rfl) q, ⟨o, k _ _ (.inl rfl) e⟩, st⟩
theorem HOk.lt (x : HOk P w H h) (e : H a = some o) : a < h.objs.size := (x a o e).lt
theorem HOk.fresh (x : HOk P w H h) (e : h.objs.size ≤ a) : H a = none := by
 cases q : H a with
 | none => rfl
 | some u => exact absurd (Nat.lt_of_lt_of_le (x.lt q) e) (Nat.lt_irrefl _)
theorem HOk.kept (x : HOk P w H h) (k : ∀ b u, h.get? b = some u → h'.get? b = some u) : HOk P w H h' := fun a o e =>
 (x a o e).stay (fun b u _ q => k b u q) (fun _ q => q) fun _ _ q => q
theorem HOk.laid (x : HOk P w H h) (k : ∀ b u, h.get? b = some u → h'.get? b = some u) (hp : h.objs.size ≤ a) (new : ObjOk P w (e7 H a o) h' a o) : HOk P w (e7 H a o) h' := fun b u e => by
 have hn := x.fresh hp
 by_cases hb : b = a
 ·subst hb; rw [r8] at e; cases e; exact new
 ·rw [i5 hb] at e
  exact (x b u e).stay (fun c v _ q => k c v q) (fun c q => by rw [i5 (t7 q hn)]; exact q) fun c xs q => by rw [i5 (t7 q hn)]; exact q
end
noncomputable def Rd (H : Hp) (a : Addr) (u : HO) : Prop := H a = some u ∨ ∃ o, H a = some (.frz o u)
theorem Rd.ok {P : Program} {w : World} {H : Hp} {h : Heap} {a : Addr} {u : HO} (r : Rd H a u) (x : HOk P w H h) : ObjOk P w H h a u := by
 rcases r with r | ⟨o, r⟩
 ·exact x a u r
 ·obtain ⟨_, q⟩ := x a _ r
  exact q
noncomputable def Z3 : Option HO → Prop
 | some (.lst _) => True
 | some (.dK _) => True
 | some (.dT _) => True
 | some (.set _ _) => True
 | some (.ins _ _ _) => True
 | some (.ext _) => True
 | _ => False
section
variable {P : Program} {w : World} {H : Hp} {h h' : Heap} {x e : Addr} {o' : HO}
theorem HOk.write (ok : HOk P w H h) (mu : Z3 (H x)) (he : e = x ∨ H e = some (.own x)) (k : ∀ b u, b ≠ e → h.get? b = some u → h'.get? b = some u) (heo : ∃ u, h'.get? e = some u)
  (new : ObjOk P w (e7 H x o') h' x o') : HOk P w (e7 H x o') h' := fun b u q => by
 have nown : ∀ c y, H c = some (.own y) → c ≠ x := fun c y r z => by subst z; rw [r] at mu; exact mu
 have ntup : ∀ c xs, H c = some (.tup xs) → c ≠ x := fun c xs r z => by subst z; rw [r] at mu; exact mu
 by_cases hb : b = x
 ·subst hb; rw [r8] at q; cases q; exact new
 ·rw [i5 hb] at q
  by_cases hbe : b = e
  ·have q' : H b = some (.own x) := by
    rcases he with z | z
    ·exact absurd (hbe.trans z) hb
    ·rw [hbe]; exact z
   rw [q] at q'; cases q'
   obtain ⟨v, hv⟩ := heo
   exact ⟨v, by rw [hbe]; exact hv⟩
  ·refine (ok b u q).stay (fun c v hc r => k c v ?_ r) (fun c r => by rw [i5 (nown c b r)]; exact r) fun c xs r => by rw [i5 (ntup c xs r)]; exact r
   rcases hc with rfl | hc
   ·exact hbe
   ·rintro rfl
    rcases he with z | z
    ·exact nown c b hc z
    ·rw [hc] at z; cases z; exact hb rfl
end
structure Un (fs ex : List Addr) (H H' : Hp) (h h' : Heap) : Prop where
 keep : ∀ b o, h.get? b = some o → H b = none → b ∉ fs → b ∉ ex → h'.get? b = some o
 slot : ∀ b o, h.get? b = some o → H b = none → b ∈ fs → b ∉ ex → ∃ sl, h'.get? b = some { o with slots := sl }
 free : ∀ b o, h.get? b = some o → H b = none → b ∉ ex → H' b = none
 there : ∀ b o, h.get? b = some o → b ∉ ex → ∃ o', h'.get? b = some o'
 tups : ∀ b xs, H b = some (.tup xs) → H' b = some (.tup xs)
 frzs : ∀ b o u, H b = some (.frz o u) → H' b = some (.frz o u)
 tbls : ∀ b ps, H b = some (.tbl ps) → ∃ more, H' b = some (.tbl (ps ++ more))
section
variable {fs fs' ex ex' : List Addr} {H H1 H2 : Hp} {h h1 h2 h' : Heap} {a x e : Addr} {o : HO}
theorem Un.any (u : Un fs ex H H1 h h1) {b : Addr} {ob : Obj} (q : h.get? b = some ob) (n : H b = none) (hx : b ∉ ex) : ∃ sl, h1.get? b = some { ob with slots := sl } := by
 by_cases hb : b ∈ fs
 ·exact u.slot b ob q n hb hx
 ·exact ⟨ob.slots, u.keep b ob q n hb hx⟩
theorem Un.kept (k : ∀ b u, h.get? b = some u → h'.get? b = some u) : Un fs ex H H h h' :=
 ⟨fun b ob q _ _ _ => k b ob q, fun b ob q _ _ _ => ⟨ob.slots, k b ob q⟩, fun _ _ _ n _ => n, fun b ob q _ => ⟨ob, k b ob q⟩, fun _ _ q => q, fun _ _ _ q => q, fun _ ps q => ⟨#[], by rw [q]; simp⟩⟩
theorem Un.refl : Un fs ex H H h h := Un.kept fun _ _ q => q
theorem Un.laid (k : ∀ b u, h.get? b = some u → h'.get? b = some u) (hp : h.objs.size ≤ a) (hn : H a = none) : Un fs ex H (e7 H a o) h h' where
 keep := fun b u q _ _ _ => k b u q
 slot := fun b u q _ _ _ => ⟨u.slots, k b u q⟩
 free := fun b u q n _ => by rw [i5 (Nat.ne_of_lt (Nat.lt_of_lt_of_le (Heap.lt_size q) hp))]; exact n
 there := fun b u q _ => ⟨u, k b u q⟩
 tups := fun b xs q => by rw [i5 (t7 q hn)]; exact q
 frzs := fun b u xs q => by rw [i5 (t7 q hn)]; exact q
 tbls := fun b ps q => ⟨#[], by rw [i5 (t7 q hn), q]; simp⟩
theorem Un.write (mu : Z3 (H x)) (he : e = x ∨ H e = some (.own x)) (k : ∀ b u, b ≠ e → h.get? b = some u → h'.get? b = some u) (heo : ∃ u, h'.get? e = some u) : Un fs ex H (e7 H x o) h h' := by
 have hx : ∀ b, H b = none → b ≠ x := fun b n z => by subst z; rw [n] at mu; exact mu
 have hb : ∀ b, H b = none → b ≠ e := fun b n z => by
  subst z
  rcases he with r | r
  ·exact hx b n r
  ·rw [n] at r; cases r
 have hm : ∀ b u, H b = some u → ¬ Z3 (some u) → b ≠ x := fun b u q nm z => by subst z; rw [q] at mu; exact nm mu
 refine ⟨fun b u q n _ _ => k b u (hb b n) q, fun b u q n _ _ => ⟨u.slots, k b u (hb b n) q⟩, fun b u q n _ => by rw [i5 (hx b n)]; exact n, fun b u q _ => ?_,
  fun b xs q => by rw [i5 (hm b _ q fun z => z)]; exact q, fun b u xs q => by rw [i5 (hm b _ q fun z => z)]; exact q, fun b ps q => ⟨#[], by rw [i5 (hm b _ q fun z => z), q]; simp⟩⟩
 by_cases hbe : b = e
 ·subst hbe; exact heo
 ·exact ⟨u, k b u hbe q⟩
end
noncomputable def Q1 (h : Heap) (H : Hp) : List Addr := (List.range h.objs.size).filter fun a => (H a).isSome
noncomputable def G8 (h : Heap) (H : Hp) : Heap := PySem.W.hideAll h (Q1 h H)
theorem jG (h : Heap) (H : Hp) : (G8 h H).objs.size = h.objs.size := PySem.W.hideAll_size _ _
theorem so {h : Heap} {H : Hp} {b : Addr} {o : Obj} (e : h.get? b = some o) (n : H b = none) : (G8 h H).get? b = some o :=
 PySem.W.hideAll_get _ e fun hm => by
  have q : (H b).isSome = true := (List.mem_filter.mp hm).2
  rw [n] at q; simp at q
theorem oE {h : Heap} {H : Hp} {b : Addr} {o : Obj} (e : (G8 h H).get? b = some o) : h.get? b = some o ∧ H b = none := by
 have e' : h.get? b = some o := PySem.W.of_hideAll (Q1 h H) e
 refine ⟨e', ?_⟩
 cases q : H b with
 | none => rfl
 | some x =>
  have hm : b ∈ Q1 h H := List.mem_filter.mpr ⟨List.mem_range.mpr (Heap.lt_size e'), by simp [q]⟩
  have z : (G8 h H).get? b = none := PySem.W.hideAll_none (Q1 h H) hm
  rw [z] at e; cases e
structure Mod (K : PySem.W.Frag) (mg : Str → Option Value) (base : Heap) : Prop where
 kin : K.In base
 glob : base.Ns mainGlobals mg
 blt : ∃ mb, base.Ns builtinsNs mb ∧ ∀ x : Str, x ≠ "__name__" → mb x = bootBuiltins x
 nolimit : base.NoLimit
structure Cx where
 prog : Program
 w : World
 K : PySem.W.Frag
 mg : Str → Option Value
 base : Heap
 A : Around
 N : List Str
 s₀ : Shared
 H₀ : Hp
 env : Env
 outer : List Env
 stack : List Env
 ex : List Addr
 fn : Str → Bool
 calm : Bool
 pn : List (Addr × Obj)
 xe : Value → Shared → Prop
noncomputable def t9 (l : List Env) : List Addr := l.filterMap (·.frame)
noncomputable abbrev Cx.fs (X : Cx) : List Addr := t9 X.outer
noncomputable def dc (sc : Scope) (x : Str) : Prop := sc.names.lookup x = some .local ∨ sc.names.lookup x = some .cell ∨ sc.names.lookup x = some .free
noncomputable def N0 (sc : Scope) (x : Str) : Prop := sc.names.lookup x = some .local ∨ sc.names.lookup x = some .cell
noncomputable def kF (env : Env) (h : Heap) (m : Str → Option Value) (x : Str) (u : Value) : Prop :=
 (env.kindOf x = some .local ∧ m x = some u) ∨ ((env.kindOf x = some .cell ∨ env.kindOf x = some .free) ∧ ∃ c, env.cells.lookup x = some c ∧ h.IsCell c (some u))
structure Cx.Ok (X : Cx) : Prop where
 mod : Mod X.K X.mg X.base
 kind : X.env.scope.kind = .function
 glob : X.env.globals = mainGlobals
 blt : X.env.builtins = builtinsNs
 above : X.s₀.heap.objs.size ≤ X.env.locals
 inj : ∀ x y c, X.env.cells.lookup x = some c → X.env.cells.lookup y = some c → x = y
 has : ∀ x, (X.env.kindOf x = some .cell ∨ X.env.kindOf x = some .free) → ∃ c, X.env.cells.lookup x = some c
 cab : ∀ x c, X.fn x = true → X.env.cells.lookup x = some c → X.s₀.heap.objs.size ≤ c
 hd : X.calm = true → X.A.handled = none
 frames : X.A.frames = some X.stack
 stk : X.stack = X.outer ∨ (X.stack = X.env :: X.outer ∧ X.env.frame = some X.env.locals)
 exf : ∀ b ∈ X.ex, b ≠ X.env.locals ∧ ∀ x c, X.env.cells.lookup x = some c → c ≠ b
 bs : ∀ b o, X.base.get? b = some o → X.s₀.heap.get? b = some o ∧ X.H₀ b = none
 bsz : X.base.objs.size ≤ X.s₀.heap.objs.size
 noex : ∀ b o, X.base.get? b = some o → b ∉ X.ex
 exfs : ∀ b ∈ X.ex, b ∉ X.fs
 funs : X.s₀.heap.FunFrames X.base X.outer
 frf : ∀ b ∈ X.fs, X.H₀ b = none
structure Inv (X : Cx) (pins : List (Addr × Obj)) (σ : List (Option V)) (H : Hp) (s : Shared) : Prop where
 ok : X.Ok
 os : s.os = X.s₀.os
 bare : AllBare s.gens
 base : Un X.fs X.ex X.H₀ H X.s₀.heap s.heap
 loc : ∃ m, s.heap.Ns X.env.locals m ∧ ∀ (i : Nat) (x : Str) (v : V), X.N[i]? = some x → σ[i]? = some (some v) → dc X.env.scope x → ∃ u, RelV v u ∧ kF X.env s.heap m x u
 cell : ∀ x c, X.env.cells.lookup x = some c → ∃ v, s.heap.IsCell c v
 free : H X.env.locals = none
 freeC : ∀ x c, X.env.cells.lookup x = some c → H c = none
 pin : ∀ p ∈ X.pn ++ pins, s.heap.get? p.1 = some p.2 ∧ H p.1 = none ∧ p.1 ≠ X.env.locals ∧ p.1 ∉ X.fs ∧ ∀ v, p.2.data ≠ .cell v
 hok : HOk X.prog X.w H s.heap
 len : σ.length = X.N.length
section
variable {X : Cx} {pins : List (Addr × Obj)} {σ : List (Option V)} {H H' : Hp} {s : Shared} {h' : Heap}
theorem Cx.Ok.nofr (ok : X.Ok) {b : Addr} {o : Obj} (e : X.base.get? b = some o) : b ∉ X.fs := fun hb => by
 have := (ok.funs.mem hb).1
 rw [e] at this; cases this
theorem Inv.bs (I : Inv X pins σ H s) : ∀ b o, X.base.get? b = some o → s.heap.get? b = some o ∧ H b = none := fun b o e =>
 ⟨I.base.keep b o (I.ok.bs b o e).1 (I.ok.bs b o e).2 (I.ok.nofr e) (I.ok.noex b o e), I.base.free b o (I.ok.bs b o e).1 (I.ok.bs b o e).2 (I.ok.noex b o e)⟩
theorem Inv.bk (I : Inv X pins σ H s) : ∀ b o, X.base.get? b = some o → s.heap.get? b = some o := fun b o e => (I.bs b o e).1
theorem Inv.mod (I : Inv X pins σ H s) : Mod X.K X.mg X.base := I.ok.mod
theorem Inv.kIn (I : Inv X pins σ H s) : X.K.In s.heap := I.ok.mod.kin.keeps I.bk
theorem Inv.nolimit (I : Inv X pins σ H s) : s.heap.NoLimit := I.ok.mod.nolimit.keeps I.bk
theorem Inv.lt (I : Inv X pins σ H s) : X.env.locals < s.heap.objs.size := let ⟨_, hn, _⟩ := I.loc; hn.lt
theorem Inv.sz (I : Inv X pins σ H s) : X.s₀.heap.objs.size ≤ s.heap.objs.size := Nat.le_trans I.ok.above (Nat.le_of_lt I.lt)
theorem Inv.nofs (I : Inv X pins σ H s) {a : Addr} (h : s.heap.objs.size ≤ a) : a ∉ X.fs := fun hb => by
 obtain ⟨_, o, ho, _⟩ := I.ok.funs.mem hb
 exact absurd (Nat.lt_of_lt_of_le (Heap.lt_size ho) (Nat.le_trans I.sz h)) (Nat.lt_irrefl _)
theorem Inv.cne (I : Inv X pins σ H s) : ∀ x c, X.env.cells.lookup x = some c → c ≠ X.env.locals := fun x c e z => by
 obtain ⟨v, o, ho, hd⟩ := I.cell x c e
 obtain ⟨m, ⟨o', es, ep, ho', hd', _⟩, _⟩ := I.loc
 rw [z, ho'] at ho; cases ho; rw [hd'] at hd; cases hd
theorem Inv.funs (I : Inv X pins σ H s) : s.heap.FunFrames X.base X.outer := by
 have all : ∀ (l : List Env), (∀ b ∈ t9 l, b ∈ X.fs) → X.s₀.heap.FunFrames X.base l → s.heap.FunFrames X.base l := by
  intro l
  induction l with
  | nil => intro _ _; trivial
  | cons env r ih =>
   intro hs hl
   obtain ⟨hk, ⟨L, o, hf, hn, ho, hd⟩, hr⟩ := hl
   have hL : L ∈ X.fs := hs L (by unfold t9; rw [List.filterMap_cons, hf]; exact List.mem_cons_self)
   obtain ⟨sl, e⟩ := I.base.slot L o ho (I.ok.frf L hL) hL fun z => I.ok.exfs L z hL
   exact ⟨hk, ⟨L, _, hf, hn, e, hd⟩, ih (fun b hb => hs b (by unfold t9; rw [List.filterMap_cons, hf]; exact List.mem_cons_of_mem _ hb)) hr⟩
 exact all X.outer (fun _ hb => hb) I.ok.funs
theorem Inv.stack (I : Inv X pins σ H s) : s.heap.FunFrames X.base X.stack := by
 rcases I.ok.stk with e | ⟨e, hf⟩
 ·rw [e]; exact I.funs
 ·rw [e]
  obtain ⟨m, hn, _⟩ := I.loc
  refine .cons (by rw [I.ok.kind]; decide) hf hn ?_ I.funs
  exact Heap.get?_none_of_le (Nat.le_trans I.ok.bsz I.ok.above)
theorem Inv.stkSub (I : Inv X pins σ H s) : ∀ b ∈ t9 X.stack, b ∈ X.env.locals :: X.fs := fun b hb => by
 rcases I.ok.stk with e | ⟨e, hf⟩
 ·rw [e] at hb; exact List.mem_cons_of_mem _ hb
 ·rw [e] at hb
  unfold t9 at hb
  rw [List.filterMap_cons, hf] at hb
  exact hb
theorem Inv.stkFree (I : Inv X pins σ H s) : ∀ b ∈ t9 X.stack, H b = none := fun b hb => by
 rcases List.mem_cons.mp (I.stkSub b hb) with e | hb
 ·rw [e]; exact I.free
 ·obtain ⟨_, o, ho, _⟩ := I.ok.funs.mem hb
  exact I.base.free b o ho (I.ok.frf b hb) fun z => I.ok.exfs b z hb
theorem Inv.step {g' : Array GenState} {t' : Nat} {d' : Drawn} {ch : List Addr} (I : Inv X pins σ H s)
  (hch : ∀ b ∈ ch, (b ∈ X.ex ∨ X.s₀.heap.objs.size ≤ b) ∧ b ≠ X.env.locals ∧ (∀ x c, X.env.cells.lookup x = some c → c ≠ b) ∧ ∀ p ∈ X.pn ++ pins, p.1 ≠ b)
  (keep : ∀ b o, b ≠ X.env.locals → b ∉ X.fs → b ∉ ch → s.heap.get? b = some o → H b = none → h'.get? b = some o)
  (slot : ∀ b o, b ≠ X.env.locals → b ∈ X.fs → b ∉ ch → s.heap.get? b = some o → H b = none → ∃ sl, h'.get? b = some { o with slots := sl }) (free : ∀ b o, b ∉ ch → s.heap.get? b = some o → H b = none → H' b = none)
  (there : ∀ b o, b ∉ ch → s.heap.get? b = some o → ∃ o', h'.get? b = some o')
  (tups : ∀ b xs, H b = some (.tup xs) → H' b = some (.tup xs)) (frzs : ∀ b o u, H b = some (.frz o u) → H' b = some (.frz o u)) (tbls : ∀ b ps, H b = some (.tbl ps) → ∃ more, H' b = some (.tbl (ps ++ more)))
  (ns : ∀ m, s.heap.Ns X.env.locals m → h'.Ns X.env.locals m) (hok : HOk X.prog X.w H' h') (hg : AllBare g') :
  Inv X pins σ H' { s with heap := h', gens := g', drawn := d', toks := t' } := by
 have neL : ∀ b o, X.s₀.heap.get? b = some o → b ≠ X.env.locals := fun b o e => Nat.ne_of_lt (Nat.lt_of_lt_of_le (Heap.lt_size e) I.ok.above)
 have neC : ∀ b o, X.s₀.heap.get? b = some o → b ∉ X.ex → b ∉ ch := fun b o e hx hb => by
  rcases (hch b hb).1 with z | z
  ·exact hx z
  ·exact absurd (Nat.lt_of_lt_of_le (Heap.lt_size e) z) (Nat.lt_irrefl _)
 have cellK : ∀ x c, X.env.cells.lookup x = some c → ∀ v, s.heap.IsCell c v → h'.IsCell c v := fun x c e v hQ__ => by
  obtain ⟨o, ho, hd⟩ := hQ__
  have nch : c ∉ ch := fun z => (hch c z).2.2.1 x c e rfl
  by_cases hc : c ∈ X.fs
  ·obtain ⟨sl, q⟩ := slot c o (I.cne x c e) hc nch ho (I.freeC x c e)
   exact ⟨_, q, hd⟩
  ·exact ⟨o, keep c o (I.cne x c e) hc nch ho (I.freeC x c e), hd⟩
 refine ⟨I.ok, I.os, hg, ⟨fun b o e n hb hx => ?_, fun b o e n hb hx => ?_, fun b o e n hx => ?_, fun b o e hx => ?_, fun b xs e => tups b xs (I.base.tups b xs e), fun b o xs e => frzs b o xs (I.base.frzs b o xs e), fun b ps e => ?_⟩, ?_, fun x c e => ?_, ?_, fun x c e => ?_, fun p hp => ?_, hok, I.len⟩
 ·exact keep b o (neL b o e) hb (neC b o e hx) (I.base.keep b o e n hb hx) (I.base.free b o e n hx)
 ·obtain ⟨sl, e1⟩ := I.base.slot b o e n hb hx
  obtain ⟨sl', e2⟩ := slot b _ (neL b o e) hb (neC b o e hx) e1 (I.base.free b o e n hx)
  exact ⟨sl', e2⟩
 ·obtain ⟨o', e1⟩ := I.base.there b o e hx
  exact free b o' (neC b o e hx) e1 (I.base.free b o e n hx)
 ·obtain ⟨o', e1⟩ := I.base.there b o e hx
  exact there b o' (neC b o e hx) e1
 ·obtain ⟨m1, e1⟩ := I.base.tbls b ps e
  obtain ⟨m2, e2⟩ := tbls b _ e1
  exact ⟨m1 ++ m2, by rw [e2, Array.append_assoc]⟩
 ·obtain ⟨m, hn, hl⟩ := I.loc
  refine ⟨m, ns m hn, fun i x v e1 e2 e3 => ?_⟩
  obtain ⟨u, r, l⟩ := hl i x v e1 e2 e3
  refine ⟨u, r, ?_⟩
  rcases l with l | ⟨k, c, e, z⟩
  ·exact .inl l
  ·exact .inr ⟨k, c, e, cellK x c e _ z⟩
 ·obtain ⟨v, z⟩ := I.cell x c e
  exact ⟨v, cellK x c e v z⟩
 ·obtain ⟨m, ⟨o, _, _, ho, _⟩, _⟩ := I.loc
  exact free _ o (fun z => (hch _ z).2.1 rfl) ho I.free
 ·obtain ⟨v, o, ho, hd⟩ := I.cell x c e
  exact free c o (fun z => (hch c z).2.2.1 x c e rfl) ho (I.freeC x c e)
 ·obtain ⟨e, n, ne, nf, d⟩ := I.pin p hp
  have nch : p.1 ∉ ch := fun z => (hch p.1 z).2.2.2 p hp rfl
  exact ⟨keep p.1 p.2 ne nf nch e n, free p.1 p.2 nch e n, ne, nf, d⟩
theorem Inv.un {t' : Nat} (I : Inv X pins σ H s) (u : Un X.fs [] H H' s.heap h') (hok : HOk X.prog X.w H' h') : Inv X pins σ H' { s with heap := h', toks := t' } := by
 obtain ⟨m, ⟨o, es, ep, ho, r⟩, _⟩ := id I.loc
 obtain ⟨sl, hL⟩ := u.any ho I.free (by simp)
 exact I.step (g' := s.gens) (d' := s.drawn) (ch := []) (fun _ z => nomatch z) (fun b o _ hb _ e n => u.keep b o e n hb (by simp)) (fun b o _ hb _ e n => u.slot b o e n hb (by simp)) (fun b o _ e n => u.free b o e n (by simp)) (fun b o _ e => u.there b o e (by simp)) u.tups u.frzs u.tbls (fun m' hm => by
  obtain ⟨o', es', ep', ho', r'⟩ := hm
  rw [ho] at ho'; cases ho'
  exact ⟨_, es', ep', hL, r'⟩) hok I.bare
theorem Inv.call {g' : Array GenState} {t' : Nat} {d' : Drawn} {ch : List Addr} (I : Inv X pins σ H s) (u : Un (t9 X.stack) ch H H' s.heap h') (hok : HOk X.prog X.w H' h') (hg : AllBare g')
  (hch : ∀ b ∈ ch, (b ∈ X.ex ∨ X.s₀.heap.objs.size ≤ b) ∧ b ≠ X.env.locals ∧ (∀ x c, X.env.cells.lookup x = some c → c ≠ b) ∧ ∀ p ∈ X.pn ++ pins, p.1 ≠ b) :
  Inv X pins σ H' { s with heap := h', gens := g', drawn := d', toks := t' } := by
 obtain ⟨m, ⟨o, es, ep, ho, r⟩, _⟩ := id I.loc
 obtain ⟨sl, hL⟩ := u.any ho I.free fun z => (hch _ z).2.1 rfl
 exact I.step (ch := ch) hch (fun b o hL hb hc e n => u.keep b o e n (fun z => (List.mem_cons.mp (I.stkSub b z)).elim hL hb) hc) (fun b o _ _ hc e n => u.any e n hc) (fun b o hc e n => u.free b o e n hc) (fun b o hc e => u.there b o e hc) u.tups u.frzs u.tbls (fun m' hm => by
  obtain ⟨o', es', ep', ho', r'⟩ := hm
  rw [ho] at ho'; cases ho'
  exact ⟨_, es', ep', hL, r'⟩) hok hg
theorem Inv.turned {t' : Nat} {it : Addr} (I : Inv X pins σ H s) (k : ∀ b o, b ≠ it → s.heap.get? b = some o → h'.get? b = some o) (hn : H it = none) (hL : it ≠ X.env.locals)
  (h1 : it ∈ X.ex ∨ X.s₀.heap.objs.size ≤ it) (h2 : ∀ x c, X.env.cells.lookup x = some c → c ≠ it) (h3 : ∀ p ∈ X.pn ++ pins, p.1 ≠ it) : Inv X pins σ H { s with heap := h', toks := t' } := by
 have nit : ∀ b u, H b = some u → b ≠ it := fun b u e z => by rw [z, hn] at e; cases e
 refine I.step (g' := s.gens) (d' := s.drawn) (ch := [it]) (fun b hb => ?_) (fun b o _ _ hc e _ => k b o (fun z => hc (by simp [z])) e) (fun b o _ _ hc e _ => ⟨o.slots, k b o (fun z => hc (by simp [z])) e⟩) (fun _ _ _ _ n => n)
  (fun b o hc e => ⟨o, k b o (fun z => hc (by simp [z])) e⟩) (fun _ _ e => e) (fun _ _ _ e => e) (fun b ps e => ⟨#[], by rw [e]; simp⟩) (fun m hm => ?_) (fun b u e => ?_) I.bare
 ·have e : b = it := by simpa using hb
  subst e
  exact ⟨h1, hL, h2, h3⟩
 ·obtain ⟨o, es, ep, ho, r⟩ := hm
  exact ⟨o, es, ep, k _ o (Ne.symm hL) ho, r⟩
 ·refine (I.hok b u e).stay (fun c v hc q => k c v ?_ q) (fun _ q => q) fun _ _ q => q
  rcases hc with z | z
  ·rw [z]; exact nit b u e
  ·exact nit c _ z
theorem Inv.tok (I : Inv X pins σ H s) (t : Nat) : Inv X pins σ H { s with toks := t } := I.un (h' := s.heap) (t' := t) Un.refl I.hok
theorem Inv.kept {t' : Nat} (I : Inv X pins σ H s) (k : ∀ b u, s.heap.get? b = some u → h'.get? b = some u) : Inv X pins σ H { s with heap := h', toks := t' } := I.un (Un.kept k) (I.hok.kept k)
theorem Inv.laid {a : Addr} {o : HO} {t' : Nat} (I : Inv X pins σ H s) (k : ∀ b u, s.heap.get? b = some u → h'.get? b = some u) (hp : s.heap.objs.size ≤ a) (new : ObjOk X.prog X.w (e7 H a o) h' a o) :
  Inv X pins σ (e7 H a o) { s with heap := h', toks := t' } := I.un (Un.laid k hp (I.hok.fresh hp)) (I.hok.laid k hp new)
theorem Inv.write {x e : Addr} {o : HO} {t' : Nat} (I : Inv X pins σ H s) (mu : Z3 (H x)) (he : e = x ∨ H e = some (.own x)) (k : ∀ b u, b ≠ e → s.heap.get? b = some u → h'.get? b = some u) (heo : ∃ u, h'.get? e = some u)
  (new : ObjOk X.prog X.w (e7 H x o) h' x o) : Inv X pins σ (e7 H x o) { s with heap := h', toks := t' } := I.un (Un.write mu he k heo) (I.hok.write mu he k heo new)
theorem Inv.weak {σ' : List (Option V)} (I : Inv X pins σ H s) (hl : σ'.length = σ.length) (w : ∀ (i : Nat) v, σ'[i]? = some (some v) → σ[i]? = some (some v)) : Inv X pins σ' H s :=
 ⟨I.ok, I.os, I.bare, I.base, let ⟨m, hn, hl'⟩ := I.loc; ⟨m, hn, fun i x v e1 e2 e3 => hl' i x v e1 (w i v e2) e3⟩, I.cell, I.free, I.freeC, I.pin, I.hok, hl.trans I.len⟩
theorem Inv.pins_of {pins' : List (Addr × Obj)} (I : Inv X pins σ H s) (h : ∀ p ∈ pins', s.heap.get? p.1 = some p.2 ∧ H p.1 = none ∧ p.1 ≠ X.env.locals ∧ p.1 ∉ X.fs ∧ ∀ v, p.2.data ≠ .cell v) : Inv X pins' σ H s :=
 ⟨I.ok, I.os, I.bare, I.base, I.loc, I.cell, I.free, I.freeC, fun p hp => (List.mem_append.mp hp).elim (fun z => I.pin p (List.mem_append_left _ z)) (h p), I.hok, I.len⟩
theorem aY {N : List Str} (hN : N.Nodup) {i j : Nat} {x : Str} (a : N[i]? = some x) (b : N[j]? = some x) : i = j := by
 obtain ⟨h1, e1⟩ := List.getElem?_eq_some_iff.mp a
 obtain ⟨h2, e2⟩ := List.getElem?_eq_some_iff.mp b
 exact (List.getElem_inj hN).mp (e1.trans e2.symm)
theorem jU {M : Model} {A : Around} {E : Value → Shared → Prop} {i : Nat} {x : Str} {v : V} {u : Value} {Q : Unit → Shared → Prop} (I : Inv X pins σ H s) (hN : X.N.Nodup) (hi : X.N[i]? = some x) (hx : N0 X.env.scope x) (r : RelV v u)
  (h : ∀ s', Inv X pins (σ.set i (some v)) H s' → (∃ a, Heap.SameBut a s.heap s'.heap ∧ (a = X.env.locals ∨ X.env.cells.lookup x = some a)) → Q () s') (hf : X.fn x = true ∨ X.env.scope.names.lookup x = some .local := by first | exact .inl rfl | exact .inr rfl | assumption) : wpAny M A (storeName X.env x u) Q E s := by
 obtain ⟨m, hn, hl⟩ := id I.loc
 have hcls : (X.env.scope.kind == .class || (X.env.scope.kind == .module && X.env.locals != X.env.globals)) = false := by rw [I.ok.kind]; rfl
 have hiσ : i < σ.length := by rw [I.len]; exact (List.getElem?_eq_some_iff.mp hi).1
 have cne := I.cne
 have tracked : ∀ {a : Addr} {h' : Heap}, (∃ o, s.heap.get? a = some o ∧ H a = none) → Heap.SameBut a s.heap h' → HOk X.prog X.w H h' := fun {a h'} ha hs b ob e => by
  obtain ⟨_, _, hfree⟩ := ha
  refine (I.hok b ob e).stay (fun c w' hc q => (hs.2 c ?_).trans q) (fun _ q => q) fun _ _ q => q
  rintro rfl
  rcases hc with rfl | hc
  ·rw [hfree] at e; cases e
  ·rw [hfree] at hc; cases hc
 rcases hx with hk | hk
 ·refine wpAny_storeName_local hk hn (fun h' hn' hs => ?_) hcls
  obtain ⟨oL, _, _, hoL, _⟩ := id hn
  refine h _ ⟨I.ok, I.os, I.bare, ⟨fun b o e n hb hx => ?_, fun b o e n hb hx => ?_, I.base.free, fun b o e hx => ?_, I.base.tups, I.base.frzs, I.base.tbls⟩, ⟨_, hn', fun j y v' e1 e2 e3 => ?_⟩, fun y c e => ?_, I.free, I.freeC, fun p hp => ?_, tracked ⟨oL, hoL, I.free⟩ hs, by simpa using I.len⟩ ⟨_, hs, .inl rfl⟩
  ·exact (hs.2 b (Nat.ne_of_lt (Nat.lt_of_lt_of_le (Heap.lt_size e) I.ok.above))).trans (I.base.keep b o e n hb hx)
  ·obtain ⟨sl, e1⟩ := I.base.slot b o e n hb hx
   exact ⟨sl, (hs.2 b (Nat.ne_of_lt (Nat.lt_of_lt_of_le (Heap.lt_size e) I.ok.above))).trans e1⟩
  ·obtain ⟨o', e1⟩ := I.base.there b o e hx
   exact ⟨o', (hs.2 b (Nat.ne_of_lt (Nat.lt_of_lt_of_le (Heap.lt_size e) I.ok.above))).trans e1⟩
  ·by_cases hj : j = i
   ·subst hj
    rw [hi] at e1; cases e1
    rw [List.getElem?_set_self hiσ] at e2
    cases e2
    exact ⟨u, r, .inl ⟨hk, by simp⟩⟩
   ·rw [List.getElem?_set_ne (Ne.symm hj)] at e2
    obtain ⟨u', r', q⟩ := hl j y v' e1 e2 e3
    refine ⟨u', r', ?_⟩
    rcases q with ⟨k, e⟩ | ⟨k, c, e, z⟩
    ·refine .inl ⟨k, ?_⟩
     have : y ≠ x := fun e => hj (aY hN e1 (e ▸ hi))
     simp [this, e]
    ·exact .inr ⟨k, c, e, z.sameBut hs (cne y c e)⟩
  ·obtain ⟨w', z⟩ := I.cell y c e
   exact ⟨w', z.sameBut hs (cne y c e)⟩
  ·obtain ⟨e, n, ne, nf, d⟩ := I.pin p hp
   exact ⟨(hs.2 p.1 ne).trans e, n, ne, nf, d⟩
 ·have hfn : X.fn x = true := by
   rcases hf with z | z
   ·exact z
   ·rw [z] at hk; cases hk
  obtain ⟨c, hc⟩ := I.ok.has x (.inl hk)
  obtain ⟨w', z⟩ := I.cell x c hc
  refine wpAny_storeName_cell I.ok.kind hk hc z (fun h' hc' hs => ?_)
  obtain ⟨oc, hoc, hocd⟩ := id z
  refine h { s with heap := h' } ⟨I.ok, I.os, I.bare, ⟨fun b o e n hb hx => ?_, fun b o e n hb hx => ?_, I.base.free, fun b o e hx => ?_, I.base.tups, I.base.frzs, I.base.tbls⟩, ⟨m, hn.sameBut hs (Ne.symm (cne x c hc)), fun j y v' e1 e2 e3 => ?_⟩, fun y c' e => ?_, I.free, I.freeC, fun p hp => ?_, tracked ⟨oc, hoc, I.freeC x c hc⟩ hs, by simpa using I.len⟩ ⟨c, hs, .inr hc⟩
  ·exact (hs.2 b (Nat.ne_of_lt (Nat.lt_of_lt_of_le (Heap.lt_size e) (I.ok.cab x c hfn hc)))).trans (I.base.keep b o e n hb hx)
  ·obtain ⟨sl, e1⟩ := I.base.slot b o e n hb hx
   exact ⟨sl, (hs.2 b (Nat.ne_of_lt (Nat.lt_of_lt_of_le (Heap.lt_size e) (I.ok.cab x c hfn hc)))).trans e1⟩
  ·obtain ⟨o', e1⟩ := I.base.there b o e hx
   exact ⟨o', (hs.2 b (Nat.ne_of_lt (Nat.lt_of_lt_of_le (Heap.lt_size e) (I.ok.cab x c hfn hc)))).trans e1⟩
  ·by_cases hj : j = i
   ·subst hj
    rw [hi] at e1; cases e1
    rw [List.getElem?_set_self hiσ] at e2
    cases e2
    exact ⟨u, r, .inr ⟨.inl hk, c, hc, hc'⟩⟩
   ·rw [List.getElem?_set_ne (Ne.symm hj)] at e2
    obtain ⟨u', r', q⟩ := hl j y v' e1 e2 e3
    refine ⟨u', r', ?_⟩
    rcases q with q | ⟨k, c', e, z'⟩
    ·exact .inl q
    ·refine .inr ⟨k, c', e, z'.sameBut hs ?_⟩
     rintro rfl
     exact hj (aY hN e1 (I.ok.inj _ _ _ e hc ▸ hi))
  ·by_cases hcc : c' = c
   ·subst hcc; exact ⟨_, hc'⟩
   ·obtain ⟨w2, z2⟩ := I.cell y c' e
    exact ⟨w2, z2.sameBut hs hcc⟩
  ·obtain ⟨e, n, ne, nf, d⟩ := I.pin p hp
   refine ⟨(hs.2 p.1 ?_).trans e, n, ne, nf, d⟩
   intro q
   rw [q, hoc] at e
   have q' : oc = p.2 := Option.some.inj e
   exact d w' (by rw [← q']; exact hocd)
theorem Q7 {M : Model} {A : Around} {E : Value → Shared → Prop} {i : Nat} {x : Str} {v : V} {u : Value} {Q : Unit → Shared → Prop} (I : Inv X pins σ H s) (hN : X.N.Nodup) (hi : X.N[i]? = some x) (hx : N0 X.env.scope x) (r : RelV v u)
  (h : ∀ s', Inv X pins (σ.set i (some v)) H s' → Q () s') (hf : X.fn x = true ∨ X.env.scope.names.lookup x = some .local := by first | exact .inl rfl | exact .inr rfl | assumption) : wpAny M A (storeName X.env x u) Q E s :=
 jU I hN hi hx r (fun s' I' _ => h s' I') hf
theorem Inv.call' {s' : Shared} {ch : List Addr} (I : Inv X pins σ H s) (ho : s'.os = s.os) (u : Un (t9 X.stack) ch H H' s.heap s'.heap) (hok : HOk X.prog X.w H' s'.heap) (hg : AllBare s'.gens)
  (hch : ∀ b ∈ ch, (b ∈ X.ex ∨ X.s₀.heap.objs.size ≤ b) ∧ b ≠ X.env.locals ∧ (∀ x c, X.env.cells.lookup x = some c → c ≠ b) ∧ ∀ p ∈ X.pn ++ pins, p.1 ≠ b) : Inv X pins σ H' s' := by
 obtain ⟨h', g', d', t', o'⟩ := s'
 have e : o' = s.os := ho
 subst e
 exact I.call (g' := g') (t' := t') (d' := d') u hok hg hch
end
noncomputable abbrev XK := Value → Option Addr → Hp → Prop
noncomputable abbrev St := List (Option V)
noncomputable abbrev VK := V → Hp → Prop
noncomputable abbrev TE := St → Hp → VK → Prop
noncomputable abbrev TT := St → Hp → (Bool → Hp → Prop) → Prop
noncomputable abbrev TA := St → Hp → (List V → Hp → Prop) → Prop
structure Ends where
 nx : St → Hp → Prop
 rt : VK
 bk : St → Hp → Prop := fun _ _ => False
 ct : St → Hp → Prop := fun _ _ => False
noncomputable abbrev TS := Ends → St → Hp → Prop
noncomputable def EP (X : Cx) (pins : List (Addr × Obj)) (σ : St) (Q : VK) (u : Value) (s' : Shared) : Prop := ∃ v H', Inv X pins σ H' s' ∧ RelV v u ∧ Q v H'
noncomputable def TP (X : Cx) (pins : List (Addr × Obj)) (σ : St) (Q : Bool → Hp → Prop) (b : Bool) (s' : Shared) : Prop := ∃ H', Inv X pins σ H' s' ∧ Q b H'
noncomputable def AP (X : Cx) (pins : List (Addr × Obj)) (σ : St) (Q : List V → Hp → Prop) (us : List Value) (s' : Shared) : Prop := ∃ vs H', Inv X pins σ H' s' ∧ Vals vs us ∧ Q vs H'
noncomputable def SP (X : Cx) (pins : List (Addr × Obj)) (D : Ends) (f : Flow) (s' : Shared) : Prop :=
 match f with
 | .next => ∃ σ' H', Inv X pins σ' H' s' ∧ D.nx σ' H'
 | .brk => ∃ σ' H', Inv X pins σ' H' s' ∧ D.bk σ' H'
 | .cont => ∃ σ' H', Inv X pins σ' H' s' ∧ D.ct σ' H'
 | .ret u => ∃ v σ' H', Inv X pins σ' H' s' ∧ RelV v u ∧ D.rt v H'
noncomputable def PE (X : Cx) (e : Expr) (t : TE) : Prop :=
 ∀ (pins : List (Addr × Obj)) (s : Shared) (σ : St) (H : Hp) (Q : VK), Inv X pins σ H s → t σ H Q → wpAny (model X.prog X.w) X.A (eval e X.env) (EP X pins σ Q) X.xe s
noncomputable def PT (X : Cx) (e : Expr) (t : TT) : Prop :=
 ∀ (pins : List (Addr × Obj)) (s : Shared) (σ : St) (H : Hp) (Q : Bool → Hp → Prop), Inv X pins σ H s → t σ H Q → wpAny (model X.prog X.w) X.A (isTrue e X.env (eval e X.env)) (TP X pins σ Q) X.xe s
noncomputable def PW (X : Cx) (e : Expr) (t : TT) : Prop :=
 ∀ (whole : Sem Value) (pins : List (Addr × Obj)) (s : Shared) (σ : St) (H : Hp) (Q : Bool → Hp → Prop), Inv X pins σ H s → t σ H Q → wpAny (model X.prog X.w) X.A (isTrue e X.env whole) (TP X pins σ Q) X.xe s
theorem PW.pt {X : Cx} {e : Expr} {t : TT} (h : PW X e t) : PT X e t := h _
noncomputable def PA (X : Cx) (es : List Expr) (t : TA) : Prop :=
 ∀ (pos : Pos) (pins : List (Addr × Obj)) (s : Shared) (σ : St) (H : Hp) (Q : List V → Hp → Prop), Inv X pins σ H s → t σ H Q → wpAny (model X.prog X.w) X.A (spliced (backTo pos (starEach es X.env))) (AP X pins σ Q) X.xe s
noncomputable def PS (X : Cx) (st : Stmt) (t : TS) : Prop :=
 ∀ (pins : List (Addr × Obj)) (s : Shared) (σ : St) (H : Hp) (D : Ends), Inv X pins σ H s → t D σ H → wpAny (model X.prog X.w) X.A (exec st X.env) (SP X pins D) X.xe s
noncomputable def PSs (X : Cx) (st : List Stmt) (t : TS) : Prop :=
 ∀ (pins : List (Addr × Obj)) (s : Shared) (σ : St) (H : Hp) (D : Ends), Inv X pins σ H s → t D σ H → wpAny (model X.prog X.w) X.A (execs st X.env) (SP X pins D) X.xe s
theorem i7 {α : Type} {t : Sem α} {Q Q' : α → Shared → Prop} {M : Model} {A : Around} {E : Value → Shared → Prop} {s : Shared} (h : wpAny M A t Q E s) (hQ : ∀ a s, Q a s → Q' a s) : wpAny M A t Q' E s := wpAny_mono h hQ fun _ _ x => x
section
variable {X : Cx}
noncomputable def M1 (i : Nat) : TE := fun σ H Q => ∃ v, σ[i]? = some (some v) ∧ Q v H
noncomputable def tC (v : V) : TE := fun _ H Q => Q v H
theorem qo {i : Nat} {x : Str} {pos : Pos} (hN : X.N[i]? = some x) (hv : dc X.env.scope x) (hd : (x == ("__debug__" : Str)) = false := by decide) (hcd : (x == ("__classdict__" : Str)) = false := by decide) : PE X (.Name x pos) (M1 i) := by
 intro pins s σ H Q I h
 obtain ⟨v, e, h⟩ := h
 obtain ⟨m, hn, hl⟩ := I.loc
 obtain ⟨u, r, l⟩ := hl i x v hN e hv
 have fin : EP X pins σ Q u s := ⟨v, H, I, r, h⟩
 rcases l with ⟨hk, hm⟩ | ⟨hk, c, hc, hcell⟩
 ·exact wpAny_Name (wpAny_loadName_local I.ok.kind hk hn hm fin) hd
 ·rcases hk with hk | hk
  ·exact wpAny_Name (wpAny_loadName_cell I.ok.kind hk hc hcell fin) hd
  ·exact wpAny_Name (wpAny_loadName_free I.ok.kind hk hc hcell fin hcd) hd
theorem S3 {i j pos} : PE X (.Constant (.int i) j pos) (tC (.int i)) := fun _ _ _ H _ I h => wpAny_Constant_int ⟨.int i, H, I.tok _, ⟨_, rfl⟩, h⟩
theorem uO {b j pos} : PE X (.Constant (.bool b) j pos) (tC (.bl b)) := fun _ _ _ H _ I h => Constant_bool ⟨.bl b, H, I, rfl, h⟩
theorem qw {x j pos} : PE X (.Constant (.str x) j pos) (tC (.str x)) := fun _ _ _ H _ I h => Calls.Constant_str ⟨.str x, H, I.tok _, ⟨_, rfl⟩, h⟩
noncomputable def Gl (X : Cx) (x : Str) : Prop := X.env.kindOf x = some .globalImplicit
theorem T7 {E : Value → Shared → Prop} {pins : List (Addr × Obj)} {s : Shared} {σ : St} {H : Hp} {x : Str} {u : Value} {pos : Pos} {Q : Value → Shared → Prop} (I : Inv X pins σ H s) (hg : Gl X x) (hm : X.mg x = some u) (h : Q u s)
  (hd : (x == ("__debug__" : Str)) = false := by decide) : wpAny (model X.prog X.w) X.A (eval (.Name x pos) X.env) Q E s :=
 Calls.Name_function_global I.ok.kind hg (Calls.loadGlobal_global (by rw [I.ok.glob]; exact I.mod.glob.keeps I.bk) hm h) hd
theorem ao {E : Value → Shared → Prop} {pins : List (Addr × Obj)} {s : Shared} {σ : St} {H : Hp} {x : Str} {u : Value} {pos : Pos} {Q : Value → Shared → Prop} (I : Inv X pins σ H s) (hg : Gl X x) (hm : X.mg x = none) (hv : bootBuiltins x = some u) (h : Q u s)
  (hn : x ≠ "__name__" := by decide) (hd : (x == ("__debug__" : Str)) = false := by decide) : wpAny (model X.prog X.w) X.A (eval (.Name x pos) X.env) Q E s := by
 obtain ⟨mb, h1, h2⟩ := I.mod.blt
 exact Calls.Name_function_global I.ok.kind hg (Calls.loadGlobal_builtin (by rw [I.ok.glob]; exact I.mod.glob.keeps I.bk) hm (by rw [I.ok.blt]; exact h1.keeps I.bk) ((h2 x hn).trans hv) h) hd
theorem aX {x : Str} {v : V} {u : Value} {pos : Pos} (hg : Gl X x) (hm : X.mg x = some u) (r : RelV v u) (hd : (x == ("__debug__" : Str)) = false := by decide) : PE X (.Name x pos) (tC v) :=
 fun _ _ _ H _ I h => T7 I hg hm ⟨v, H, I, r, h⟩ hd
theorem nG {x : Str} {v : V} {u : Value} {pos : Pos} (hg : Gl X x) (hm : X.mg x = none) (hv : bootBuiltins x = some u) (r : RelV v u) (hn : x ≠ "__name__" := by decide) (hd : (x == ("__debug__" : Str)) = false := by decide) : PE X (.Name x pos) (tC v) :=
 fun _ _ _ H _ I h => ao I hg hm hv ⟨v, H, I, r, h⟩ hn hd
variable {a b : Expr} {ta tb : TE} {pos : Pos}
variable {tA tB' : TT} {rest : List Expr}
noncomputable def mq (t u : TT) : TT := fun σ H Q => t σ H fun c H1 => if c = true then u σ H1 Q else Q false H1
noncomputable def lr (t u : TT) : TT := fun σ H Q => t σ H fun c H1 => if c = true then Q true H1 else u σ H1 Q
noncomputable def uz (t : TT) : TT := fun σ H Q => t σ H fun c H1 => Q (!c) H1
theorem uq (ha : PT X a tA) : PW X (.BoolOp .And [a] pos) tA := by
 intro wh pins s σ H Q I h
 refine isTrue_and (i7 (ha pins s σ H Q I h) fun c s1 e => ?_)
 cases c with
 | true => exact isTrue_and_nil e
 | false => exact e
theorem uf (ha : PT X a tA) : PW X (.BoolOp .Or [a] pos) tA := by
 intro wh pins s σ H Q I h
 refine isTrue_or (i7 (ha pins s σ H Q I h) fun c s1 e => ?_)
 cases c with
 | false => exact isTrue_or_nil e
 | true => exact e
theorem qk (ha : PT X a tA) (hb : PW X (.BoolOp .And (b :: rest) pos) tB') : PW X (.BoolOp .And (a :: b :: rest) pos) (mq tA tB') := by
 intro wh pins s σ H Q I h
 refine isTrue_and (i7 (ha pins s σ H _ I h) fun c s1 ⟨H1, I1, q1⟩ => ?_)
 cases c with
 | true => exact hb wh pins s1 σ H1 Q I1 q1
 | false => exact ⟨H1, I1, q1⟩
theorem qS (ha : PT X a tA) (hb : PW X (.BoolOp .Or (b :: rest) pos) tB') : PW X (.BoolOp .Or (a :: b :: rest) pos) (lr tA tB') := by
 intro wh pins s σ H Q I h
 refine isTrue_or (i7 (ha pins s σ H _ I h) fun c s1 ⟨H1, I1, q1⟩ => ?_)
 cases c with
 | true => exact ⟨H1, I1, q1⟩
 | false => exact hb wh pins s1 σ H1 Q I1 q1
theorem uB (ha : PT X a tA) : PT X (.UnaryOp .Not a pos) (uz tA) := by
 intro pins s σ H Q I h
 exact isTrue_not (ha pins s σ H (fun c H1 => Q (!c) H1) I h)
noncomputable def jD (ta tb : TE) : TE := fun σ H Q => ta σ H fun x H1 => ∃ c, x = .bl c ∧ if c = true then tb σ H1 Q else Q (.bl false) H1
noncomputable def md (ta tb : TE) : TE := fun σ H Q => ta σ H fun x H1 => ∃ c, x = .bl c ∧ if c = true then Q (.bl true) H1 else tb σ H1 Q
noncomputable def uH (ta : TE) : TE := fun σ H Q => ta σ H fun x H1 => ∃ c, x = .bl c ∧ Q (.bl (!c)) H1
theorem jB {op} {t : TE} (h : PE X a t) : PE X (.BoolOp op [a] pos) t := fun pins s σ H Q I hw => BoolOp_one (h pins s σ H Q I hw)
theorem oG (ha : PE X a ta) (hb : PE X (.BoolOp .And (b :: rest) pos) tb) : PE X (.BoolOp .And (a :: b :: rest) pos) (jD ta tb) := by
 intro pins s σ H Q I h
 refine BoolOp_and (i7 (ha pins s σ H _ I h) fun v s1 ⟨x, H1, I1, r1, q1⟩ => ?_)
 obtain ⟨c, rfl, q1⟩ := q1
 cases r1
 refine wpAny_truthy_bool ?_
 cases c with
 | true => exact hb pins s1 σ H1 Q I1 q1
 | false => exact ⟨.bl false, H1, I1, rfl, q1⟩
theorem jW (ha : PE X a ta) (hb : PE X (.BoolOp .Or (b :: rest) pos) tb) : PE X (.BoolOp .Or (a :: b :: rest) pos) (md ta tb) := by
 intro pins s σ H Q I h
 refine BoolOp_or (i7 (ha pins s σ H _ I h) fun v s1 ⟨x, H1, I1, r1, q1⟩ => ?_)
 obtain ⟨c, rfl, q1⟩ := q1
 cases r1
 refine wpAny_truthy_bool ?_
 cases c with
 | false => exact hb pins s1 σ H1 Q I1 q1
 | true => exact ⟨.bl true, H1, I1, rfl, q1⟩
theorem tS (ha : PE X a ta) : PE X (.UnaryOp .Not a pos) (uH ta) := by
 intro pins s σ H Q I h
 refine UnaryOp_ (i7 (ha pins s σ H _ I h) fun v s1 ⟨x, H1, I1, r1, q1⟩ => ?_)
 obtain ⟨c, rfl, q1⟩ := q1
 cases r1
 exact not_of (wpAny_truthy_bool ⟨.bl (!c), H1, I1, rfl, q1⟩)
noncomputable def rH (t : TT) (ta tb : TE) : TE := fun σ H Q => t σ H fun c H1 => if c = true then ta σ H1 Q else tb σ H1 Q
theorem kf {c : Expr} (hc : PT X c tA) (ha : PE X a ta) (hb : PE X b tb) : PE X (.IfExp c a b pos) (rH tA ta tb) := by
 intro pins s σ H Q I h
 refine wpAny_IfExp (i7 (hc pins s σ H _ I h) fun d s1 ⟨H1, I1, q1⟩ => ?_)
 cases d with
 | true => exact ha pins s1 σ H1 Q I1 q1
 | false => exact hb pins s1 σ H1 Q I1 q1
end
noncomputable def SqL (K : PySem.W.Frag) (H : Hp) (a : Addr) (xs : List V) : Prop :=
 Rd H a (.lst xs) ∨
  ∃ (o : Obj) (its : Array Value) (n : Nat), K.lookup a = some o ∧ o.cls = .type "list" ∧ o.dict = none ∧ o.data = .seq its n ∧ its.size ≤ sizeLine ∧ Vals xs its.toList
noncomputable def SqT (K : PySem.W.Frag) (H : Hp) (a : Addr) (xs : List V) : Prop :=
 Rd H a (.tup xs) ∨
  ∃ (o : Obj) (its : Array Value) (n : Nat), K.lookup a = some o ∧ o.cls = .type "tuple" ∧ o.data = .seq its n ∧ its.size ≤ sizeLine ∧ Vals xs its.toList
noncomputable def jX : Value → Option V
 | .none => some .non
 | .bool b => some (.bl b)
 | .int i _ => some (.int i)
 | .str x _ => some (.str x)
 | .bytes b _ => some (.byt b)
 | .float b _ => some (.flt b)
 | .ref a => some (.ref a)
 | .type n => some (.ty n)
 | _ => none
theorem RelV.abs {x : V} {u : Value} (r : RelV x u) : jX u = some x := by
 cases x with
 | non => cases r; rfl
 | bl _ => cases r; rfl
 | int _ => obtain ⟨t, rfl⟩ := r; rfl
 | str _ => obtain ⟨t, rfl⟩ := r; rfl
 | byt _ => obtain ⟨t, rfl⟩ := r; rfl
 | flt _ => obtain ⟨t, rfl⟩ := r; rfl
 | ref _ => cases r; rfl
 | ty _ => cases r; rfl
theorem RelV.inj {x y : V} {u : Value} (r : RelV x u) (q : RelV y u) : x = y := Option.some.inj (r.abs.symm.trans q.abs)
theorem Vals.inj : ∀ {xs ys : List V} {us : List Value}, Vals xs us → Vals ys us → xs = ys := by
 intro xs ys us h
 induction h generalizing ys with
 | nil =>
  intro h2
  cases h2
  rfl
 | cons r t ih =>
  intro h2
  cases h2 with
  | cons r' t' => rw [r.inj r', ih t']
section
variable {X : Cx} {pins : List (Addr × Obj)} {σ : St} {H : Hp} {s : Shared} {a : Addr} {xs ys : List V}
theorem SqL.of {K : PySem.W.Frag} (h : H a = some (.lst xs)) : SqL K H a xs := .inl (.inl h)
theorem SqT.of {K : PySem.W.Frag} (h : H a = some (.tup xs)) : SqT K H a xs := .inl (.inl h)
theorem Inv.list (I : Inv X pins σ H s) (h : SqL X.K H a xs) : ∃ its : List Value, Vals xs its ∧ PlainL s.heap a its.toArray ∧ xs.length ≤ sizeLine := by
 rcases h with h | ⟨o, its, n, hk, hc, hd, hs, hz, r⟩
 ·obtain ⟨z, its, n, r, e⟩ := h.ok I.hok
  exact ⟨its, r, ⟨_, n, e, rfl, rfl, rfl⟩, z⟩
 ·refine ⟨its.toList, r, ⟨o, n, I.kIn a o hk, hc, hd, by simpa using hs⟩, ?_⟩
  have e := r.length
  simp only [Array.length_toList] at e
  omega
theorem Inv.tuple (I : Inv X pins σ H s) (h : SqT X.K H a xs) : ∃ its : List Value, Vals xs its ∧ IsTup s.heap a its.toArray ∧ xs.length ≤ sizeLine := by
 rcases h with h | ⟨o, its, n, hk, hc, hs, hz, r⟩
 ·obtain ⟨z, its, r, p⟩ := h.ok I.hok
  exact ⟨its, r, p, z⟩
 ·refine ⟨its.toList, r, ⟨o, I.kIn a o hk, hc, n, by simpa using hs⟩, ?_⟩
  have e := r.length
  simp only [Array.length_toList] at e
  omega
theorem Inv.list_inj (I : Inv X pins σ H s) (h : SqL X.K H a xs) (h' : SqL X.K H a ys) : xs = ys := by
 obtain ⟨its, r, ⟨o, n, e, _, _, d⟩, _⟩ := I.list h
 obtain ⟨its', r', ⟨o', n', e', _, _, d'⟩, _⟩ := I.list h'
 rw [e] at e'; cases e'
 rw [d] at d'
 injection d' with d1 _
 have : its = its' := by simpa using congrArg Array.toList d1
 subst this
 exact r.inj r'
theorem Inv.tuple_inj (I : Inv X pins σ H s) (h : SqT X.K H a xs) (h' : SqT X.K H a ys) : xs = ys := by
 obtain ⟨its, r, ⟨o, e, _, n, d⟩, _⟩ := I.tuple h
 obtain ⟨its', r', ⟨o', e', _, n', d'⟩, _⟩ := I.tuple h'
 rw [e] at e'; cases e'
 rw [d] at d'
 injection d' with d1 _
 have : its = its' := by simpa using congrArg Array.toList d1
 subst this
 exact r.inj r'
end
noncomputable abbrev Cx.wish (X : Cx) (E : Value → Shared → Prop) : Cx := { X with xe := E }
noncomputable abbrev Cx.nox (X : Cx) : Cx := X.wish fun _ _ => False
theorem Cx.Ok.wish {X : Cx} (ok : X.Ok) (E : Value → Shared → Prop) : (X.wish E).Ok :=
 ⟨ok.mod, ok.kind, ok.glob, ok.blt, ok.above, ok.inj, ok.has, ok.cab, ok.hd, ok.frames, ok.stk, ok.exf, ok.bs, ok.bsz, ok.noex, ok.exfs, ok.funs, ok.frf⟩
theorem Cx.Ok.unwish {X : Cx} {E : Value → Shared → Prop} (ok : (X.wish E).Ok) : X.Ok :=
 ⟨ok.mod, ok.kind, ok.glob, ok.blt, ok.above, ok.inj, ok.has, ok.cab, ok.hd, ok.frames, ok.stk, ok.exf, ok.bs, ok.bsz, ok.noex, ok.exfs, ok.funs, ok.frf⟩
section
variable {X : Cx} {pins : List (Addr × Obj)} {σ : St} {H : Hp} {s : Shared} {E : Value → Shared → Prop}
theorem Inv.wish (I : Inv X pins σ H s) (E : Value → Shared → Prop) : Inv (X.wish E) pins σ H s := ⟨I.ok.wish E, I.os, I.bare, I.base, I.loc, I.cell, I.free, I.freeC, I.pin, I.hok, I.len⟩
theorem Inv.unwish (I : Inv (X.wish E) pins σ H s) : Inv X pins σ H s := ⟨I.ok.unwish, I.os, I.bare, I.base, I.loc, I.cell, I.free, I.freeC, I.pin, I.hok, I.len⟩
theorem SP.unwish {D : Ends} {f : Flow} {s' : Shared} (h : SP (X.wish E) pins D f s') : SP X pins D f s' := by
 cases f with
 | next => obtain ⟨σ', H', I, q⟩ := h; exact ⟨σ', H', I.unwish, q⟩
 | brk => obtain ⟨σ', H', I, q⟩ := h; exact ⟨σ', H', I.unwish, q⟩
 | cont => obtain ⟨σ', H', I, q⟩ := h; exact ⟨σ', H', I.unwish, q⟩
 | ret u => obtain ⟨v, σ', H', I, r, q⟩ := h; exact ⟨v, σ', H', I.unwish, r, q⟩
theorem PSs.nox {st : List Stmt} {t : TS} (h : PSs X.nox st t) : PSs X st t := fun pins s σ H D I hw =>
 wpAny_mono (h pins s σ H D (I.wish _) hw) (fun _ _ q => q.unwish) fun _ _ z => False.elim z
end
section
variable {X : Cx} {st : Stmt} {rest : List Stmt} {t u : TS} {e : Expr} {te : TE} {pos : Pos}
noncomputable def rL : TS := fun D σ H => D.nx σ H
noncomputable def sM (t u : TS) : TS := fun D σ H => t { D with nx := u D } σ H
theorem si : PSs X [] rL := fun _ _ σ H _ I h => wpAny_execs_nil ⟨σ, H, I, h⟩
theorem rm (h1 : PS X st t) (h2 : PSs X rest u) : PSs X (st :: rest) (sM t u) := by
 intro pins s σ H D I h
 refine wpAny_execs_cons (i7 (h1 pins s σ H { D with nx := u D } I h) fun f s1 q => ?_)
 cases f with
 | next =>
  obtain ⟨σ', H', I', q⟩ := q
  exact h2 pins s1 σ' H' D I' q
 | ret v => exact q
 | brk => exact q
 | cont => exact q
theorem lD (h1 : PS X st t) : PSs X [st] t := by
 intro pins s σ H D I h
 refine wpAny_execs_cons (i7 (h1 pins s σ H D I h) fun f s1 q => ?_)
 cases f with
 | next => exact wpAny_execs_nil q
 | ret v => exact q
 | brk => exact q
 | cont => exact q
theorem Inv.quiet {pins : List (Addr × Obj)} {σ : St} {H : Hp} {s : Shared} (I : Inv X pins σ H s) : interactive X.env = false := by simp [interactive, I.ok.kind]
noncomputable def lQ (te : TE) : TS := fun D σ H => te σ H fun _ H1 => D.nx σ H1
theorem kT (he : PE X e te) (hs : swapsWith e none pos.line X.env = pure false := by rfl) : PS X (.Expr e pos) (lQ te) := by
 intro pins s σ H D I h
 exact wpAny_Expr_any (i7 (he pins s σ H _ I h) fun v s1 ⟨x, H1, I1, r1, q1⟩ => ⟨σ, H1, I1, q1⟩) I.quiet hs
noncomputable def uA (te : TE) : TS := fun D σ H => te σ H D.rt
theorem qr (he : PE X e te) : PS X (.Return (some e) pos) (uA te) := by
 intro pins s σ H D I h
 exact wpAny_Return_some (i7 (he pins s σ H _ I h) fun v s1 ⟨x, H1, I1, r1, q1⟩ => ⟨x, σ, H1, I1, r1, q1⟩)
noncomputable def lP (c : TT) (t u : TS) : TS := fun D σ H => c σ H fun b H1 => if b = true then t D σ H1 else u D σ H1
theorem qX {c : Expr} {a b : List Stmt} {tc : TT} (hc : PT X c tc) (ha : PSs X a t) (hb : PSs X b u) : PS X (.If c a b pos) (lP tc t u) := by
 intro pins s σ H D I h
 refine wpAny_If (i7 (hc pins s σ H _ I h) fun d s1 ⟨H1, I1, q1⟩ => ?_)
 cases d with
 | true => exact ha pins s1 σ H1 D I1 q1
 | false => exact hb pins s1 σ H1 D I1 q1
end
noncomputable abbrev TG := V → St → Hp → (St → Hp → Prop) → Prop
noncomputable abbrev F4 := List V → St → Hp → (St → Hp → Prop) → Prop
noncomputable def PG (X : Cx) (target : Expr) (t : TG) : Prop :=
 ∀ (pins : List (Addr × Obj)) (s : Shared) (σ : St) (H : Hp) (v : V) (u : Value) (Q : St → Hp → Prop), Inv X pins σ H s → RelV v u → t v σ H Q →
  wpAny (model X.prog X.w) X.A (assign target X.env u) (fun _ s' => ∃ σ' H', Inv X pins σ' H' s' ∧ Q σ' H') X.xe s
noncomputable def M8 (X : Cx) (ts : List Expr) (t : F4) : Prop :=
 ∀ (pins : List (Addr × Obj)) (s : Shared) (σ : St) (H : Hp) (vs : List V) (us : List Value) (Q : St → Hp → Prop), Inv X pins σ H s → Vals vs us → t vs σ H Q →
  wpAny (model X.prog X.w) X.A (assignInOrder ((assignEach ts X.env).map (·.2)) us) (fun _ s' => ∃ σ' H', Inv X pins σ' H' s' ∧ Q σ' H') X.xe s
noncomputable abbrev bF := V → V → V → Hp → (Hp → Prop) → Prop
noncomputable def jq (X : Cx) (t : bF) : Prop :=
 ∀ (pins : List (Addr × Obj)) (s : Shared) (σ : St) (H : Hp) (o i v : V) (ov iv u : Value) (Q : Hp → Prop), Inv X pins σ H s → RelV o ov → RelV i iv → RelV v u → t o i v H Q →
  wpAny (model X.prog X.w) X.A (setItem ov iv u) (fun _ s' => ∃ H', Inv X pins σ H' s' ∧ Q H') X.xe s
section
variable {X : Cx} {pos : Pos}
noncomputable def V6 (i : Nat) : TG := fun v σ H Q => Q (σ.set i (some v)) H
theorem bH {i : Nat} {x : Str} (hN : X.N.Nodup) (hi : X.N[i]? = some x) (hx : N0 X.env.scope x) (hf : X.fn x = true ∨ X.env.scope.names.lookup x = some .local := by first | exact .inl rfl | exact .inr rfl | assumption) : PG X (.Name x pos) (V6 i) := by
 intro pins s σ H v u Q I r h
 exact wpAny_assign_Name (Q7 I hN hi hx r (fun s' I' => ⟨_, H, I', h⟩) hf)
noncomputable def kg : F4 := fun vs σ H Q => vs = [] ∧ Q σ H
noncomputable def jN (t : TG) (u : F4) : F4 := fun vs σ H Q => ∃ v r, vs = v :: r ∧ t v σ H fun σ' H' => u r σ' H' Q
theorem tU : M8 X [] kg := by
 intro pins s σ H vs us Q I r h
 obtain ⟨e, h⟩ := h
 subst e
 cases r
 exact assignInOrder_nil ⟨σ, H, I, h⟩
theorem pj {e : Expr} {es : List Expr} {t : TG} {u : F4} (h1 : PG X e t) (h2 : M8 X es u)
  (hs : (assignEach (e :: es) X.env).map (·.2) = assign e X.env :: (assignEach es X.env).map (·.2) := by rfl) : M8 X (e :: es) (jN t u) := by
 intro pins s σ H vs us Q I r h
 obtain ⟨v, vr, e1, h⟩ := h
 subst e1
 cases r with
 | cons r rr =>
  rw [hs]
  refine assignInOrder_cons (i7 (h1 pins s σ H _ _ _ I r h) fun _ s1 ⟨σ1, H1, I1, q1⟩ => ?_)
  exact h2 pins s1 σ1 H1 _ _ Q I1 rr q1
noncomputable def rh (K : PySem.W.Frag) (n : Nat) (t : F4) : TG := fun v σ H Q => ∃ a xs, v = .ref a ∧ SqT K H a xs ∧ xs.length = n ∧ t xs σ H Q
theorem mX {es : List Expr} {k : Nat} {t : F4} {n : Nat} (hc : X.calm = true) (h : M8 X es t)
  (hn : (assignEach es X.env).length = n := by rfl) (hst : (assignEach es X.env).findIdx? (·.1) = none := by rfl) : PG X (.Tuple es k pos) (rh X.K n t) := by
 intro pins s σ H v u Q I r hw
 obtain ⟨a, xs, e1, hq, hl, hw⟩ := hw
 subst e1
 cases r
 obtain ⟨its, rv, ht, hz⟩ := I.tuple hq
 refine assign_Tuple_tuple (I.ok.hd hc) ht (by simp [hn, ← hl, rv.length]) hst fun h' hx => ?_
 have I1 : Inv X pins σ H { s with heap := h' } := I.kept (t' := s.toks) fun b o e => hx b o (Nat.ne_of_lt (Heap.lt_size e)) e
 exact h pins _ σ H xs _ Q I1 (by simpa using rv) hw
noncomputable def nE (to ti : TE) (t : bF) : TG := fun v σ H Q => to σ H fun o H1 => ti σ H1 fun i H2 => t o i v H2 fun H3 => Q σ H3
theorem sF {o i : Expr} {to ti : TE} {t : bF} (ho : PE X o to) (hi : PE X i ti) (hs : jq X t)
  (ha : ∀ v, assign (.Subscript o i pos) X.env v = (do
   let ov ← holding [v] (eval o X.env)
   let iv ← holding [v, ov] (eval i X.env)
   standAt pos
   holding [v, ov, iv] (setItem ov iv v)
   release [v, ov, iv] []) := by intro _; rfl) : PG X (.Subscript o i pos) (nE to ti t) := by
 intro pins s σ H v u Q I r h
 rw [ha]
 refine wpAny_bind (wpAny_holding (i7 (ho pins s σ H _ I h) fun ov s1 ⟨x, H1, I1, r1, q1⟩ => ?_))
 refine wpAny_bind (wpAny_holding (i7 (hi pins s1 σ H1 _ I1 q1) fun iv s2 ⟨y, H2, I2, r2, q2⟩ => ?_))
 refine wpAny_bind (wpAny_standAt (wpAny_bind (wpAny_holding (i7 (hs pins s2 σ H2 x y v ov iv u _ I2 r1 r2 r q2) fun _ s3 ⟨H3, I3, q3⟩ => ?_))))
 exact wpAny_release ⟨σ, H3, I3, q3⟩
noncomputable def cT (te : TE) (g : TG) : TS := fun D σ H => te σ H fun x H1 => g x σ H1 D.nx
theorem eD {tg e : Expr} {te : TE} {g : TG} (he : PE X e te) (hg : PG X tg g) (hs : swapsWithSole [tg] e pos.line X.env = pure false := by rfl) (hw : swappedStores [tg] e X.env = pure none := by rfl)
  (h1 : (assignEach [tg] X.env).map (·.2) = [assign tg X.env] := by rfl) : PS X (.Assign [tg] e pos) (cT te g) := by
 intro pins s σ H D I h
 refine wpAny_Assign_stores (i7 (he pins s σ H _ I h) fun v s1 ⟨x, H1, I1, r1, q1⟩ => ?_) hs hw
 rw [h1]
 exact i7 (hg pins s1 σ H1 x v _ I1 r1 q1) fun _ s2 q => q
theorem bg {i : Nat} {x : Str} {e : Expr} {te : TE} {pos' : Pos} (hN : X.N.Nodup) (hi : X.N[i]? = some x) (hx : N0 X.env.scope x) (he : PE X e te) (hs : swapsWith e (some (.Name x pos')) pos.line X.env = pure false := by rfl) (hf : X.fn x = true ∨ X.env.scope.names.lookup x = some .local := by first | exact .inl rfl | exact .inr rfl | assumption) :
  PS X (.Assign [.Name x pos'] e pos) (cT te (V6 i)) := by
 intro pins s σ H D I h
 refine wpAny_Assign_Name (i7 (he pins s σ H _ I h) fun v s1 ⟨y, H1, I1, r1, q1⟩ => ?_) hs
 exact Q7 I1 hN hi hx r1 (fun s2 I2 => ⟨_, H1, I2, q1⟩) hf
noncomputable def rk (i j : Nat) (ta : TA) : TS := fun D σ H => ta σ H fun vs H1 => ∃ v w, vs = [v, w] ∧ D.nx ((σ.set i (some v)).set j (some w)) H1
theorem jy {i j : Nat} {x y : Str} {a b : Expr} {ta : TA} {px py pt : Pos} {kt k2 pt2} (hc : X.calm = true) (hN : X.N.Nodup) (hi : X.N[i]? = some x) (hj : X.N[j]? = some y) (hij : i ≠ j)
  (hx : X.env.scope.names.lookup x = some .local) (hy : X.env.scope.names.lookup y = some .local) (ha : PA X [a, b] ta)
  (hw : swappedStores [.Tuple [.Name x px, .Name y py] kt pt] (.Tuple [a, b] k2 pt2) X.env = pure (some [x, y]))
  (hs : swapsWithSole [.Tuple [.Name x px, .Name y py] kt pt] (.Tuple [a, b] k2 pt2) pos.line X.env = pure false := by rfl) :
  PS X (.Assign [.Tuple [.Name x px, .Name y py] kt pt] (.Tuple [a, b] k2 pt2) pos) (rk i j ta) := by
 intro pins s σ H D I h
 rw [exec_Assign_arm]
 refine wpAny_bind (wpAny_standAt ?_)
 rw [hs]
 refine wpAny_bind (wpAny_pure ?_)
 rw [if_neg (by decide)]
 refine wpAny_bind (Tuple_ (i7 (ha _ pins s σ H _ I h) fun us s1 ⟨vs, H1, I1, r1, q1⟩ => ?_))
 obtain ⟨v, w, e1, q1⟩ := q1
 subst e1
 obtain ⟨u1, u2, rfl, rv, rw'⟩ : ∃ u1 u2, us = [u1, u2] ∧ RelV v u1 ∧ RelV w u2 := by
  cases r1 with
  | cons p q =>
   cases q with
   | cons p' q' =>
    cases q'
    exact ⟨_, _, rfl, p, p'⟩
 refine wpAny_newObj_type ?_ (by show 2 ≤ sizeLine; decide)
 have I2 : Inv X pins σ H1 { s1 with heap := s1.heap.push { cls := .type "tuple", data := .seq [u1, u2].toArray } } := I1.kept (t' := s1.toks) fun b o e => Heap.get?_push_of_some _ e
 rw [hw]
 refine wpAny_bind (wpAny_pure ?_)
 show wpAny (model X.prog X.w) X.A (do rule "assign.swapped-stores"; let items ← unpackItems (.ref s1.heap.objs.size) 2 none; assignInOrder [fun v => bindName X.env y v, fun v => bindName X.env x v] items.reverse; pure Flow.next) _ _ _
 refine wpAny_bind (wpAny_rule (wpAny_bind (unpackItems_tuple (items := #[u1, u2]) (I.ok.hd hc) (IsTup.new s1.heap _) fun h' hx' => ?_)))
 have I3 := I2.kept (h' := h') (t' := s1.toks) fun b o e => hx' b o (Nat.ne_of_lt (Heap.lt_size e)) e
 show wpAny _ _ (assignInOrder [fun v => bindName X.env y v, fun v => bindName X.env x v] [u2, u1] >>= fun _ => pure Flow.next) _ _ _
 refine wpAny_bind (assignInOrder_cons (wpAny_bindName (Q7 I3 hN hj (.inl hy) rw' (fun s2 I4 => ?_) (.inr hy))))
 refine assignInOrder_cons (wpAny_bindName (Q7 I4 hN hi (.inl hx) rv (fun s3 I5 => assignInOrder_nil (wpAny_pure ?_)) (.inr hx)))
 rw [List.set_comm _ _ (Ne.symm hij)] at I5
 exact ⟨_, H1, I5, q1⟩
end
section
variable {X : Cx} {pos : Pos}
noncomputable def oM (c : TT) (tb : TS) : TS := fun D σ H => ∃ W : Nat → St → Hp → Prop, (∃ m, W m σ H) ∧ ∀ m σ H, W m σ H →
 c σ H fun b H1 => if b = true then ∃ N : St → Hp → Prop, (∀ σ' H', N σ' H' → ∃ m', m' < m ∧ W m' σ' H') ∧ tb { D with nx := N, ct := N, bk := D.nx } σ H1 else D.nx σ H1
theorem tW {c : Expr} {body : List Stmt} {tc : TT} {tb : TS} (hp : PassesOwn (model X.prog X.w) X.A X.env X.xe) (hc : PT X c tc) (hb : PSs X body tb) : PS X (.While c body [] pos) (oM tc tb) := by
 intro pins s σ H D I h
 obtain ⟨W, ⟨m0, w0⟩, turn⟩ := h
 refine wpAny_While (codeAny_whileLoop (fun n s' => ∃ σ' H', Inv X pins σ' H' s' ∧ W n σ' H') ?_ m0 ⟨σ, H, I, w0⟩)
 rintro n s1 ⟨σ1, H1, I1, w1⟩
 refine wpAny_passesOwn hp (i7 (hc pins s1 σ1 H1 _ I1 (turn n σ1 H1 w1)) fun b s2 ⟨H2, I2, q2⟩ => ?_)
 cases b with
 | true =>
  obtain ⟨N, hN, q2⟩ := q2
  rw [if_pos rfl]
  refine wpAny_passesOwn hp (i7 (hb pins s2 σ1 H2 _ I2 q2) fun f s3 q3 => ?_)
  cases f with
  | next =>
   obtain ⟨σ3, H3, I3, n3⟩ := q3
   obtain ⟨m', hm, w3⟩ := hN σ3 H3 n3
   exact ⟨m', hm, σ3, H3, I3, w3⟩
  | cont =>
   obtain ⟨σ3, H3, I3, n3⟩ := q3
   obtain ⟨m', hm, w3⟩ := hN σ3 H3 n3
   exact ⟨m', hm, σ3, H3, I3, w3⟩
  | brk => exact q3
  | ret v => exact q3
 | false =>
  rw [if_neg Bool.false_ne_true]
  exact wpAny_execs_nil ⟨σ1, H2, I2, q2⟩
end
structure It where
 go : Nat → Hp → Prop
 yld : Nat → Hp → V → Hp → Prop
 stop : Nat → Hp → Prop
noncomputable def J9 (X : Cx) (pins : List (Addr × Obj)) (H : Hp) (b : Addr) : Prop :=
 H b = none ∧ b ≠ X.env.locals ∧ b ∉ X.fs ∧ (b ∈ X.ex ∨ X.s₀.heap.objs.size ≤ b) ∧ (∀ x c, X.env.cells.lookup x = some c → c ≠ b) ∧ ∀ p ∈ X.pn ++ pins, p.1 ≠ b
theorem Inv.fpOk {X : Cx} {pins : List (Addr × Obj)} {σ : St} {H H' : Hp} {s : Shared} {b : Addr} (I : Inv X pins σ H s) (hb : s.heap.objs.size ≤ b) (hn : H' b = none) : J9 X pins H' b := by
 refine ⟨hn, Nat.ne_of_gt (Nat.lt_of_lt_of_le I.lt hb), I.nofs hb, .inr (Nat.le_trans I.sz hb), fun x c e z => ?_, fun p hp z => ?_⟩
 ·obtain ⟨v, q⟩ := I.cell x c e
  exact absurd (Nat.lt_of_lt_of_le q.lt (by rw [z]; exact hb)) (Nat.lt_irrefl _)
 ·exact absurd (Nat.lt_of_lt_of_le (Heap.lt_size (I.pin p hp).1) (by rw [z]; exact hb)) (Nat.lt_irrefl _)
structure Turn (P : Program) (w : World) (K : PySem.W.Frag) (tg : Expr) (J : It) (fp : List Addr) (it : Addr) (tn : Nat → Heap → Prop) : Prop where
 mem : it ∈ fp
 obj : ∀ i h, tn i h → ∀ b ∈ fp, ∃ o, h.get? b = some o ∧ ∀ v, o.data ≠ .cell v
 keep : ∀ i h h', tn i h → (∀ b ∈ fp, ∀ o, h.get? b = some o → h'.get? b = some o) → tn i h'
 item : ∀ (X : Cx), X.prog = P → X.w = w → X.K = K → X.calm = true → ∀ (i : Nat) (pins : List (Addr × Obj)) (s : Shared) (σ : St) (H : Hp) (E : Value → Shared → Prop), Inv X pins σ H s → (∀ b ∈ fp, J9 X pins H b) → tn i s.heap → J.go i H →
  wpAny (model P w) X.A (pyNext (.ref it)) (fun r s1 => ∃ u, r = some u ∧
   wpAny (model P w) X.A (letOwnedTupleGo tg (.ref it) u) (fun _ s2 => ∃ x H', Inv X pins σ H' s2 ∧ RelV x u ∧ J.yld i H x H' ∧ tn (i + 1) s2.heap ∧ ∀ b ∈ fp, H' b = none) E s1) E s
 done : ∀ (X : Cx), X.prog = P → X.w = w → X.K = K → X.calm = true → ∀ (i : Nat) (pins : List (Addr × Obj)) (s : Shared) (σ : St) (H : Hp) (E : Value → Shared → Prop), Inv X pins σ H s → (∀ b ∈ fp, J9 X pins H b) → tn i s.heap → J.stop i H →
  wpAny (model P w) X.A (pyNext (.ref it)) (fun r s1 => r = none ∧ Inv X pins σ H s1) E s
 self : ∀ (A : Around) (i : Nat) (s : Shared) (Q : Value → Shared → Prop) (E : Value → Shared → Prop), tn i s.heap → Q (.ref it) s → wpAny (model P w) A (pyIter (.ref it)) Q E s
noncomputable abbrev TI := St → Hp → (It → Hp → Prop) → Prop
noncomputable def dS (X : Cx) (pins : List (Addr × Obj)) (σ : St) (tg : Expr) (R : It → Hp → Prop) (itv : Value) (s2 : Shared) : Prop :=
 ∃ (it : Addr) (fp : List Addr) (tn : Nat → Heap → Prop) (J : It) (H' : Hp), itv = .ref it ∧ Inv X pins σ H' s2 ∧ Turn X.prog X.w X.K tg J fp it tn ∧ tn 0 s2.heap ∧ (∀ b ∈ fp, J9 X pins H' b) ∧ R J H'
noncomputable def PI (X : Cx) (tg iter : Expr) (wi : TI) : Prop :=
 ∀ (pins : List (Addr × Obj)) (s : Shared) (σ : St) (H : Hp) (R : It → Hp → Prop), Inv X pins σ H s → wi σ H R →
  wpAny (model X.prog X.w) X.A (eval iter X.env) (fun v s1 => wpAny (model X.prog X.w) X.A (pyIter v) (dS X pins σ tg R) X.xe s1) X.xe s
theorem bV {M : Model} {A : Around} {E : Value → Shared → Prop} {s : Shared} {tg : Expr} {it : Addr} {u : Value} {o : Obj} {n : String} {vs : Array Value} {Q : Unit → Shared → Prop} (ho : s.heap.get? it = some o) (hc : o.cls = .type n) (hd : o.data = .fields vs)
    (hn : ["enumerate", "zip", "dict_itemiterator", "dict_reverseitemiterator", "odict_iterator", "itertools.zip_longest", "itertools.pairwise"].contains n = false) (hQ : Q () s) : wpAny M A (letOwnedTupleGo tg (.ref it) u) Q E s := by
  unfold letOwnedTupleGo
  cases tg <;> first
    | exact wpAny_pure hQ
    | (cases u <;> first
        | exact wpAny_pure hQ
        | (refine wpAny_bind (wpAny_load ho ?_)
           rw [hc, hd]
           show wpAny M A (if (["enumerate", "zip", "dict_itemiterator", "dict_reverseitemiterator", "odict_iterator", "itertools.zip_longest", "itertools.pairwise"].contains n && vs[0]? == some (rawInt _)) = true then _ else _) Q E s
           rw [if_neg (by intro h; rw [hn, Bool.false_and] at h; cases h)]
           exact wpAny_pure hQ))
noncomputable def U7 (K : PySem.W.Frag) (a : Addr) : It :=
 ⟨fun i H => ∃ xs x, SqL K H a xs ∧ xs[i]? = some x, fun i H x H' => H' = H ∧ ∀ xs, SqL K H a xs → xs[i]? = some x, fun i H => ∃ xs, SqL K H a xs ∧ xs.length ≤ i⟩
noncomputable def W2 (K : PySem.W.Frag) (a : Addr) : It :=
 ⟨fun i H => ∃ xs x, SqT K H a xs ∧ xs[i]? = some x, fun i H x H' => H' = H ∧ ∀ xs, SqT K H a xs → xs[i]? = some x, fun i H => ∃ xs, SqT K H a xs ∧ xs.length ≤ i⟩
noncomputable def N5 (lo : Int) (n : Nat) : It := ⟨fun i _ => i < n, fun i H x H' => H' = H ∧ x = .int (lo + i), fun i _ => n ≤ i⟩
theorem tQ {P : Program} {w : World} {K : PySem.W.Frag} {tg : Expr} (a it : Addr) : Turn P w K tg (U7 K a) [it] it (fun i h => h.IsListIter it a i) where
 mem := by simp
 obj := fun i h st b hb => by
  have e : b = it := by simpa using hb
  subst e
  obtain ⟨o, e, c, d⟩ := st
  exact ⟨o, e, fun v z => by rw [d] at z; cases z⟩
 keep := fun i h h' st k => st.at fun o e => k it (by simp) o e
 item := by
  intro X hP hw hK hc i pins s σ H E I hf st hg
  subst hP hw hK
  obtain ⟨xs, x, hq, hx⟩ := hg
  obtain ⟨its, rv, p, hz⟩ := I.list hq
  obtain ⟨u, hu, ru⟩ := rv.get hx
  obtain ⟨f0, f1, f2, f3, f4, f5⟩ := hf it (by simp)
  refine wpAny_pyNext_list_item st p.isList (x := u) (by simpa using hu) fun h' st' sb => ?_
  have I1 : Inv X pins σ H { s with heap := h' } := I.turned (t' := s.toks) (fun b o hb e => (sb.2 b hb).trans e) f0 f1 f3 f4 f5
  obtain ⟨o, e, c, d⟩ := id st'
  exact ⟨u, rfl, bV (s := { s with heap := h' }) e c d (by decide) ⟨x, H, I1, ru, ⟨rfl, fun ys hy => by rw [I.list_inj hy hq]; exact hx⟩, st', fun b hb => (hf b hb).1⟩⟩
 done := by
  intro X hP hw hK hc i pins s σ H E I hf st hg
  subst hP hw hK
  obtain ⟨xs, hq, hx⟩ := hg
  obtain ⟨its, rv, p, hz⟩ := I.list hq
  obtain ⟨f0, f1, f2, f3, f4, f5⟩ := hf it (by simp)
  have hl := rv.length
  exact wpAny_pyNext_list_end (I.ok.hd hc) st p.isList (by simp; omega) fun h' eb => ⟨rfl, I.turned (t' := s.toks) (fun b o hb e => eb b o hb e) f0 f1 f3 f4 f5⟩
 self := fun _ _ _ _ _ st h => wpAny_pyIter_listiter st h
theorem lq {P : Program} {w : World} {K : PySem.W.Frag} {tg : Expr} (a it : Addr) : Turn P w K tg (W2 K a) [it] it (fun i h => h.IsTupleIter it a i) where
 mem := by simp
 obj := fun i h st b hb => by
  have e : b = it := by simpa using hb
  subst e
  obtain ⟨o, e, c, d⟩ := st
  exact ⟨o, e, fun v z => by rw [d] at z; cases z⟩
 keep := fun i h h' st k => st.at fun o e => k it (by simp) o e
 item := by
  intro X hP hw hK hc i pins s σ H E I hf st hg
  subst hP hw hK
  obtain ⟨xs, x, hq, hx⟩ := hg
  obtain ⟨its, rv, p, hz⟩ := I.tuple hq
  obtain ⟨u, hu, ru⟩ := rv.get hx
  obtain ⟨f0, f1, f2, f3, f4, f5⟩ := hf it (by simp)
  refine wpAny_pyNext_tuple_item st (show s.heap.IsTuple a its.toArray from p) (x := u) (by simpa using hu) fun h' st' sb => ?_
  have I1 : Inv X pins σ H { s with heap := h' } := I.turned (t' := s.toks) (fun b o hb e => (sb.2 b hb).trans e) f0 f1 f3 f4 f5
  obtain ⟨o, e, c, d⟩ := id st'
  exact ⟨u, rfl, bV (s := { s with heap := h' }) e c d (by decide) ⟨x, H, I1, ru, ⟨rfl, fun ys hy => by rw [I.tuple_inj hy hq]; exact hx⟩, st', fun b hb => (hf b hb).1⟩⟩
 done := by
  intro X hP hw hK hc i pins s σ H E I hf st hg
  subst hP hw hK
  obtain ⟨xs, hq, hx⟩ := hg
  obtain ⟨its, rv, p, hz⟩ := I.tuple hq
  obtain ⟨f0, f1, f2, f3, f4, f5⟩ := hf it (by simp)
  have hl := rv.length
  exact wpAny_pyNext_tuple_end (I.ok.hd hc) st (show s.heap.IsTuple a its.toArray from p) (by simp; omega) fun h' eb => ⟨rfl, I.turned (t' := s.toks) (fun b o hb e => eb b o hb e) f0 f1 f3 f4 f5⟩
 self := fun _ _ _ _ _ st h => wpAny_pyIter_tupleiter st h
theorem oz {P : Program} {w : World} {K : PySem.W.Frag} {tg : Expr} (it : Addr) (lo : Int) (n : Nat) : Turn P w K tg (N5 lo n) [it] it (fun i h => IsRangeIter h it (lo + (i : Nat) * 1) ((n : Int) - (i : Nat)) 1) where
 mem := by simp
 obj := fun i h st b hb => by
  have e : b = it := by simpa using hb
  subst e
  exact ⟨_, st, fun v z => by
   have z' : Data.fields _ = Data.cell v := z
   cases z'⟩
 keep := fun i h h' st k => k it (by simp) _ st
 item := by
  intro X hP hw hK hc i pins s σ H E I hf st hg
  subst hP hw hK
  obtain ⟨f0, f1, f2, f3, f4, f5⟩ := hf it (by simp)
  have W := Walks.range (prog := X.prog) (w := X.w) (I.ok.hd hc) it lo 1 n
  refine W.item i s _ _ hg st fun v h' tk hv st' kk => ?_
  obtain ⟨t, rfl⟩ := hv
  have I1 : Inv X pins σ H { s with heap := h', toks := tk } := I.turned (fun b o hb e => kk b o (by simpa using hb) e) f0 f1 f3 f4 f5
  refine ⟨_, rfl, bV (s := { s with heap := h', toks := tk }) (n := "range_iterator") st' rfl rfl (by decide) ⟨.int (lo + i), H, I1, ⟨t, ?_⟩, ⟨rfl, rfl⟩, st', fun b hb => (hf b hb).1⟩⟩
  rw [Int.mul_one]
 done := by
  intro X hP hw hK hc i pins s σ H E I hf st hg
  subst hP hw hK
  obtain ⟨f0, f1, f2, f3, f4, f5⟩ := hf it (by simp)
  exact wpAny_pyNext_range_end (I.ok.hd hc) st (by have : n ≤ i := hg; omega) fun h' eb => ⟨rfl, I.turned (t' := s.toks) (fun b o hb e => eb b o hb e) f0 f1 f3 f4 f5⟩
 self := fun _ _ _ _ _ st h => wpAny_pyIter_rangeiter st h
section
variable {X : Cx} {tg : Expr}
theorem nv {pins : List (Addr × Obj)} {σ : St} {H : Hp} {s : Shared} {R : It → Hp → Prop} {E : Value → Shared → Prop} {lo hi : Int} {t u v : Tok} {tk : Nat} (I : Inv X pins σ H s) (h1 : -(2 ^ 62) ≤ lo) (h2 : lo < 2 ^ 62) (h3 : -(2 ^ 62) ≤ hi) (h4 : hi < 2 ^ 62)
  (q : R (N5 lo (hi - lo).toNat) H) : wpAny (model X.prog X.w) X.A (pyIter (.ref s.heap.objs.size)) (dS X pins σ tg R) E { s with heap := s.heap.push { cls := .type "range", data := .fields #[.int lo t, .int hi u, .int 1 v] }, toks := tk } := by
 refine wpAny_pyIter_range (IsRange.new ..) (small_one h1 h2 h3 h4) ?_
 have I1 : Inv X pins σ H { s with heap := s.heap.push { cls := .type "range", data := .fields #[.int lo t, .int hi u, .int 1 v] }, toks := tk } := I.kept fun b o e => Heap.get?_push_of_some _ e
 refine ⟨(s.heap.push { cls := .type "range", data := .fields #[.int lo t, .int hi u, .int 1 v] }).objs.size, [(s.heap.push { cls := .type "range", data := .fields #[.int lo t, .int hi u, .int 1 v] }).objs.size], _, _, H, rfl,
  I1.kept (t' := tk) fun b o e => Heap.get?_push_of_some _ e, oz _ lo (hi - lo).toNat, ?_, fun b hb => ?_, q⟩
 ·have e1 : lo + ((0 : Nat) : Int) * 1 = lo := by simp
  have e2 : (((hi - lo).toNat : Nat) : Int) - ((0 : Nat) : Int) = Builtin.Range.rangeSize lo hi 1 := by rw [rangeSize_one]; split <;> omega
  show IsRangeIter _ _ (lo + ((0 : Nat) : Int) * 1) ((((hi - lo).toNat : Nat) : Int) - ((0 : Nat) : Int)) 1
  rw [e1, e2]
  exact Heap.get?_push_size _ rfl
 ·have e : b = (s.heap.push { cls := .type "range", data := .fields #[.int lo t, .int hi u, .int 1 v] }).objs.size := by simpa using hb
  subst e
  exact I1.fpOk (Nat.le_refl _) (I1.hok.fresh (Nat.le_refl _))
noncomputable def tX (ta : TA) : TI := fun σ H R => ta σ H fun vs H1 => ∃ j : Int, vs = [.int j] ∧ -(2 ^ 62) ≤ j ∧ j < 2 ^ 62 ∧ R (N5 0 j.toNat) H1
theorem gN {a : Expr} {ta : TA} {p pos : Pos} (hg : Gl X "range") (hm : X.mg "range" = none) (ha : PA X [a] ta) (hs : starEach [a] X.env = [(false, eval a X.env)] := by rfl) : PI X tg (.Call (.Name "range" p) [a] [] pos) (tX ta) := by
 intro pins s σ H R I h
 refine Call_ (ao I hg hm boot_range (PyProof.Rows.callWith_type1 (i7 (ha pos pins s σ H _ I h) fun us s1 ⟨vs, H1, I1, r1, q1⟩ => ?_) hs rfl))
 obtain ⟨j, e, q1, q2, q⟩ := q1
 subst e
 cases r1 with
 | cons r rr =>
  cases rr
  obtain ⟨t, rfl⟩ := r
  exact call_range_1 (nv I1 (by omega) (by omega) q1 q2 (by simpa using q))
noncomputable def pq (wi : TI) (g : TG) (tb : TS) : TS := fun D σ H => wi σ H fun J H1 => ∃ W : Nat → Nat → St → Hp → Prop, (∃ m, W 0 m σ H1) ∧ ∀ i m σ H, W i m σ H →
 (J.stop i H ∧ D.nx σ H) ∨ (J.go i H ∧ ∃ N : St → Hp → Prop, (∀ σ' H', N σ' H' → ∃ m', m' < m ∧ W (i + 1) m' σ' H') ∧ ∀ x H', J.yld i H x H' → g x σ H' fun σ2 H2 => tb { D with nx := N, ct := N, bk := D.nx } σ2 H2)
noncomputable def V0 (fp : List Addr) (h : Heap) : List (Addr × Obj) := fp.filterMap fun b => (h.get? b).map fun o => (b, o)
theorem Z2 {fp : List Addr} {h : Heap} {b : Addr} {o : Obj} (hb : b ∈ fp) (e : h.get? b = some o) : (b, o) ∈ V0 fp h := List.mem_filterMap.mpr ⟨b, hb, by rw [e]; rfl⟩
theorem nY {fp : List Addr} {h : Heap} {p : Addr × Obj} (hp : p ∈ V0 fp h) : p.1 ∈ fp ∧ h.get? p.1 = some p.2 := by
 obtain ⟨b, hb, e⟩ := List.mem_filterMap.mp hp
 cases q : h.get? b with
 | none => rw [q] at e; cases e
 | some o =>
  rw [q] at e
  have e' : (b, o) = p := Option.some.inj e
  subst e'
  exact ⟨hb, q⟩
theorem Inv.pinned {pins : List (Addr × Obj)} {σ : St} {H : Hp} {s : Shared} {fp : List Addr} (I : Inv X pins σ H s) (hf : ∀ b ∈ fp, J9 X pins H b) (ho : ∀ b ∈ fp, ∃ o, s.heap.get? b = some o ∧ ∀ v, o.data ≠ .cell v) : Inv X (pins ++ V0 fp s.heap) σ H s :=
 I.pins_of fun p hp => (List.mem_append.mp hp).elim (fun z => I.pin p (List.mem_append_right _ z)) fun z => by
  obtain ⟨hb, e⟩ := nY z
  obtain ⟨f0, f1, f2, _⟩ := hf p.1 hb
  obtain ⟨o, e', d⟩ := ho p.1 hb
  rw [e] at e'; cases e'
  exact ⟨e, f0, f1, f2, d⟩
theorem Inv.unpinned {pins pl : List (Addr × Obj)} {σ : St} {H : Hp} {s : Shared} (I : Inv X (pins ++ pl) σ H s) : Inv X pins σ H s := I.pins_of fun p hp => I.pin p (List.mem_append_right _ (List.mem_append_left _ hp))
theorem gs {iter : Expr} {body : List Stmt} {wi : TI} {g : TG} {tb : TS} {pos : Pos} (hp : PassesOwn (model X.prog X.w) X.A X.env X.xe) (hc : X.calm = true) (hi : PI X tg iter wi) (hg : PG X tg g) (hb : PSs X body tb)
  (hs : ∀ x, foldedSetIterable iter X.env x = pure x := by intro _; rfl) : PS X (.For tg iter body [] pos) (pq wi g tb) := by
 intro pins s σ H D I h
 refine wpAny_For (i7 (hi pins s σ H _ I h) fun v s1 h1 => i7 h1 fun itv s2 h2 => ?_) hs
 obtain ⟨it, fp, tn, J, H2, e, I2, T, st2, f2, W, ⟨m0, w0⟩, turn⟩ := h2
 subst e
 have stat : ∀ {H' : Hp}, (∀ b ∈ fp, H' b = none) → ∀ b ∈ fp, J9 X pins H' b := fun hn b hb => ⟨hn b hb, (f2 b hb).2⟩
 refine codeAny_forLoop_any (fun n s' => ∃ i σ' H', Inv X pins σ' H' s' ∧ tn i s'.heap ∧ (∀ b ∈ fp, H' b = none) ∧ W i n σ' H') ?_ m0 ⟨0, σ, H2, I2, st2, fun b hb => (f2 b hb).1, w0⟩
 rintro n s3 ⟨i, σ3, H3, I3, st3, fr3, w3⟩
 rcases turn i n σ3 H3 w3 with ⟨stop, qn⟩ | ⟨go, N, hN, step⟩
 ·refine wpAny_passesOwn hp (i7 (T.done X rfl rfl rfl hc i pins s3 σ3 H3 X.xe I3 (stat fr3) st3 stop) fun r s4 ⟨hr, I4⟩ => ?_)
  subst hr
  exact wpAny_execs_nil ⟨σ3, H3, I4, qn⟩
 ·refine wpAny_passesOwn hp (i7 (T.item X rfl rfl rfl hc i pins s3 σ3 H3 X.xe I3 (stat fr3) st3 go) fun r s4 ⟨u, hr, h4⟩ => ?_)
  subst hr
  refine wpAny_passesOwn hp (i7 h4 fun _ s5 ⟨x, H5, I5, r5, y5, st5, fr5⟩ => ?_)
  have I5' := I5.pinned (stat fr5) (T.obj _ _ st5)
  refine wpAny_passesOwn hp (i7 (hg _ s5 σ3 H5 x u _ I5' r5 (step x H5 y5)) fun _ s6 ⟨σ6, H6, I6, q6⟩ => ?_)
  refine wpAny_passesOwn hp (i7 (hb _ s6 σ6 H6 _ I6 q6) fun f s7 q7 => ?_)
  have again : ∀ {σ7 : St} {H7 : Hp}, Inv X (pins ++ V0 fp s5.heap) σ7 H7 s7 → N σ7 H7 → ∃ m, m < n ∧ ∃ i σ' H', Inv X pins σ' H' s7 ∧ tn i s7.heap ∧ (∀ b ∈ fp, H' b = none) ∧ W i m σ' H' := fun {σ7 H7} I7 n7 => by
   obtain ⟨m', hm, w7⟩ := hN σ7 H7 n7
   refine ⟨m', hm, i + 1, σ7, H7, I7.unpinned, T.keep _ _ _ st5 fun b hb o e => (I7.pin (b, o) (List.mem_append_right _ (List.mem_append_right _ (Z2 hb e)))).1, fun b hb => ?_, w7⟩
   obtain ⟨o, e, d⟩ := T.obj _ _ st5 b hb
   exact (I7.pin (b, o) (List.mem_append_right _ (List.mem_append_right _ (Z2 hb e)))).2.1
  cases f with
  | next => obtain ⟨σ7, H7, I7, n7⟩ := q7; exact again I7 n7
  | cont => obtain ⟨σ7, H7, I7, n7⟩ := q7; exact again I7 n7
  | brk => obtain ⟨σ7, H7, I7, q7⟩ := q7; exact ⟨σ7, H7, I7.unpinned, q7⟩
  | ret v => obtain ⟨x7, σ7, H7, I7, r7, q7⟩ := q7; exact ⟨x7, σ7, H7, I7.unpinned, r7, q7⟩
end
theorem qE {K : PySem.W.Frag} {a : Addr} {xs : List V} {g : TG} {tb : TS} {D : Ends} {σ : St} {H : Hp} (Pv : Nat → St → Hp → Prop) (h0 : Pv 0 σ H) (hl : ∀ i σ H, i ≤ xs.length → Pv i σ H → SqL K H a xs)
  (hs : ∀ i x σ H, xs[i]? = some x → Pv i σ H → g x σ H fun σ2 H2 => tb { D with nx := Pv (i + 1), ct := Pv (i + 1), bk := D.nx } σ2 H2) (hd : ∀ σ H, Pv xs.length σ H → D.nx σ H) :
  ∃ W : Nat → Nat → St → Hp → Prop, (∃ m, W 0 m σ H) ∧ ∀ i m σ H, W i m σ H →
   ((U7 K a).stop i H ∧ D.nx σ H) ∨ ((U7 K a).go i H ∧ ∃ N : St → Hp → Prop, (∀ σ' H', N σ' H' → ∃ m', m' < m ∧ W (i + 1) m' σ' H') ∧ ∀ x H', (U7 K a).yld i H x H' → g x σ H' fun σ2 H2 => tb { D with nx := N, ct := N, bk := D.nx } σ2 H2) := by
 refine ⟨fun i m σ H => m = xs.length - i ∧ i ≤ xs.length ∧ Pv i σ H, ⟨xs.length, by simp, Nat.zero_le _, h0⟩, ?_⟩
 rintro i m σ H ⟨rfl, hi, p⟩
 have q := hl i σ H hi p
 by_cases hlt : i < xs.length
 ·refine .inr ⟨⟨xs, xs[i], q, by simp [hlt]⟩, Pv (i + 1), fun σ' H' p' => ⟨xs.length - (i + 1), by omega, rfl, hlt, p'⟩, fun x H' y => ?_⟩
  obtain ⟨e, y⟩ := y
  subst e
  exact hs i x σ _ (y xs q) p
 ·have e : i = xs.length := by omega
  subst e
  exact .inl ⟨⟨xs, q, Nat.le_refl _⟩, hd σ H p⟩
theorem kO {K : PySem.W.Frag} {a : Addr} {xs : List V} {g : TG} {tb : TS} {D : Ends} {σ : St} {H : Hp} (Pv : Nat → St → Hp → Prop) (h0 : Pv 0 σ H) (hl : ∀ i σ H, i ≤ xs.length → Pv i σ H → SqT K H a xs)
  (hs : ∀ i x σ H, xs[i]? = some x → Pv i σ H → g x σ H fun σ2 H2 => tb { D with nx := Pv (i + 1), ct := Pv (i + 1), bk := D.nx } σ2 H2) (hd : ∀ σ H, Pv xs.length σ H → D.nx σ H) :
  ∃ W : Nat → Nat → St → Hp → Prop, (∃ m, W 0 m σ H) ∧ ∀ i m σ H, W i m σ H →
   ((W2 K a).stop i H ∧ D.nx σ H) ∨ ((W2 K a).go i H ∧ ∃ N : St → Hp → Prop, (∀ σ' H', N σ' H' → ∃ m', m' < m ∧ W (i + 1) m' σ' H') ∧ ∀ x H', (W2 K a).yld i H x H' → g x σ H' fun σ2 H2 => tb { D with nx := N, ct := N, bk := D.nx } σ2 H2) := by
 refine ⟨fun i m σ H => m = xs.length - i ∧ i ≤ xs.length ∧ Pv i σ H, ⟨xs.length, by simp, Nat.zero_le _, h0⟩, ?_⟩
 rintro i m σ H ⟨rfl, hi, p⟩
 have q := hl i σ H hi p
 by_cases hlt : i < xs.length
 ·refine .inr ⟨⟨xs, xs[i], q, by simp [hlt]⟩, Pv (i + 1), fun σ' H' p' => ⟨xs.length - (i + 1), by omega, rfl, hlt, p'⟩, fun x H' y => ?_⟩
  obtain ⟨e, y⟩ := y
  subst e
  exact hs i x σ _ (y xs q) p
 ·have e : i = xs.length := by omega
  subst e
  exact .inl ⟨⟨xs, q, Nat.le_refl _⟩, hd σ H p⟩
theorem rn {lo : Int} {n : Nat} {g : TG} {tb : TS} {D : Ends} {σ : St} {H : Hp} (Pv : Nat → St → Hp → Prop) (h0 : Pv 0 σ H)
  (hs : ∀ i σ H, i < n → Pv i σ H → g (.int (lo + i)) σ H fun σ2 H2 => tb { D with nx := Pv (i + 1), ct := Pv (i + 1), bk := D.nx } σ2 H2) (hd : ∀ σ H, Pv n σ H → D.nx σ H) :
  ∃ W : Nat → Nat → St → Hp → Prop, (∃ m, W 0 m σ H) ∧ ∀ i m σ H, W i m σ H →
   ((N5 lo n).stop i H ∧ D.nx σ H) ∨ ((N5 lo n).go i H ∧ ∃ N : St → Hp → Prop, (∀ σ' H', N σ' H' → ∃ m', m' < m ∧ W (i + 1) m' σ' H') ∧ ∀ x H', (N5 lo n).yld i H x H' → g x σ H' fun σ2 H2 => tb { D with nx := N, ct := N, bk := D.nx } σ2 H2) := by
 refine ⟨fun i m σ H => m = n - i ∧ i ≤ n ∧ Pv i σ H, ⟨n, by simp, Nat.zero_le _, h0⟩, ?_⟩
 rintro i m σ H ⟨rfl, hi, p⟩
 by_cases hlt : i < n
 ·refine .inr ⟨hlt, Pv (i + 1), fun σ' H' p' => ⟨n - (i + 1), by omega, rfl, hlt, p'⟩, fun x H' y => ?_⟩
  obtain ⟨e, y⟩ := y
  subst e y
  exact hs i σ _ hlt p
 ·have e : i = n := by omega
  subst e
  exact .inl ⟨Nat.le_refl _, hd σ H p⟩
noncomputable abbrev R2 := V → V → Hp → VK → Prop
noncomputable def OpR (X : Cx) (f : Value → Value → Sem Value) (r : R2) : Prop :=
 ∀ (pins : List (Addr × Obj)) (s : Shared) (σ : St) (H : Hp) (x y : V) (v u : Value) (Q : VK), Inv X pins σ H s → RelV x v → RelV y u → r x y H Q →
  wpAny (model X.prog X.w) X.A (f v u) (EP X pins σ Q) X.xe s
noncomputable def X9 (X : Cx) (f : Value → Sem Value) (r : V → Hp → VK → Prop) : Prop :=
 ∀ (pins : List (Addr × Obj)) (s : Shared) (σ : St) (H : Hp) (x : V) (v : Value) (Q : VK), Inv X pins σ H s → RelV x v → r x H Q →
  wpAny (model X.prog X.w) X.A (f v) (EP X pins σ Q) X.xe s
noncomputable def CallR (X : Cx) (f : Value) (r : List V → Hp → VK → Prop) : Prop :=
 ∀ (pins : List (Addr × Obj)) (s : Shared) (σ : St) (H : Hp) (xs : List V) (us : List Value) (Q : VK), Inv X pins σ H s → Vals xs us → r xs H Q →
  wpAny (model X.prog X.w) X.A (call f us) (EP X pins σ Q) X.xe s
noncomputable def jJ (X : Cx) (r : V → Hp → (Bool → Hp → Prop) → Prop) : Prop :=
 ∀ (pins : List (Addr × Obj)) (s : Shared) (σ : St) (H : Hp) (x : V) (v : Value) (Q : Bool → Hp → Prop), Inv X pins σ H s → RelV x v → r x H Q →
  wpAny (model X.prog X.w) X.A (truthy v) (TP X pins σ Q) X.xe s
noncomputable def V2 (r : R2) (ta tb : TE) : TE := fun σ H Q => ta σ H fun x H1 => tb σ H1 fun y H2 => r x y H2 Q
noncomputable def oB (r : V → Hp → VK → Prop) (ta : TE) : TE := fun σ H Q => ta σ H fun x H1 => r x H1 Q
noncomputable def rI (C : Int → Int → Prop) (g : Int → Int → V) : R2 := fun x y H Q => ∃ i j, x = .int i ∧ y = .int j ∧ C i j ∧ Q (g i j) H
noncomputable def D6 (g : Int → Int → V) : R2 := fun x y H Q => ∃ i j, x = .int i ∧ y = .int j ∧ Q (g i j) H
noncomputable def rU (g : Int → V) : V → Hp → VK → Prop := fun x H Q => ∃ i, x = .int i ∧ Q (g i) H
section
variable {X : Cx} {a b c : Expr} {ta tb tc : TE} {pos : Pos}
theorem bJ (ha : PE X a ta) (hb : PE X b tb) {pins : List (Addr × Obj)} {s : Shared} {σ : St} {H : Hp} {R : V → V → Hp → Prop} (I : Inv X pins σ H s)
  (h : ta σ H fun x H1 => tb σ H1 fun y H2 => R x y H2) {Q : Value → Shared → Prop} {f : Value → Value → Sem Value}
  (hf : ∀ v u s2 x y H2, Inv X pins σ H2 s2 → RelV x v → RelV y u → R x y H2 → wpAny (model X.prog X.w) X.A (f v u) Q X.xe s2) :
  wpAny (model X.prog X.w) X.A (eval a X.env) (fun v s₁ => wpAny (model X.prog X.w) X.A (eval b X.env) (fun u s₂ => wpAny (model X.prog X.w) X.A (f v u) Q X.xe s₂) X.xe s₁) X.xe s := by
 refine i7 (ha pins s σ H _ I h) fun v s1 ⟨x, H1, I1, r1, q1⟩ => ?_
 refine i7 (hb pins s1 σ H1 _ I1 q1) fun u s2 ⟨y, H2, I2, r2, q2⟩ => ?_
 exact hf v u s2 x y H2 I2 r1 r2 q2
theorem jI {op : Operator} {r : R2} (ho : OpR X (binaryOp op) r) (ha : PE X a ta) (hb : PE X b tb) : PE X (.BinOp a op b pos) (V2 r ta tb) := by
 intro pins s σ H Q I h
 exact wpAny_BinOp (bJ ha hb I h fun v u s2 x y H2 I2 rx ry q => ho pins s2 σ H2 x y v u Q I2 rx ry q)
theorem nk {op : UnaryOp} {r : V → Hp → VK → Prop} (ho : X9 X (unaryOp op) r) (ha : PE X a ta) : PE X (.UnaryOp op a pos) (oB r ta) := by
 intro pins s σ H Q I h
 exact UnaryOp_ (i7 (ha pins s σ H _ I h) fun v s1 ⟨x, H1, I1, r1, q1⟩ => ho pins s1 σ H1 x v Q I1 r1 q1)
theorem ag {f : Value → Value → Sem Value} {C : Int → Int → Prop} {g : Int → Int → Int}
  (rule : ∀ (i j : Int) (t u : Tok) (s : Shared) (Q : Value → Shared → Prop) (E : Value → Shared → Prop), C i j → Q (.int (g i j) s.toks) { s with toks := s.toks + 1 } → wpAny (model X.prog X.w) X.A (f (.int i t) (.int j u)) Q E s) :
  OpR X f (rI C fun i j => .int (g i j)) := by
 intro pins s σ H x y v u Q I rx ry h
 obtain ⟨i, j, rfl, rfl, hc, q⟩ := h
 obtain ⟨t, rfl⟩ := rx
 obtain ⟨t', rfl⟩ := ry
 exact rule i j t t' s _ _ hc ⟨.int (g i j), H, I.tok _, ⟨_, rfl⟩, q⟩
theorem hV {f : Value → Value → Sem Value} {g : Int → Int → Int}
  (rule : ∀ (i j : Int) (t u : Tok) (s : Shared) (Q : Value → Shared → Prop) (E : Value → Shared → Prop), Q (.int (g i j) s.toks) { s with toks := s.toks + 1 } → wpAny (model X.prog X.w) X.A (f (.int i t) (.int j u)) Q E s) :
  OpR X f (D6 fun i j => .int (g i j)) := by
 intro pins s σ H x y v u Q I rx ry h
 obtain ⟨i, j, rfl, rfl, q⟩ := h
 obtain ⟨t, rfl⟩ := rx
 obtain ⟨t', rfl⟩ := ry
 exact rule i j t t' s _ _ ⟨.int (g i j), H, I.tok _, ⟨_, rfl⟩, q⟩
theorem dH {f : Value → Value → Sem Value} {g : Int → Int → Bool}
  (rule : ∀ (i j : Int) (t u : Tok) (s : Shared) (Q : Value → Shared → Prop) (E : Value → Shared → Prop), Q (.bool (g i j)) s → wpAny (model X.prog X.w) X.A (f (.int i t) (.int j u)) Q E s) :
  OpR X f (D6 fun i j => .bl (g i j)) := by
 intro pins s σ H x y v u Q I rx ry h
 obtain ⟨i, j, rfl, rfl, q⟩ := h
 obtain ⟨t, rfl⟩ := rx
 obtain ⟨t', rfl⟩ := ry
 exact rule i j t t' s _ _ ⟨.bl (g i j), H, I, rfl, q⟩
noncomputable def fR (i j : Int) : Prop := 0 ≤ j ∧ j ≤ 1000000 ∧ i.natAbs < 2 ^ 64
theorem op_add : OpR X (binaryOp .Add) (D6 fun i j => .int (i + j)) := hV fun _ _ _ _ _ _ _ q => add_int q
theorem pW : OpR X (binaryOp .Sub) (D6 fun i j => .int (i - j)) := hV fun _ _ _ _ _ _ _ q => sub_int q
theorem pF : OpR X (binaryOp .Mod) (rI (fun _ j => j ≠ 0) fun i j => .int (i.fmod j)) := ag fun _ _ _ _ _ _ _ hc q => mod_int' hc q
theorem ml : OpR X (binaryOp .Pow) (rI fR fun i j => .int (i ^ j.toNat)) := ag fun _ _ _ _ _ _ _ hc q => pow_int_small hc.1 hc.2.1 hc.2.2 q
theorem nK {f : Value → Sem Value} {g : Int → Int}
  (rule : ∀ (i : Int) (t : Tok) (s : Shared) (Q : Value → Shared → Prop) (E : Value → Shared → Prop), Q (.int (g i) s.toks) { s with toks := s.toks + 1 } → wpAny (model X.prog X.w) X.A (f (.int i t)) Q E s) :
  X9 X f (rU fun i => .int (g i)) := by
 intro pins s σ H x v Q I rx h
 obtain ⟨i, rfl, q⟩ := h
 obtain ⟨t, rfl⟩ := rx
 exact rule i t s _ _ ⟨.int (g i), H, I.tok _, ⟨_, rfl⟩, q⟩
theorem uo : X9 X (unaryOp .USub) (rU fun i => .int (-i)) := nK fun _ _ _ _ _ q => neg_int q
end
noncomputable def fE : V → V → Bool
 | .non, .non => true | .non, .int _ => true | .int _, .non => true | .non, .bl _ => true | .bl _, .non => true | .non, .str _ => true | .str _, .non => true
 | .int _, .int _ => true | .bl _, .bl _ => true | .str _, .str _ => true | .byt _, .byt _ => true
 | .int _, .str _ => true | .str _, .int _ => true | .bl _, .str _ => true | .str _, .bl _ => true
 | _, _ => false
noncomputable def cA : R2 := fun x y H Q => fE x y = true ∧ Q (.bl (decide (x = y))) H
noncomputable def aJ : R2 := fun x y H Q => fE x y = true ∧ Q (.bl (!decide (x = y))) H
theorem fg {i j : Int} : decide (V.int i = V.int j) = (i == j) := by
 rw [Bool.eq_iff_iff]
 simp
theorem fw {i j : Bool} : decide (V.bl i = V.bl j) = (i == j) := by
 rw [Bool.eq_iff_iff]
 simp
theorem gK {i j : Str} : decide (V.str i = V.str j) = (i == j) := by
 rw [Bool.eq_iff_iff]
 simp
theorem eR {i j : Array UInt8} : decide (V.byt i = V.byt j) = (i.toList == j.toList) := by
 rw [Bool.eq_iff_iff]
 cases i
 cases j
 simp
section
variable {X : Cx} {a b c : Expr} {ta tb tc : TE} {pos : Pos}
theorem n6 {pins : List (Addr × Obj)} {σ : St} {H : Hp} {s : Shared} {Q : VK} {k k' : Bool} (I : Inv X pins σ H s) (q : Q (.bl k) H) (e : k = k') : EP X pins σ Q (.bool k') s := by
 subst e
 exact ⟨.bl k, H, I, rfl, q⟩
theorem op_eq : OpR X (compareOp .Eq) cA := by
 intro pins s σ H x y v u Q I rx ry h
 obtain ⟨hs, q⟩ := h
 cases x with
 | non =>
  cases rx
  cases y with
  | non => cases ry; exact PySem.EqNone.eq_none_none (n6 I q (by simp))
  | bl j => cases ry; exact PySem.EqNone.eq_none_bool (n6 I q (by simp))
  | int j => obtain ⟨t', rfl⟩ := ry; exact PySem.EqNone.eq_none_int (n6 I q (by simp))
  | str j => obtain ⟨t', rfl⟩ := ry; exact PySem.EqNone.eq_none_str (n6 I q (by simp))
  | _ => exact absurd (show false = true from hs) Bool.false_ne_true
 | bl i =>
  cases rx
  cases y with
  | non => cases ry; exact PySem.EqNone.eq_bool_none (n6 I q (by simp))
  | bl j => cases ry; exact eq_bool (n6 I q fw)
  | str j => obtain ⟨t', rfl⟩ := ry; exact PySem.EqMixed.eq_bool_str (n6 I q (by simp))
  | _ => exact absurd (show false = true from hs) Bool.false_ne_true
 | int i =>
  obtain ⟨t, rfl⟩ := rx
  cases y with
  | non => cases ry; exact PySem.EqNone.eq_int_none (n6 I q (by simp))
  | int j => obtain ⟨t', rfl⟩ := ry; exact eq_int (n6 I q fg)
  | str j => obtain ⟨t', rfl⟩ := ry; exact PySem.EqMixed.eq_int_str (n6 I q (by simp))
  | _ => exact absurd (show false = true from hs) Bool.false_ne_true
 | str i =>
  obtain ⟨t, rfl⟩ := rx
  cases y with
  | non => cases ry; exact PySem.EqNone.eq_str_none (n6 I q (by simp))
  | bl j => cases ry; exact PySem.EqMixed.eq_str_bool (n6 I q (by simp))
  | int j => obtain ⟨t', rfl⟩ := ry; exact PySem.EqMixed.eq_str_int (n6 I q (by simp))
  | str j => obtain ⟨t', rfl⟩ := ry; exact eq_str (n6 I q gK)
  | _ => exact absurd (show false = true from hs) Bool.false_ne_true
 | byt i =>
  obtain ⟨t, rfl⟩ := rx
  cases y with
  | byt j => obtain ⟨t', rfl⟩ := ry; exact PySem.W.eq_bytes (n6 I q eR)
  | _ => exact absurd (show false = true from hs) Bool.false_ne_true
 | _ => cases y <;> exact absurd (show false = true from hs) Bool.false_ne_true
theorem op_ne : OpR X (compareOp .NotEq) aJ := by
 intro pins s σ H x y v u Q I rx ry h
 obtain ⟨hs, q⟩ := h
 cases x with
 | non =>
  cases rx
  cases y with
  | non => cases ry; exact PySem.EqNone.ne_none_none (n6 I q (by simp))
  | bl j => cases ry; exact PySem.EqNone.ne_none_bool (n6 I q (by simp))
  | int j => obtain ⟨t', rfl⟩ := ry; exact PySem.EqNone.ne_none_int (n6 I q (by simp))
  | str j => obtain ⟨t', rfl⟩ := ry; exact PySem.EqNone.ne_none_str (n6 I q (by simp))
  | _ => exact absurd (show false = true from hs) Bool.false_ne_true
 | bl i =>
  cases rx
  cases y with
  | non => cases ry; exact PySem.EqNone.ne_bool_none (n6 I q (by simp))
  | bl j => cases ry; exact ne_bool (n6 I q (congrArg not fw))
  | str j => obtain ⟨t', rfl⟩ := ry; exact PySem.EqMixed.ne_bool_str (n6 I q (by simp))
  | _ => exact absurd (show false = true from hs) Bool.false_ne_true
 | int i =>
  obtain ⟨t, rfl⟩ := rx
  cases y with
  | non => cases ry; exact PySem.EqNone.ne_int_none (n6 I q (by simp))
  | int j => obtain ⟨t', rfl⟩ := ry; exact ne_int (n6 I q (congrArg not fg))
  | str j => obtain ⟨t', rfl⟩ := ry; exact PySem.EqMixed.ne_int_str (n6 I q (by simp))
  | _ => exact absurd (show false = true from hs) Bool.false_ne_true
 | str i =>
  obtain ⟨t, rfl⟩ := rx
  cases y with
  | non => cases ry; exact PySem.EqNone.ne_str_none (n6 I q (by simp))
  | bl j => cases ry; exact PySem.EqMixed.ne_str_bool (n6 I q (by simp))
  | int j => obtain ⟨t', rfl⟩ := ry; exact PySem.EqMixed.ne_str_int (n6 I q (by simp))
  | str j => obtain ⟨t', rfl⟩ := ry; exact ne_str (n6 I q (congrArg not gK))
  | _ => exact absurd (show false = true from hs) Bool.false_ne_true
 | byt i =>
  obtain ⟨t, rfl⟩ := rx
  cases y with
  | byt j => obtain ⟨t', rfl⟩ := ry; exact PySem.W.ne_bytes (n6 I q (congrArg not eR))
  | _ => exact absurd (show false = true from hs) Bool.false_ne_true
 | _ => cases y <;> exact absurd (show false = true from hs) Bool.false_ne_true
theorem lN : OpR X (compareOp .Lt) (D6 fun i j => .bl (decide (i < j))) := dH fun _ _ _ _ _ _ _ q => lt_int q
theorem ua : OpR X (compareOp .Gt) (D6 fun i j => .bl (decide (j < i))) := dH fun _ _ _ _ _ _ _ q => gt_int q
theorem tY : OpR X (compareOp .GtE) (D6 fun i j => .bl (decide (j ≤ i))) := dH fun _ _ _ _ _ _ _ q => ge_int q
theorem OpR.or {f : Value → Value → Sem Value} {r r' : R2} (h : OpR X f r) (h' : OpR X f r') : OpR X f (fun x y H Q => r x y H Q ∨ r' x y H Q) := by
 intro pins s σ H x y v u Q I rx ry q
 rcases q with q | q
 ·exact h pins s σ H x y v u Q I rx ry q
 ·exact h' pins s σ H x y v u Q I rx ry q
theorem fT (b : Expr) {op : CmpOp} (h : op ≠ .In := by decide) (h2 : op ≠ .NotIn := by decide) : behindInMarks op b = false := by
 have e1 : (op == CmpOp.In) = false := by cases op <;> first | rfl | exact absurd rfl h
 have e2 : (op == CmpOp.NotIn) = false := by cases op <;> first | rfl | exact absurd rfl h2
 cases b <;> simp [behindInMarks, e1, e2]
theorem sQ {op : CmpOp} {r : R2} (ho : OpR X (compareOp op) r) (ha : PE X a ta) (hb : PE X b tb) (hm : behindInMarks op b = false) : PE X (.Compare a [op] [b] pos) (V2 r ta tb) := by
 intro pins s σ H Q I h
 exact wpAny_Compare1 (bJ ha hb I h fun v u s2 x y H2 I2 rx ry q => ho pins s2 σ H2 x y v u Q I2 rx ry q) hm
noncomputable def kX (t : TE) : TT := fun σ H Q => t σ H fun x H' => ∃ k, x = .bl k ∧ Q k H'
theorem nD {op : CmpOp} {r : R2} (ho : OpR X (compareOp op) r) (ha : PE X a ta) (hb : PE X b tb) (hm : behindInMarks op b = false) : PT X (.Compare a [op] [b] pos) (kX (V2 r ta tb)) := by
 intro pins s σ H Q I h
 refine wpAny_isTrue_Compare1 (i7 (ha pins s σ H _ I h) fun v s1 ⟨x, H1, I1, r1, q1⟩ => i7 (hb pins s1 σ H1 _ I1 q1) fun u s2 ⟨y, H2, I2, r2, q2⟩ =>
  i7 (ho pins s2 σ H2 x y v u _ I2 r1 r2 q2) fun c s3 ⟨z, H3, I3, r3, k, e, q3⟩ => ?_) hm
 subst e
 cases r3
 exact wpAny_truthy_bool ⟨H3, I3, q3⟩
noncomputable def fN (K : PySem.W.Frag) (x : V) (H : Hp) (k : Bool) : Prop :=
 match x with
 | .non => k = false
 | .bl b => k = b
 | .int i => k = (i != 0)
 | .str y => y.length ≤ sizeLine ∧ k = ((y.length : Int) != 0)
 | .byt y => y.size ≤ sizeLine ∧ k = ((y.size : Int) != 0)
 | .ref p => (∃ xs, SqL K H p xs ∧ k = !xs.isEmpty) ∨ (∃ xs, SqT K H p xs ∧ k = !xs.isEmpty) ∨ ∃ kvs, H p = some (.dK kvs) ∧ k = !kvs.isEmpty
 | _ => False
theorem pI {κ : Type} {kvs : List (κ × V)} {vs : List (κ × Value)} (r : KV kvs vs) : (!vs.isEmpty) = !kvs.isEmpty := by
 cases r <;> rfl
theorem ie {xs : List V} {its : List Value} (r : Vals xs its) : (!its.toArray.isEmpty) = !xs.isEmpty := by
 cases r <;> simp
theorem Q3 : (sizeLine : Nat) < 2 ^ 63 := by rw [sizeLine_eq]; decide
theorem qK : jJ X (fun x H Q => ∃ k, fN X.K x H k ∧ Q k H) := by
 intro pins s σ H x v Q I rx h
 obtain ⟨k, e, q⟩ := h
 have hl := Q3
 have hs : sizeLine = 16777216 := sizeLine_eq
 cases x with
 | non =>
  cases rx
  have e' : k = false := e
  subst e'
  exact truthy_none ⟨H, I, q⟩
 | bl b =>
  cases rx
  have e' : k = b := e
  subst e'
  exact wpAny_truthy_bool ⟨H, I, q⟩
 | int i =>
  obtain ⟨t, rfl⟩ := rx
  have e' : k = (i != 0) := e
  subst e'
  exact PySem.P.truthy_int ⟨H, I, q⟩
 | str y =>
  obtain ⟨t, rfl⟩ := rx
  obtain ⟨hy, e'⟩ : y.length ≤ sizeLine ∧ k = ((y.length : Int) != 0) := e
  subst e'
  exact PySem.P.truthy_str (by omega) ⟨H, I.tok _, q⟩
 | byt y =>
  obtain ⟨t, rfl⟩ := rx
  obtain ⟨hy, e'⟩ : y.size ≤ sizeLine ∧ k = ((y.size : Int) != 0) := e
  subst e'
  exact PySem.W.truthy_bytes (by omega) ⟨H, I.tok _, q⟩
 | ref p =>
  cases rx
  have e' : (∃ xs, SqL X.K H p xs ∧ k = !xs.isEmpty) ∨ (∃ xs, SqT X.K H p xs ∧ k = !xs.isEmpty) ∨ ∃ kvs, H p = some (.dK kvs) ∧ k = !kvs.isEmpty := e
  rcases e' with ⟨xs, hx, e'⟩ | ⟨xs, hx, e'⟩ | ⟨kvs, hx, e'⟩
  ·subst e'
   obtain ⟨its, r, pl, hz⟩ := I.list hx
   have hlen := r.length
   exact wpAny_truthy_list pl.isList (by simp only [List.size_toArray]; omega) ⟨H, I.tok _, by rw [ie r]; exact q⟩
  ·subst e'
   obtain ⟨its, r, pl, hz⟩ := I.tuple hx
   have hlen := r.length
   exact truthy_tuple pl (by simp only [List.size_toArray]; omega) ⟨H, I.tok _, by rw [ie r]; exact q⟩
  ·subst e'
   obtain ⟨hz, hS, vs, r, m⟩ : kvs.length ≤ sizeLine ∧ (p == sysModules) = false ∧ ∃ vs, KV kvs vs ∧ s.heap.DictOf (cb X.prog X.w) p vs := I.hok p _ hx
   have hlen : kvs.length = vs.length := Paired.length r
   exact wpAny_truthy_dict hS m (by omega) ⟨H, I.tok _, by rw [pI r]; exact q⟩
 | _ => exact (show False from e).elim
theorem rG (ha : PE X a ta) (he : ∀ whole, isTrue a X.env whole = (do let v ← whole; standAt a.pos; holding [v] (truthy v))) :
  PT X a (fun σ H Q => ta σ H fun x H' => ∃ k, fN X.K x H' k ∧ Q k H') := by
 intro pins s σ H Q I h
 exact isTrue_plain (i7 (ha pins s σ H _ I h) fun v s1 ⟨x, H1, I1, r1, q1⟩ => qK pins s1 σ H1 x v Q I1 r1 q1) (he _)
theorem oi : OpR X (binaryOp .Add) (fun x y H Q => ∃ i j, x = .str i ∧ y = .str j ∧ i.length + j.length ≤ sizeLine ∧ Q (.str (i ++ j)) H) := by
 intro pins s σ H x y v u Q I rx ry h
 obtain ⟨i, j, rfl, rfl, hz, q⟩ := h
 obtain ⟨t, rfl⟩ := rx
 obtain ⟨t', rfl⟩ := ry
 exact add_str (fun t' tk => ⟨.str (i ++ j), H, I.tok _, ⟨_, rfl⟩, q⟩) hz
theorem T1 {x : V} {us : List Value} (r : Vals [x] us) : ∃ u, us = [u] ∧ RelV x u := by
 cases r with
 | cons r1 r2 => cases r2; exact ⟨_, rfl, r1⟩
theorem ib {x y : V} {us : List Value} (r : Vals [x, y] us) : ∃ u w', us = [u, w'] ∧ RelV x u ∧ RelV y w' := by
 cases r with
 | cons r1 r2 =>
  cases r2 with
  | cons r3 r4 => cases r4; exact ⟨_, _, rfl, r1, r3⟩
theorem me : CallR X (.builtin "abs") (fun xs H Q => ∃ i, xs = [.int i] ∧ Q (.int (if i < 0 then -i else i)) H) := by
 intro pins s σ H xs us Q I r h
 obtain ⟨i, rfl, q⟩ := h
 obtain ⟨u, rfl, t, rfl⟩ := T1 r
 exact call_abs_int fun u tk => ⟨.int (if i < 0 then -i else i), H, I.tok _, ⟨_, rfl⟩, q⟩
end
section
variable {X : Cx} {pins : List (Addr × Obj)} {σ : St} {H : Hp} {s : Shared} {a C dx : Addr} {fs : List (Str × V)} {f : Str} {v : V} {A : Around} {E : Value → Shared → Prop}
theorem ou {prog : Program} {w : World} {env : Env} {e : Expr} {f : Str} {pos : Pos} {s : Shared} {Q : Value → Shared → Prop} (hb : attributeBase e f env (eval e env) = eval e env)
  (h : wpAny (model prog w) A (eval e env) (fun o s₁ => wpAny (model prog w) A (getAttr o f true) Q E s₁) E s) : wpAny (model prog w) A (eval (.Attribute e f pos) env) Q E s :=
 Attribute_any_ h (by rw [arm_eval_Attribute, hb])
end
structure Room (k : Nat) (A : Around) : Prop where
 hd : A.handled = none
 dp : A.depth + 3 * k + 5 < recursionLimit
 un : A.units + 16 * k + 200 < cLine
 gd : A.guards = some []
theorem Room.mono {j k : Nat} {A : Around} (r : Room k A) (h : j ≤ k) : Room j A := ⟨r.hd, by have := r.dp; omega, by have := r.un; omega, r.gd⟩
theorem Room.deeper {k : Nat} {A : Around} (r : Room (k + 1) A) (env : Env) : Room k (A.deeper env) :=
 ⟨r.hd, by have := r.dp; show A.depth + 1 + 3 * k + 5 < _; omega, by have := r.un; show A.units + 3 + 16 * k + 200 < _; omega, r.gd⟩
theorem sI {A : Around} {C : Addr} {us : List Value} {kw : List (Str × Value)} : (A.under (.builtin "type.__call__" ⟨.ref C :: us, kw⟩)).depth = A.depth + 1 := by
 first | rfl | simp [Around.under, Code.weight, Code.isCreation, Code.isGuard, Code.isCaller, Code.frames, Code.isFrame, guardIds]
theorem qg {A : Around} {C : Addr} {us : List Value} {kw : List (Str × Value)} : (A.under (.builtin "type.__call__" ⟨.ref C :: us, kw⟩)).units = A.units + 1 := by
 first | rfl | simp [Around.under, Code.cUnits, Code.frames, Code.isFrame]
theorem Room.make {k : Nat} {A : Around} (r : Room (k + 1) A) (C : Addr) (us : List Value) (kw : List (Str × Value)) : Room k (A.under (.builtin "type.__call__" ⟨.ref C :: us, kw⟩)) :=
 ⟨r.hd, by have := r.dp; rw [sI]; omega, by have := r.un; rw [qg]; omega, by have := r.gd; simp [Around.under, Code.guards, Code.isGuard, guardIds, pushGuards, this]⟩
theorem Room.depth {k : Nat} {A : Around} (r : Room k A) : A.depth < recursionLimit := by have := r.dp; omega
noncomputable def gj : TA := fun _ H Q => Q [] H
noncomputable def bP (ta : TE) (tr : TA) : TA := fun σ H Q => ta σ H fun x H1 => tr σ H1 fun xs H2 => Q (x :: xs) H2
section
variable {X : Cx} {e : Expr} {es : List Expr} {te : TE} {t : TA} {pos : Pos}
theorem M5 : PA X [] gj := fun _ _ _ _ H Q I h => Calls.spliced_nil ⟨[], H, I, .nil, h⟩
theorem B8 (ha : PE X e te) (hr : PA X es t) (hs : starEach (e :: es) X.env = (false, eval e X.env) :: starEach es X.env := by rfl) : PA X (e :: es) (bP te t) := by
 intro pos pins s σ H Q I h
 rw [hs]
 show wpAny _ _ (spliced ((false, eval e X.env) :: backTo pos (starEach es X.env))) _ _ s
 refine Calls.spliced_cons (i7 (ha pins s σ H _ I h) fun u s1 ⟨x, H1, I1, r1, q1⟩ => ?_)
 exact i7 (hr pos pins s1 σ H1 _ I1 q1) fun us s2 ⟨xs, H2, I2, r2, q2⟩ => ⟨x :: xs, H2, I2, .cons r1 r2, q2⟩
noncomputable def ko (t : TA) : TE := fun σ H Q => t σ H fun xs H1 => xs.length ≤ sizeLine ∧ ∀ p, H1 p = none → Q (.ref p) (e7 H1 p (.tup xs))
noncomputable def nF (t : TA) : TE := fun σ H Q => t σ H fun xs H1 => xs.length ≤ sizeLine ∧ ∀ p, H1 p = none → Q (.ref p) (e7 H1 p (.lst xs))
theorem eF {x1} (h : PA X es t) : PE X (.Tuple es x1 pos) (ko t) := by
 intro pins s σ H Q I hq
 refine wpAny_Tuple_spliced (i7 (h pos pins s σ H _ I hq) fun us s1 ⟨xs, H1, I1, r, z, q⟩ => ⟨by rw [← r.length]; exact z, ?_⟩)
 have hf : H1 s1.heap.objs.size = none := I1.hok.fresh (Nat.le_refl _)
 refine ⟨.ref s1.heap.objs.size, e7 H1 s1.heap.objs.size (.tup xs), I1.laid (t' := s1.toks) (fun b u e => Heap.get?_push_of_some _ e) (Nat.le_refl _) ?_, rfl, q _ hf⟩
 exact ⟨z, us, r, ⟨_, Heap.get?_push_size _ rfl, rfl, _, rfl⟩⟩
theorem eX (h : PA X es t) : PE X (.List es pos) (nF t) := by
 intro pins s σ H Q I hq
 refine wpAny_List_spliced (i7 (h pos pins s σ H _ I hq) fun us s1 ⟨xs, H1, I1, r, z, q⟩ => ⟨by rw [← r.length]; exact z, ?_⟩)
 have hf : H1 s1.heap.objs.size = none := I1.hok.fresh (Nat.le_refl _)
 refine ⟨.ref s1.heap.objs.size, e7 H1 s1.heap.objs.size (.lst xs), I1.laid (t' := s1.toks) (fun b u e => Heap.get?_push_of_some _ e) (Nat.le_refl _) ?_, rfl, q _ hf⟩
 exact ⟨z, us, 0, r, Heap.get?_push_size _ rfl⟩
end
noncomputable abbrev Sp := List V → Hp → VK → XK → Prop
noncomputable abbrev C5 := List Env → Hp → Shared → XK → Value → Shared → Prop
structure Env0 (P : Program) (w : World) (K : PySem.W.Frag) (mg : Str → Option Value) (base : Heap) (A : Around) (outer : List Env) (s : Shared) (H : Hp) : Prop where
 frames : A.frames = some outer
 mod : Mod K mg base
 bs : ∀ b o, base.get? b = some o → s.heap.get? b = some o ∧ H b = none
 bsz : base.objs.size ≤ s.heap.objs.size
 funs : s.heap.FunFrames base outer
 frf : ∀ b ∈ t9 outer, H b = none
 hok : HOk P w H s.heap
 bare : AllBare s.gens
noncomputable def CE (outer : List Env) (P : Program) (w : World) (H : Hp) (s : Shared) (Q : VK) (u : Value) (s' : Shared) : Prop :=
 ∃ v H', s'.os = s.os ∧ AllBare s'.gens ∧ Un (t9 outer) [] H H' s.heap s'.heap ∧ HOk P w H' s'.heap ∧ RelV v u ∧ Q v H'
noncomputable def CR (CX : C5) (outer : List Env) (P : Program) (w : World) (H : Hp) (s : Shared) (Q : VK) (E : XK) (r : Result) (s' : Shared) : Prop :=
 match r with
 | .ok (.ret u) => CE outer P w H s Q u s'
 | .ok _ => False
 | .error e => CX outer H s E e s'
structure FnOk (P : Program) (w : World) (K : PySem.W.Frag) (mg : Str → Option Value) (base : Heap) (CX : C5) (k : Nat) (f : Addr) (fd : FuncData) (ps : List Str) (sp : Sp) : Prop where
 len : ∀ vs H Q E, sp vs H Q E → vs.length = ps.length
 run : ∀ (A : Around) (outer : List Env) (s : Shared) (H : Hp) (args : Args) (us : List Value) (vs : List V) (Q : VK) (E : XK), Room k A → Env0 P w K mg base A outer s H → BindsTo s fd args (ps.zip us) → Vals vs us → sp vs H Q E →
  codeAny (model P w) A (.call (.ref f) args) (CR CX outer P w H s Q E) s
section
variable {X : Cx} {pins : List (Addr × Obj)} {σ : St} {H : Hp} {s s' : Shared}
theorem Inv.env0 (I : Inv X pins σ H s) : Env0 X.prog X.w X.K X.mg X.base X.A X.stack s H :=
 ⟨I.ok.frames, I.ok.mod, I.bs, Nat.le_trans I.ok.bsz I.sz, I.stack, I.stkFree, I.hok, I.bare⟩
theorem Inv.after {Q : VK} {u : Value} (I : Inv X pins σ H s) (h : CE X.stack X.prog X.w H s Q u s') : EP X pins σ Q u s' := by
 obtain ⟨v, H', os, bare, un, hok, r, q⟩ := h
 obtain ⟨hh, g, d, t, os'⟩ := s'
 obtain rfl : os' = s.os := os
 exact ⟨v, H', I.call (h' := hh) (g' := g) (d' := d) (t' := t) (ch := []) un hok bare (fun b z => absurd z (by simp)), r, q⟩
end
noncomputable def eY (sp : Sp) (dvs : List V) (E : XK) (t : TA) : TE := fun σ H Q => t σ H fun vs H1 => sp (vs ++ dvs) H1 Q E
noncomputable def Binds (K : PySem.W.Frag) (fd : FuncData) (ps : List Str) (ds : List Value) : Prop :=
 ∀ (s : Shared) (us : List Value), K.In s.heap → (us ++ ds).length = ps.length → BindsTo s fd ⟨us, []⟩ (ps.zip (us ++ ds))
theorem Binds.all {K : PySem.W.Frag} {fd : FuncData} {ps : List Str} (h : ∀ us : List Value, us.length = ps.length → bindArgs fd ⟨us, []⟩ = pure (ps.zip us)) : Binds K fd ps [] := fun s us _ hl => by
 rw [List.append_nil] at hl ⊢
 exact .of_eq (h us hl)
noncomputable def bW (CX : C5) (X : Cx) (E : XK) : Prop := ∀ (pins : List (Addr × Obj)) (σ : St) (H : Hp) (s : Shared) (e : Value) (s' : Shared), Inv X pins σ H s → CX X.stack H s E e s' → X.xe e s'
section
variable {X : Cx} {CX : C5} {k : Nat} {f C : Addr} {fd : FuncData} {ps : List Str} {sp : Sp} {dvs : List V} {ds : List Value} {E : XK} {x m : Str} {p pos apos : Pos} {e o : Expr} {es : List Expr} {ta : TE} {t : TA}
theorem lu {pins : List (Addr × Obj)} {σ : St} {H : Hp} {s : Shared} {Q : VK} {us : List Value} {vs : List V} (F : FnOk X.prog X.w X.K X.mg X.base CX k f fd ps sp) (hr : Room k X.A) (hb : Binds X.K fd ps ds) (hd : Vals dvs ds) (hx : bW CX X E)
  (I : Inv X pins σ H s) (r : Vals vs us) (h : sp (vs ++ dvs) H Q E) : wpAny (model X.prog X.w) X.A (call (.ref f) us) (EP X pins σ Q) X.xe s := by
 have r2 : Vals (vs ++ dvs) (us ++ ds) := r.append hd
 have hl : (us ++ ds).length = ps.length := by rw [← r2.length]; exact F.len _ _ _ _ h
 refine wpAny_call (codeAny_mono (F.run X.A X.stack s H ⟨us, []⟩ (us ++ ds) (vs ++ dvs) Q E hr I.env0 (hb s us I.kIn hl) r2 h) fun r s' hq => ?_)
 cases r with
 | error e => exact hx pins σ H s e s' I hq
 | ok fl =>
  cases fl with
  | ret u => exact I.after hq
  | next => exact False.elim hq
  | brk => exact False.elim hq
  | cont => exact False.elim hq
theorem sW (F : FnOk X.prog X.w X.K X.mg X.base CX k f fd ps sp) (hr : Room k X.A) (hg : Gl X x) (hm : X.mg x = some (.ref f)) (hk : PySem.W.keepIn X.K (.ref f) = true) (hb : Binds X.K fd ps ds) (hd : Vals dvs ds) (hx : bW CX X E)
  (ha : PA X (e :: es) t) (hdb : (x == ("__debug__" : Str)) = false := by decide) (he : starEach (e :: es) X.env = (false, eval e X.env) :: starEach es X.env := by rfl) (hpl : (backTo pos (starEach es X.env)).any (·.1) = false := by rfl) :
  PE X (.Call (.Name x p) (e :: es) [] pos) (eY sp dvs E t) := by
 intro pins s σ H Q I h
 refine wpAny_Call_Name_kw (T7 I hg hm ?_ hdb)
 refine PySem.W.callWith_K (h₀ := X.base) I.ok.mod.kin hk (i7 (ha pos pins s σ H _ I h) fun us s1 ⟨vs, H1, I1, r, q⟩ => ⟨I1.kIn, ?_⟩) he hpl
 exact lu F hr hb hd hx I1 r q
end
structure FnScope (N P : List Str) (sc : Scope) : Prop where
 kind : sc.kind = .function
 co : sc.isCoroutine = false
 gen : sc.isGenerator = false
 nd : N.Nodup
 pre : N.take P.length = P
 par : ∀ x ∈ P, sc.names.lookup x = some .local ∨ sc.names.lookup x = some .cell
 nofree : ∀ y ∈ sc.names, y.2 ≠ .free
theorem gn {kindOf : Str → Option NameKind} {x : Str} : ∀ {binds : List (Str × Value)} {m : Str → Option Value}, (∀ v, (x, v) ∉ binds) → bindL kindOf binds m x = m x
 | [], _, _ => rfl
 | (n, v) :: r, m, h => by
  unfold bindL
  rw [gn fun w hw => h w (List.mem_cons_of_mem _ hw)]
  split
  ·have : x ≠ n := by rintro rfl; exact h v List.mem_cons_self
   simp [this]
  ·rfl
theorem fV {kindOf : Str → Option NameKind} {x : Str} : ∀ {binds : List (Str × Value)} {m : Str → Option Value}, (∀ v, (x, v) ∉ binds) → bindC kindOf binds m x = m x
 | [], _, _ => rfl
 | (n, v) :: r, m, h => by
  unfold bindC
  rw [fV fun w hw => h w (List.mem_cons_of_mem _ hw)]
  split
  ·rfl
  ·have : x ≠ n := by rintro rfl; exact h v List.mem_cons_self
   simp [this]
theorem Y9 {kindOf : Str → Option NameKind} {x : Str} {v : Value} : ∀ {P : List Str} {vs : List Value} {i : Nat} {m : Str → Option Value}, P.Nodup → P[i]? = some x → vs[i]? = some v → kindOf x = some .local →
  bindL kindOf (P.zip vs) m x = some v
 | [], _, _, _, _, h, _, _ => by simp at h
 | _ :: _, [], _, _, _, _, h, _ => by simp at h
 | p :: P, w :: vs, 0, m, nd, h1, h2, hk => by
  simp at h1 h2; subst h1; subst h2
  show bindL kindOf ((p, w) :: P.zip vs) m p = _
  unfold bindL
  rw [gn fun v hv => (List.nodup_cons.mp nd).1 (List.of_mem_zip hv).1, if_pos hk]
  simp
 | p :: P, w :: vs, i + 1, m, nd, h1, h2, hk => by
  show bindL kindOf ((p, w) :: P.zip vs) m x = _
  unfold bindL
  exact Y9 (i := i) (List.nodup_cons.mp nd).2 (by simpa using h1) (by simpa using h2) hk
theorem gh {kindOf : Str → Option NameKind} {x : Str} {v : Value} : ∀ {P : List Str} {vs : List Value} {i : Nat} {m : Str → Option Value}, P.Nodup → P[i]? = some x → vs[i]? = some v → kindOf x ≠ some .local →
  bindC kindOf (P.zip vs) m x = some v
 | [], _, _, _, _, h, _, _ => by simp at h
 | _ :: _, [], _, _, _, _, h, _ => by simp at h
 | p :: P, w :: vs, 0, m, nd, h1, h2, hk => by
  simp at h1 h2; subst h1; subst h2
  show bindC kindOf ((p, w) :: P.zip vs) m p = _
  unfold bindC
  rw [fV fun v hv => (List.nodup_cons.mp nd).1 (List.of_mem_zip hv).1, if_neg hk]
  simp
 | p :: P, w :: vs, i + 1, m, nd, h1, h2, hk => by
  show bindC kindOf ((p, w) :: P.zip vs) m x = _
  unfold bindC
  exact gh (i := i) (List.nodup_cons.mp nd).2 (by simpa using h1) (by simpa using h2) hk
noncomputable def start (N : List Str) (vs : List V) : St := vs.map some ++ List.replicate (N.length - vs.length) none
noncomputable def A9 (CX : C5) (P : Program) (w : World) (K : PySem.W.Frag) (mg : Str → Option Value) (base : Heap) (N : List Str) (qual : Str) (scope : Scope) (f : Addr) (cd : Value) (A : Around) (outer : List Env) (s : Shared) (H : Hp) (E : XK) : Cx where
 prog := P
 w := w
 K := K
 mg := mg
 base := base
 A := A.deeper (envOfC qual scope s.heap.objs.size f cd)
 N := N
 s₀ := s
 H₀ := H
 env := envOfC qual scope s.heap.objs.size f cd
 outer := outer
 stack := envOfC qual scope s.heap.objs.size f cd :: outer
 ex := []
 calm := true
 fn := fun _ => true
 pn := []
 xe := fun e s' => wpAny (model P w) (A.deeper (envOfC qual scope s.heap.objs.size f cd)) (leaving (envOfC qual scope s.heap.objs.size f cd) e) (fun _ s'' => CX outer H s E e s'') (fun e' s'' => CX outer H s E e' s'') s'
theorem fm {sc : Scope} {n : Nat} {x : Str} (h : sc.names.lookup x = some .cell) : ∃ c, (cellsFrom n sc.names []).lookup x = some c := by
 have q := PySem.W.cellsFrom_some sc.names n [] (.inl h)
 exact Option.isSome_iff_exists.mp q
theorem nL {CX : C5} {P : Program} {w : World} {K : PySem.W.Frag} {mg : Str → Option Value} {base : Heap} {N ps : List Str} {qual : Str} {scope : Scope} {f : Addr} {cd : Value} {A : Around} {outer : List Env} {s s1 : Shared} {H : Hp} {E : XK} {us : List Value} {vs : List V}
  (S : FnScope N ps scope) (hd : A.handled = none) (e0 : Env0 P w K mg base A outer s H) (hl : vs.length = ps.length) (r : Vals vs us)
  (x : InCallC s s.heap.objs.size (bindL (envOfC qual scope s.heap.objs.size f cd).kindOf (ps.zip us) fun _ => none) (cellsFrom (s.heap.objs.size + 1) scope.names []) (bindC (envOfC qual scope s.heap.objs.size f cd).kindOf (ps.zip us) fun _ => none) s1) :
  Inv (A9 CX P w K mg base N qual scope f cd A outer s H E) [] (start N vs) H s1 := by
 have hpl : ps.length ≤ N.length := by have := congrArg List.length S.pre; rw [List.length_take] at this; omega
 obtain ⟨h1, tk, rfl, hk⟩ := x.done
 have noA : ∀ b : Addr, b ∉ (A9 CX P w K mg base N qual scope f cd A outer s H E).ex := fun b z => absurd (show b ∈ ([] : List Addr) from z) (by simp)
 refine ⟨⟨e0.mod, S.kind, rfl, rfl, Nat.le_refl _, fun y z c h1 h2 => ?_, fun y hy => ?_, fun y c _ h => ?_, fun _ => hd, Around.frames_deeper e0.frames, .inr ⟨rfl, rfl⟩, fun b z => absurd z (noA b), e0.bs, e0.bsz, fun b _ _ => noA b, fun b z => absurd z (noA b), e0.funs, e0.frf⟩,
  rfl, e0.bare, Un.kept hk, ⟨_, x.toInCall.ns, fun i y v h1 h2 h3 => ?_⟩, fun y c h => ⟨_, x.cell y c h⟩, e0.hok.fresh (Nat.le_refl _), fun y c h => ?_, fun p hp => absurd (show p ∈ ([] : List (Addr × Obj)) from hp) (by simp), e0.hok.kept hk, ?_⟩
 ·exact name_of_addr x.apart (PySem.mem_of_lookup h1) (PySem.mem_of_lookup h2)
 ·have hy : scope.names.lookup y = some .cell ∨ scope.names.lookup y = some .free := hy
  rcases hy with hy | hy
  ·exact fm hy
  ·exact absurd rfl (S.nofree _ (PySem.mem_of_lookup hy))
 ·exact Nat.le_of_lt (x.above y c (PySem.mem_of_lookup h))
 ·have hi : i < vs.length := by
   unfold start at h2
   by_cases hi : i < vs.length
   ·exact hi
   ·rw [List.getElem?_append_right (by simpa using hi)] at h2
    rw [List.getElem?_replicate] at h2
    split at h2 <;> cases h2
  have ha : vs[i]? = some v := by
   unfold start at h2
   rw [List.getElem?_append_left (by simpa using hi), List.getElem?_map] at h2
   cases e : vs[i]? with
   | none => rw [e] at h2; cases h2
   | some a => rw [e] at h2; cases h2; rfl
  obtain ⟨u, hu, rv⟩ := r.get ha
  have hp : ps[i]? = some y := by
   rw [← S.pre, List.getElem?_take_of_lt (by omega)]; exact h1
  have ndP : ps.Nodup := by rw [← S.pre]; exact S.nd.sublist (List.take_sublist _ _)
  refine ⟨u, rv, ?_⟩
  rcases S.par y (List.mem_of_getElem? hp) with k | k
  ·exact .inl ⟨k, Y9 ndP hp hu k⟩
  ·obtain ⟨c, e⟩ := fm (n := s.heap.objs.size + 1) k
   refine .inr ⟨.inl k, c, e, ?_⟩
   have q := x.cell y c e
   rw [gh ndP hp hu (by show scope.names.lookup y ≠ _; rw [k]; decide)] at q
   exact q
 ·exact e0.hok.fresh (Nat.le_of_lt (x.above y c (PySem.mem_of_lookup h)))
 ·unfold start
  show _ = N.length
  rw [List.length_append, List.length_map, List.length_replicate]
  omega
theorem hR {CX : C5} {P : Program} {w : World} {K : PySem.W.Frag} {mg : Str → Option Value} {base : Heap} {k : Nat} {f : Addr} {name qual : Str} {params : Arguments} {body : List Stmt} {scope : Scope} {dV kV doc pm cdv ct oc : Value} {an od : Option Addr}
  {osl : Array (Option Value)} {N ps : List Str} {sp : Sp} (lk : K.lookup f = some ⟨oc, od, .func (PySem.W.fnOf name qual params body scope dV kV doc pm an cdv ct), osl⟩) (hcd : PySem.W.codeIn K cdv qual = true) (S : FnScope N ps scope)
  (len : ∀ vs H Q E, sp vs H Q E → vs.length = ps.length)
  (hbody : ∀ (A : Around) (outer : List Env) (s : Shared) (H : Hp) (vs : List V) (Q : VK) (E : XK), Room k (A.deeper (envOfC qual scope s.heap.objs.size f cdv)) → sp vs H Q E →
   ∃ t, PSs (A9 CX P w K mg base N qual scope f cdv A outer s H E) body t ∧ t { nx := fun _ H' => Q .non H', rt := Q } (start N vs) H) :
  FnOk P w K mg base CX (k + 1) f (PySem.W.fnOf name qual params body scope dV kV doc pm an cdv ct) ps sp := by
 refine ⟨len, fun A outer s H args us vs Q E hr e0 hb r hsp => ?_⟩
 have hl := len _ _ _ _ hsp
 have KX : K.In s.heap := e0.mod.kin.keeps fun b o e => (e0.bs b o e).1
 have lim : s.heap.NoLimit := e0.mod.nolimit.keeps fun b o e => (e0.bs b o e).1
 have hkind : ∀ y ∈ ps.zip us, scope.names.lookup y.1 = some .local ∨ (scope.names.lookup y.1 = some .cell ∧ ((cellsFrom (s.heap.objs.size + 1) scope.names []).lookup y.1).isSome = true) := fun ⟨n, v⟩ hy => by
  rcases S.par n (List.of_mem_zip hy).1 with q | q
  ·exact .inl q
  ·exact .inr ⟨q, PySem.W.cellsFrom_some _ _ _ (.inl q)⟩
 refine codeAny_call_function hr.depth (KX _ _ lk) rfl S.co S.gen rfl (PySem.W.codeRec_of KX hcd) (hb _ _ _ _ ?_)
 refine wpAny_newFunctionEnv_cells S.kind hkind fun env he s1 x => ?_
 subst he
 refine ⟨lim.keeps x.toInCall.keep, codeAny_func ?_⟩
 obtain ⟨t, ht, hq⟩ := hbody A outer s H vs Q E (hr.deeper _) hsp
 have I : Inv (A9 CX P w K mg base N qual scope f cdv A outer s H E) [] (start N vs) H s1 := nL S hr.hd e0 hl r x
 refine wpAny_mono (ht [] s1 (start N vs) H _ I hq) (fun fl s' hs => ?_) fun e s' hs => hs
 have fin : ∀ {σ' : St} {H' : Hp} {v : V} {u : Value}, Inv (A9 CX P w K mg base N qual scope f cdv A outer s H E) [] σ' H' s' → RelV v u → Q v H' → CE outer P w H s Q u s' :=
  fun {σ' H' v u} J rv q => ⟨v, H', J.os, J.bare, J.base, J.hok, rv, q⟩
 cases fl with
 | ret u =>
  obtain ⟨v, σ', H', J, rv, q⟩ := hs
  exact fin J rv q
 | next =>
  obtain ⟨σ', H', J, q⟩ := hs
  exact fin (v := V.non) (u := Value.none) J rfl q
 | brk =>
  obtain ⟨_, _, _, q⟩ := hs
  exact False.elim q
 | cont =>
  obtain ⟨_, _, _, q⟩ := hs
  exact False.elim q
section
variable {X : Cx} {x : Str} {p pos : Pos} {e : Expr} {es : List Expr} {t : TA} {id T : String} {r : List V → Hp → VK → Prop}
noncomputable def U9 (r : List V → Hp → VK → Prop) (t : TA) : TE := fun σ H Q => t σ H fun vs H1 => r vs H1 Q
theorem aB (hc : CallR X (.builtin id) r) (hg : Gl X x) (hm : X.mg x = none) (hv : bootBuiltins x = some (.builtin id)) (ha : PA X (e :: es) t) (hn : x ≠ "__name__" := by decide) (hdb : (x == ("__debug__" : Str)) = false := by decide)
  (he : starEach (e :: es) X.env = (false, eval e X.env) :: starEach es X.env := by rfl) (hpl : (backTo pos (starEach es X.env)).any (·.1) = false := by rfl) : PE X (.Call (.Name x p) (e :: es) [] pos) (U9 r t) := by
 intro pins s σ H Q I h
 refine wpAny_Call_Name_kw (ao I hg hm hv ?_ hn hdb)
 exact PyProof.Rows.callWith_builtin1 (i7 (ha pos pins s σ H _ I h) fun us s1 ⟨vs, H1, I1, r1, q1⟩ => hc pins s1 σ H1 vs us Q I1 r1 q1) he hpl
theorem jl (hc : CallR X (.type T) r) (hg : Gl X x) (hm : X.mg x = none) (hv : bootBuiltins x = some (.type T)) (ha : PA X (e :: es) t) (hn : x ≠ "__name__" := by decide) (hdb : (x == ("__debug__" : Str)) = false := by decide)
  (he : starEach (e :: es) X.env = (false, eval e X.env) :: starEach es X.env := by rfl) (hpl : (backTo pos (starEach es X.env)).any (·.1) = false := by rfl) : PE X (.Call (.Name x p) (e :: es) [] pos) (U9 r t) := by
 intro pins s σ H Q I h
 refine wpAny_Call_Name_kw (ao I hg hm hv ?_ hn hdb)
 exact PyProof.Rows.callWith_type1 (i7 (ha pos pins s σ H _ I h) fun us s1 ⟨vs, H1, I1, r1, q1⟩ => hc pins s1 σ H1 vs us Q I1 r1 q1) he hpl
end
end L2
namespace HT
open PySem PyProof.Rows
section
variable {prog : Program} {w : World} {A : Around} {E : Value → Shared → Prop} {s : Shared}
theorem cat_tup {t b : Addr} {vs ws : List Value} {Q : Value → Shared → Prop} (ht : IsTup s.heap t vs.toArray) (hb : IsTup s.heap b ws.toArray) (hv : vs ≠ [])
  (h1 : ws = [] → Q (.ref t) s) (h2 : ws ≠ [] → Q (.ref s.heap.objs.size) { s with heap := s.heap.push { cls := .type "tuple", data := .seq (vs ++ ws).toArray } })
  (hsz : vs.length + ws.length ≤ sizeLine) : wpAny (model prog w) A (binaryOp .Add (.ref t) (.ref b)) Q E s := by
 obtain ⟨⟨cls, dd, data, sl⟩, ho, hc, n, hd⟩ := id ht
 obtain ⟨⟨cls2, dd2, data2, sl2⟩, ho2, hc2, n2, hd2⟩ := id hb
 simp only at hc hd hc2 hd2
 subst hc hd hc2 hd2
 have e : vs.toArray ++ ws.toArray = (vs ++ ws).toArray := by simp
 by_cases hw : ws = []
 ·exact concat_meets ⟨_, ho, rfl⟩ ⟨_, ho2, rfl⟩ noFill_tuple_add seq_tuple_add PySem.F.slot_tuple_add PySem.F.entry_tuple_add (PySem.F.args_tuple_add_2 _ _)
   (tuple_addW1 t b vs.toArray ws.toArray n n2 dd dd2 sl sl2 (by simpa using hv) (by simp [hw])) ⟨ho, ho2, h1 hw⟩
 ·refine concat_meets ⟨_, ho, rfl⟩ ⟨_, ho2, rfl⟩ noFill_tuple_add seq_tuple_add PySem.F.slot_tuple_add PySem.F.entry_tuple_add (PySem.F.args_tuple_add_2 _ _)
   (tuple_addW2 t b vs.toArray ws.toArray n n2 dd dd2 sl sl2 (by simpa using hv) (by simpa using hw) (by rw [List.size_toArray, List.size_toArray]; exact hsz)) ⟨ho, ho2, ?_⟩
  rw [e]
  exact h2 hw
noncomputable def sIx (n d : Nat) : Option Int → Nat
 | none => d
 | some v => if v < 0 then (v + (n : Int)).toNat else min v.toNat n
theorem sIx_nat (n d k : Nat) : sIx n d (some (k : Int)) = min k n := by
 show (if (k : Int) < 0 then ((k : Int) + (n : Int)).toNat else min (k : Int).toNat n) = min k n
 rw [if_neg (by omega), Int.toNat_natCast]
theorem um (n d : Nat) (hd : d ≤ n) (o : Option Int) : sIx n d o ≤ n := by
 cases o with
 | none => exact hd
 | some v =>
  show (if v < 0 then (v + (n : Int)).toNat else min v.toNat n) ≤ n
  by_cases hv : v < 0
  ·rw [if_pos hv]; omega
  ·rw [if_neg hv]; exact Nat.min_le_right _ _
theorem ia (v : Int) (n d : Nat) : (if v < 0 then max (v + (n : Int)) 0 else min v (n : Int)) = ((sIx n d (some v) : Nat) : Int) := by
 show (if v < 0 then max (v + (n : Int)) 0 else min v (n : Int)) = (((if v < 0 then (v + (n : Int)).toNat else min v.toNat n) : Nat) : Int)
 by_cases hv : v < 0
 ·simp only [if_pos hv]; omega
 ·simp only [if_neg hv]; omega
theorem jO (lo hi : Option Int) (n : Nat) : Builtin.Slice.sliceAdjust lo hi 1 (n : Int) = (((sIx n 0 lo : Nat) : Int), ((sIx n n hi : Nat) : Int)) := by
 have h1 : ¬ ((1 : Int) < 0) := by omega
 unfold Builtin.Slice.sliceAdjust
 simp only [h1, if_false]
 refine Prod.ext ?_ ?_
 ·cases lo with
  | none => rfl
  | some v => exact ia v n 0
 ·cases hi with
  | none => rfl
  | some v => exact ia v n n
theorem oU (i j : Nat) : Builtin.Slice.slicePlaces (i : Int) (j : Int) 1 = j - i := by
 unfold Builtin.Slice.slicePlaces
 have h1 : (1 : Int) > 0 := by omega
 simp only [h1, if_true, Int.ediv_one]
 split <;> omega
theorem iz {v : Value} {o : Option Int} {Q : Option Int → Shared → Prop} (p : IsPart v o) (h : Q o s) : wpAny (model prog w) A (Builtin.Slice.slicePartIndex v) Q E s := by
 cases p with
 | none => exact slicePart_none h
 | int i t => exact slicePart_int h
theorem fS {sl : Addr} {vl vu : Value} {lo hi : Option Int} {n : Nat} {Q : Int × Int × Nat → Shared → Prop} (hs : s.heap.IsSliceOf sl vl vu .none) (pl : IsPart vl lo) (pu : IsPart vu hi)
  (h : Q (((sIx n 0 lo : Nat) : Int), 1, sIx n n hi - sIx n 0 lo) s) : wpAny (model prog w) A (Builtin.Slice.sliceApplied (.ref sl) (pure (n : Int))) Q E s := by
 obtain ⟨os, hos, hcs, hds⟩ := id hs
 unfold Builtin.Slice.sliceApplied Builtin.Slice.sliceFields
 refine wpAny_bind (wpAny_bind (wpAny_field hos hds (x := vl) rfl (wpAny_bind (wpAny_field hos hds (x := vu) rfl (wpAny_bind (wpAny_field hos hds (x := .none) rfl (wpAny_pure ?_)))))))
 refine wpAny_bind (slicePart_none ?_)
 show wpAny _ _ (if ((1 : Int) == 0) = true then _ else _) _ _ s
 rw [if_neg (by decide)]
 refine wpAny_bind (iz pl (wpAny_bind (iz pu (wpAny_bind (wpAny_pure ?_)))))
 show wpAny _ _ (match Builtin.Slice.sliceAdjust lo hi 1 (n : Int) with | (lo, hi) => pure (lo, (1 : Int), Builtin.Slice.slicePlaces lo hi 1)) _ _ s
 rw [jO lo hi n]
 show wpAny _ _ (pure (((sIx n 0 lo : Nat) : Int), (1 : Int), Builtin.Slice.slicePlaces ((sIx n 0 lo : Nat) : Int) ((sIx n n hi : Nat) : Int) 1)) _ _ s
 rw [oU]
 exact wpAny_pure h
theorem oZ (xs : Array Value) (i k : Nat) : ((List.range k).filterMap fun (m : Nat) => xs[((i : Int) + (m : Int) * 1).toNat]?).toArray = ((xs.toList.drop i).take k).toArray := by
 have e : (fun (m : Nat) => xs[((i : Int) + (m : Int) * 1).toNat]?) = fun m => xs[i + m]? := by
  funext m
  have : ((i : Int) + (m : Int) * 1).toNat = i + m := by omega
  rw [this]
 rw [e]
 have := pick_run xs i k
 rw [List.filterMap_map] at this
 have e2 : ((fun x => xs[x]?) ∘ fun x => i + x) = fun m => xs[i + m]? := rfl
 rw [e2] at this
 rw [this]
theorem getItem_tuple_cut {t sl : Addr} {items : Array Value} {vl vu : Value} {lo hi : Option Int} {Q : Value → Shared → Prop} (ht : IsTup s.heap t items) (hs : s.heap.IsSliceOf sl vl vu .none) (pl : IsPart vl lo) (pu : IsPart vu hi)
  (hw : ¬ (sIx items.size 0 lo = 0 ∧ sIx items.size items.size hi = items.size))
  (h : Q (.ref s.heap.objs.size) { s with heap := s.heap.push { cls := .type "tuple", data := .seq ((items.toList.drop (sIx items.size 0 lo)).take (sIx items.size items.size hi - sIx items.size 0 lo)).toArray } })
  (hsz : items.size ≤ sizeLine) : wpAny (model prog w) A (getItem (.ref t) (.ref sl)) Q E s := by
 have htake : sizeOk (.seq ((items.toList.drop (sIx items.size 0 lo)).take (sIx items.size items.size hi - sIx items.size 0 lo)).toArray) := by
  show ((items.toList.drop (sIx items.size 0 lo)).take (sIx items.size items.size hi - sIx items.size 0 lo)).toArray.size ≤ sizeLine
  rw [List.size_toArray, List.length_take, List.length_drop, Array.length_toList]
  omega
 have hj : sIx items.size items.size hi ≤ items.size := um _ _ (Nat.le_refl _) hi
 obtain ⟨os, hos, hcs, hds⟩ := id hs
 have hTs : s.TypeIs (.ref sl) "slice" := ⟨os, hos, hcs⟩
 unfold getItem
 try with_reducible refine wpAny_holding ?_
 first | refine wpAny_bind (wpAny_pure ?_) | skip
 refine wpAny_bind (wpAny_sequenceKey ht.typeIs (by decide) ?_)
 refine wpAny_bind (wpAny_callSpecial?_slot (name := Str.ofString "__getitem__") ht.typeIs PyProof.Rows.slot_tuple_getitem
  (wpAny_call_entry PyProof.Rows.slot_tuple_getitem ht.typeIs entry_tuple_getitem ?_ (args_tuple_getitem _ _)))
 show wpAny _ _ (Builtin.Tuple.tupleItemsOf (.ref t) >>= _) _ _ s
 refine wpAny_bind (tupleItemsOf_ ht ?_)
 refine wpAny_bind (wpAny_typeOf hTs ?_)
 rw [if_pos (by decide)]
 refine wpAny_bind (fS hs pl pu ?_)
 have hno : ¬ ((((sIx items.size 0 lo : Nat) : Int) == 0 && (1 : Int) == 1 && (sIx items.size items.size hi - sIx items.size 0 lo) == items.size) = true) := by
  intro q
  rw [Bool.and_eq_true, Bool.and_eq_true] at q
  have q1 : ((sIx items.size 0 lo : Nat) : Int) = 0 := eq_of_beq q.1.1
  have q2 : sIx items.size items.size hi - sIx items.size 0 lo = items.size := eq_of_beq q.2
  exact hw ⟨by omega, by omega⟩
 show wpAny _ _ (if (((sIx items.size 0 lo : Nat) : Int) == 0 && (1 : Int) == 1 && (sIx items.size items.size hi - sIx items.size 0 lo) == items.size) = true then _ else _) _ _ s
 rw [if_neg hno, oZ]
 first
  | exact wpAny_bind (m := Builtin.Tuple.tupleExact _) (wpAny_newObj_type (wpAny_pure ⟨_, rfl, wpAny_pure h⟩) htake)
  | exact wpAny_bind (m := Builtin.Tuple.tupleExact _) (wpAny_newObj_type (wpAny_bind (wpAny_pure (wpAny_pure ⟨_, rfl, wpAny_pure h⟩))) htake)
  | exact wpAny_bind (wpAny_bind (m := Builtin.Tuple.tupleExact _) (wpAny_newObj_type (wpAny_pure (wpAny_pure ⟨_, rfl, wpAny_pure h⟩)) htake))
  | exact wpAny_bind (wpAny_bind (m := Builtin.Tuple.tupleExact _) (wpAny_newObj_type (wpAny_pure ⟨_, rfl, wpAny_pure h⟩) htake))
end
end HT
namespace L2
open PySem PySem.Spec PyProof.Rows
noncomputable abbrev TO := St → Hp → (Option Int → Hp → Prop) → Prop
noncomputable def PO (X : Cx) (e : Option Expr) (t : TO) : Prop :=
 ∀ (pins : List (Addr × Obj)) (s : Shared) (σ : St) (H : Hp) (Q : Option Int → Hp → Prop), Inv X pins σ H s → t σ H Q →
  wpAny (model X.prog X.w) X.A (evalPart e X.env) (fun u s' => ∃ o H', Inv X pins σ H' s' ∧ IsPart u o ∧ Q o H') X.xe s
noncomputable def rS : TO := fun _ H Q => Q none H
noncomputable def pb (t : TE) : TO := fun σ H Q => t σ H fun x H1 => ∃ i, x = .int i ∧ Q (some i) H1
section
variable {X : Cx} {e : Expr} {te : TE} {lo hi : Option Expr} {tl th : TO} {pos p2 : Pos}
theorem fQ : PO X none rS := by
 intro pins s σ H Q I h
 rw [evalPart_none]
 exact wpAny_pure ⟨none, H, I, .none, h⟩
theorem ix (h : PE X e te) : PO X (some e) (pb te) := by
 intro pins s σ H Q I hw
 rw [evalPart_some]
 refine i7 (h pins s σ H _ I hw) fun u s1 ⟨x, H1, I1, r1, q1⟩ => ?_
 obtain ⟨i, rfl, q⟩ := q1
 obtain ⟨t, rfl⟩ := r1
 exact ⟨some i, H1, I1, .int i t, q⟩
noncomputable def SlR (X : Cx) (r : V → Option Int → Option Int → Hp → VK → Prop) : Prop :=
 ∀ (pins : List (Addr × Obj)) (s : Shared) (σ : St) (H : Hp) (x : V) (v vl vu : Value) (lo hi : Option Int) (sl : Addr) (Q : VK), Inv X pins σ H s → RelV x v → s.heap.IsSliceOf sl vl vu .none → IsPart vl lo → IsPart vu hi → r x lo hi H Q →
  ∃ T id, typeLookup (.type T) "__getitem__" = pure (some (.builtin id)) ∧ s.TypeIs v T ∧ wpAny (model X.prog X.w) X.A (getItem v (.ref sl)) (EP X pins σ Q) X.xe s
theorem SlR.or {r r' : V → Option Int → Option Int → Hp → VK → Prop} (h : SlR X r) (h' : SlR X r') : SlR X (fun x lo hi H Q => r x lo hi H Q ∨ r' x lo hi H Q) := by
 intro pins s σ H x v vl vu lo hi sl Q I rx hs pl pu q
 rcases q with q | q
 ·exact h pins s σ H x v vl vu lo hi sl Q I rx hs pl pu q
 ·exact h' pins s σ H x v vl vu lo hi sl Q I rx hs pl pu q
noncomputable def sO (r : V → Option Int → Option Int → Hp → VK → Prop) (te : TE) (tl th : TO) : TE := fun σ H Q => te σ H fun x H1 => tl σ H1 fun l H2 => th σ H2 fun u H3 => r x l u H3 Q
theorem iT {r : V → Option Int → Option Int → Hp → VK → Prop} (hr : SlR X r) (he : PE X e te) (hl : PO X lo tl) (hu : PO X hi th) : PE X (.Subscript e (.Slice lo hi none p2) pos) (sO r te tl th) := by
 intro pins s σ H Q I h
 refine Subscript_ (i7 (he pins s σ H _ I h) fun v s1 ⟨x, H1, I1, r1, q1⟩ => ?_)
 refine wpAny_Slice (i7 (hl pins s1 σ H1 _ I1 q1) fun vl s2 ⟨l, H2, I2, pl, q2⟩ => i7 (hu pins s2 σ H2 _ I2 q2) fun vu s3 ⟨u, H3, I3, pu, q3⟩ => ?_)
 rw [evalPart_none]
 refine wpAny_pure ?_
 have I4 : Inv X pins σ H3 { s3 with heap := s3.heap.push { cls := .type "slice", data := .fields #[vl, vu, .none] } } := I3.kept (t' := s3.toks) fun b ob q => Heap.get?_push_of_some _ q
 obtain ⟨T, id, hT, ht, hg⟩ := hr pins { s3 with heap := s3.heap.push { cls := .type "slice", data := .fields #[vl, vu, .none] } } σ H3 x v vl vu l u s3.heap.objs.size Q I4 r1 (Heap.IsSliceOf.new ..) pl pu q3
 show wpAny (model X.prog X.w) X.A (subscriptTail e (.Slice lo hi none p2) v (.ref s3.heap.objs.size)) (EP X pins σ Q) X.xe { s3 with heap := s3.heap.push { cls := .type "slice", data := .fields #[vl, vu, .none] } }
 exact tail_any (ops := [.ref s3.heap.objs.size, v]) ht hT hg (by with_unfolding_all rfl)
noncomputable def C9 (xs : List V) (lo hi : Option Int) : List V := (xs.drop (HT.sIx xs.length 0 lo)).take (HT.sIx xs.length xs.length hi - HT.sIx xs.length 0 lo)
theorem ja (xs : List V) (lo hi : Option Int) : (C9 xs lo hi).length ≤ xs.length := by
 unfold C9
 rw [List.length_take, List.length_drop]
 omega
noncomputable def lW (K : PySem.W.Frag) : V → Option Int → Option Int → Hp → VK → Prop := fun x lo hi H Q => ∃ a xs, x = .ref a ∧ SqT K H a xs ∧
 ¬ (HT.sIx xs.length 0 lo = 0 ∧ HT.sIx xs.length xs.length hi = xs.length) ∧ ∀ p, H p = none → Q (.ref p) (e7 H p (.tup (C9 xs lo hi)))
theorem mE : SlR X (lW X.K) := by
 intro pins s σ H x v vl vu lo hi sl Q I rx hs pl pu h
 obtain ⟨a, xs, rfl, hx, hw, q⟩ := h
 cases rx
 obtain ⟨its, r, ht, hz⟩ := I.tuple hx
 have hlen : its.toArray.size = xs.length := by rw [List.size_toArray]; exact r.length.symm
 refine ⟨"tuple", _, PyProof.Rows.slot_tuple_getitem.lookup, ht.typeIs, ?_⟩
 refine HT.getItem_tuple_cut ht hs pl pu (by rw [hlen]; exact hw) ?_ (by rw [hlen]; exact hz)
 rw [hlen]
 refine ⟨.ref s.heap.objs.size, _, I.laid (t' := s.toks) (o := .tup (C9 xs lo hi)) (fun b ob q => Heap.get?_push_of_some _ q) (Nat.le_refl _) ?_, rfl, q _ (I.hok.fresh (Nat.le_refl _))⟩
 exact ⟨Nat.le_trans (ja xs lo hi) hz, _, (r.drop (HT.sIx xs.length 0 lo)).take (HT.sIx xs.length xs.length hi - HT.sIx xs.length 0 lo), IsTup.new _ _⟩
noncomputable def fD (K : PySem.W.Frag) : R2 := fun x y H Q => ∃ a b xs ys, x = .ref a ∧ y = .ref b ∧ SqT K H a xs ∧ SqT K H b ys ∧ xs ≠ [] ∧ xs.length + ys.length ≤ sizeLine ∧
 (ys = [] → Q (.ref a) H) ∧ (ys ≠ [] → ∀ p, H p = none → Q (.ref p) (e7 H p (.tup (xs ++ ys))))
theorem Vals.nil_iff {xs : List V} {us : List Value} (r : Vals xs us) : us = [] ↔ xs = [] := by
 cases r with
 | nil => simp
 | cons _ _ => simp
theorem tq : OpR X (binaryOp .Add) (fD X.K) := by
 intro pins s σ H x y v u Q I rx ry h
 obtain ⟨a, b, xs, ys, rfl, rfl, ha, hb, hx, hz, q1, q2⟩ := h
 cases rx
 cases ry
 obtain ⟨its, r1, p1, _⟩ := I.tuple ha
 obtain ⟨its2, r2, p2, _⟩ := I.tuple hb
 refine HT.cat_tup p1 p2 (fun z => hx (r1.nil_iff.mp z)) (fun z => ⟨.ref a, H, I, rfl, q1 (r2.nil_iff.mp z)⟩) (fun z => ?_) (by rw [← r1.length, ← r2.length]; exact hz)
 refine ⟨.ref s.heap.objs.size, _, I.laid (t' := s.toks) (o := .tup (xs ++ ys)) (fun b ob q => Heap.get?_push_of_some _ q) (Nat.le_refl _) ?_, rfl, q2 (fun w => z (r2.nil_iff.mpr w)) _ (I.hok.fresh (Nat.le_refl _))⟩
 exact ⟨by rw [List.length_append]; exact hz, _, r1.append r2, IsTup.new _ _⟩
end
noncomputable def E1 (n : Nat) (i : Int) : Option Nat := if 0 ≤ i then (if i < n then some i.toNat else none) else if -(n : Int) ≤ i then some (i + n).toNat else none
noncomputable def k9 {α : Type} (xs : List α) (i : Int) : Option α := (E1 xs.length i).bind fun j => xs[j]?
theorem gR {n : Nat} {i : Int} {j : Nat} (h : E1 n i = some j) : seqIndex? i n = some j ∧ j < n ∧ -(n : Int) ≤ i ∧ i < n := by
 unfold E1 at h
 by_cases h0 : 0 ≤ i
 ·rw [if_pos h0] at h
  by_cases h1 : i < n
  ·rw [if_pos h1] at h
   have e : i.toNat = j := Option.some.inj h
   exact ⟨by rw [seqIndex_of h0 h1, e], by omega, by omega, h1⟩
  ·rw [if_neg h1] at h; cases h
 ·rw [if_neg h0] at h
  by_cases h1 : -(n : Int) ≤ i
  ·rw [if_pos h1] at h
   have e : (i + n).toNat = j := Option.some.inj h
   exact ⟨by rw [seqIndex_neg (by omega) h1, e], by omega, h1, by omega⟩
  ·rw [if_neg h1] at h; cases h
theorem jj {α : Type} {xs : List α} {i : Int} {v : α} (h : k9 xs i = some v) : ∃ j, seqIndex? i xs.length = some j ∧ xs[j]? = some v ∧ j < xs.length ∧ -(xs.length : Int) ≤ i ∧ i < xs.length := by
 unfold k9 at h
 cases e : E1 xs.length i with
 | none => rw [e] at h; cases h
 | some j =>
  rw [e] at h
  obtain ⟨h1, h2, h3, h4⟩ := gR e
  exact ⟨j, h1, h, h2, h3, h4⟩
noncomputable def ee (b : Expr) : Prop := ∀ o i, subscripted b false o i = operate [o, i] (getItem o i)
noncomputable def IxR (X : Cx) (r : R2) : Prop :=
 ∀ (value slice : Expr) (pins : List (Addr × Obj)) (s : Shared) (σ : St) (H : Hp) (x y : V) (v u : Value) (Q : VK), Inv X pins σ H s → RelV x v → RelV y u → r x y H Q →
  subscripted slice false v u = operate [v, u] (getItem v u) → wpAny (model X.prog X.w) X.A (subscriptTail value slice v u) (EP X pins σ Q) X.xe s
noncomputable def sV (X : Cx) (id : String) (r : V → List V → Hp → VK → Prop) : Prop :=
 ∀ (pins : List (Addr × Obj)) (s : Shared) (σ : St) (H : Hp) (x : V) (xs : List V) (v : Value) (us : List Value) (Q : VK), Inv X pins σ H s → RelV x v → Vals xs us → r x xs H Q →
  wpAny (model X.prog X.w) X.A (call (.builtin id) (v :: us)) (EP X pins σ Q) X.xe s
section
variable {X : Cx} {a b : Expr} {ta tb : TE} {pos : Pos}
theorem IxR.or {r r' : R2} (h : IxR X r) (h' : IxR X r') : IxR X (fun x y H Q => r x y H Q ∨ r' x y H Q) := by
 intro value slice pins s σ H x y v u Q I rx ry q hs
 rcases q with q | q
 ·exact h value slice pins s σ H x y v u Q I rx ry q hs
 ·exact h' value slice pins s σ H x y v u Q I rx ry q hs
theorem eU {r : R2} (hr : IxR X r) (ha : PE X a ta) (hb : PE X b tb) (hs : ee b) : PE X (.Subscript a b pos) (V2 r ta tb) := by
 intro pins s σ H Q I h
 exact Subscript_ (bJ ha hb I h fun v u s2 x y H2 I2 rx ry q => hr a b pins s2 σ H2 x y v u Q I2 rx ry q (hs _ _))
noncomputable def bU (K : PySem.W.Frag) : R2 := fun x y H Q => ∃ p xs i v, x = .ref p ∧ y = .int i ∧ SqL K H p xs ∧ k9 xs i = some v ∧ Q v H
noncomputable def cx (K : PySem.W.Frag) : R2 := fun x y H Q => ∃ p xs i v, x = .ref p ∧ y = .int i ∧ SqT K H p xs ∧ k9 xs i = some v ∧ Q v H
theorem ix_list : IxR X (bU X.K) := by
 intro value slice pins s σ H x y v u Q I rx ry h hs
 obtain ⟨p, xs, i, z, rfl, rfl, hq, he, q⟩ := h
 cases rx
 obtain ⟨t, rfl⟩ := ry
 obtain ⟨its, r, pl, hz⟩ := I.list hq
 obtain ⟨j, h1, h2, h3, h4, h5⟩ := jj he
 obtain ⟨w, ew, rw'⟩ := r.get h2
 have hl := r.length
 have hn := Q3
 have fin : EP X pins σ Q w s := ⟨z, H, I, rw', q⟩
 by_cases h0 : 0 ≤ i
 ·have hj : i.toNat = j := by
   rw [seqIndex_of h0 h5] at h1
   exact Option.some.inj h1
  exact item_listR pl.isList h0 (by omega) (by rw [hj]; simpa using ew) fin hs
 ·have hj : (i + (its.toArray.size : Int)).toNat = j := by
   rw [seqIndex_neg (by omega) h4] at h1
   rw [List.size_toArray, ← hl]
   exact Option.some.inj h1
  exact subscriptTail_builtinR (x := w) pl.isList.typeIs slot_list_getitem.lookup
   (wpAny_getItem_list_neg (Q := fun r s' => r = w ∧ EP X pins σ Q r s') pl.isList (by omega) (by rw [List.size_toArray] <;> omega) (by omega) (by rw [hj]; simpa using ew) ⟨rfl, fin⟩) hs
theorem tw : IxR X (cx X.K) := by
 intro value slice pins s σ H x y v u Q I rx ry h hs
 obtain ⟨p, xs, i, z, rfl, rfl, hq, he, q⟩ := h
 cases rx
 obtain ⟨t, rfl⟩ := ry
 obtain ⟨its, r, pl, hz⟩ := I.tuple hq
 obtain ⟨j, h1, h2, h3, h4, h5⟩ := jj he
 obtain ⟨w, ew, rw'⟩ := r.get h2
 have hl := r.length
 have hn := Q3
 have fin : EP X pins σ Q w s := ⟨z, H, I, rw', q⟩
 exact subscriptTail_builtinR (x := w) pl.typeIs slot_tuple_getitem.lookup
  (getItem_tuple (j := j) (Q := fun r s' => r = w ∧ EP X pins σ Q r s') pl (by omega) (by omega) (by rw [List.size_toArray, ← hl]; exact h1) (by simpa using ew) ⟨rfl, fin⟩) hs
theorem mQ (its : List Value) (n j : Nat) (u : Value) : Obj.mapSeq (·.setIfInBounds j u) { cls := .type "list", data := .seq its.toArray n } = { cls := .type "list", data := .seq (its.set j u).toArray n } := by
 simp [Obj.mapSeq]
theorem Inv.lst {pins : List (Addr × Obj)} {σ : St} {H : Hp} {s : Shared} {p : Addr} {xs : List V} (I : Inv X pins σ H s) (h : H p = some (.lst xs)) :
  ∃ (its : List Value) (n : Nat), Vals xs its ∧ s.heap.get? p = some { cls := .type "list", data := .seq its.toArray n } ∧ xs.length ≤ sizeLine := by
 obtain ⟨z, its, n, r, e⟩ := I.hok p _ h
 exact ⟨its, n, r, e, z⟩
theorem Inv.lstUpd {pins : List (Addr × Obj)} {σ : St} {H : Hp} {s : Shared} {p : Addr} {xs ys : List V} {its its' : List Value} {n n' : Nat} {f : Obj → Obj} (I : Inv X pins σ H s) (h : H p = some (.lst xs))
  (ho : s.heap.get? p = some { cls := .type "list", data := .seq its.toArray n }) (hf : f { cls := .type "list", data := .seq its.toArray n } = { cls := .type "list", data := .seq its'.toArray n' }) (r : Vals ys its') (hz : ys.length ≤ sizeLine) (t : Nat) :
  Inv X pins σ (e7 H p (.lst ys)) { s with heap := s.heap.update p f, toks := t } := by
 have e : (s.heap.update p f).get? p = some { cls := .type "list", data := .seq its'.toArray n' } := by
  rw [Heap.get?_update_self f ho (by rw [hf] <;> rfl), hf]
 refine I.write (x := p) (e := p) (by rw [h]; trivial) (.inl rfl) (fun b u hb q => (Heap.get?_update_other _ _ (Ne.symm hb)).trans q) ⟨_, e⟩ ?_
 exact ⟨hz, its', n', r, e⟩
noncomputable def mV : V → V → V → Hp → (Hp → Prop) → Prop := fun o i v H Q => ∃ p xs k j, o = .ref p ∧ i = .int k ∧ H p = some (.lst xs) ∧ E1 xs.length k = some j ∧ Q (e7 H p (.lst (xs.set j v)))
theorem pJ : jq X mV := by
 intro pins s σ H o i v ov iv u Q I ro ri rv h
 obtain ⟨p, xs, k, j, rfl, rfl, hp, hj, q⟩ := h
 cases ro
 obtain ⟨t, rfl⟩ := ri
 obtain ⟨its, n, r, ho, hz⟩ := I.lst hp
 obtain ⟨h1, h2, h3, h4⟩ := gR hj
 have hl := r.length
 have hn := Q3
 have I' : Inv X pins σ (e7 H p (.lst (xs.set j v))) { s with heap := s.heap.update p (Obj.mapSeq (·.setIfInBounds j u)) } :=
  I.lstUpd hp ho (mQ its n j u) (r.set rv j) (by rw [List.length_set]; exact hz) s.toks
 by_cases h0 : 0 ≤ k
 ·have hk : k.toNat = j := by
   rw [seqIndex_of h0 h4] at h1
   exact Option.some.inj h1
  exact PySem.W.ki_setAt ho h0 (by omega) (by rw [List.size_toArray, ← hl]; exact h4) (by rw [hk]; exact ⟨_, I', q⟩)
 ·have hk : (k + (its.toArray.size : Int)).toNat = j := by
   rw [seqIndex_neg (by omega) h3] at h1
   rw [List.size_toArray, ← hl]
   exact Option.some.inj h1
  exact PySem.W.ki_setBack ho (by omega) (by rw [List.size_toArray, ← hl]; exact h3) (by omega) (by rw [hk]; exact ⟨_, I', q⟩)
theorem jQ (lo hi : Option Int) (n : Nat) : (sliceBounds lo hi none n).1 = ((HT.sIx n 0 lo : Nat) : Int) ∧ (sliceBounds lo hi none n).2.1 = ((HT.sIx n n hi : Nat) : Int) ∧ (sliceBounds lo hi none n).2.2 = 1 := by
 have key : ∀ i : Int, (sliceBounds (some i) none none n).1 = ((HT.sIx n 0 (some i) : Nat) : Int) := fun i => by
  simp only [sliceBounds, HT.sIx, Option.getD_none, show (1 : Int) > 0 by decide, if_true]
  by_cases h : i < 0
  ·simp only [h, if_true] <;> omega
  ·simp only [h, if_false] <;> omega
 refine ⟨?_, ?_, rfl⟩
 ·cases lo with
  | none => simp [sliceBounds, HT.sIx]
  | some i => exact key i
 ·cases hi with
  | none => simp [sliceBounds, HT.sIx]
  | some i => exact key i
theorem qV (its : List Value) (lo hi : Option Int) : slicePick its.toArray lo hi none = ((its.drop (HT.sIx its.length 0 lo)).take (HT.sIx its.length its.length hi - HT.sIx its.length 0 lo)).toArray := by
 obtain ⟨h1, h2, h3⟩ := jQ lo hi its.toArray.size
 unfold slicePick
 rw [h1, h2, h3]
 simp only [sliceRange_one, pick_run, List.size_toArray] <;> rfl
noncomputable def oP (K : PySem.W.Frag) : V → Option Int → Option Int → Hp → VK → Prop := fun x lo hi H Q => ∃ a xs, x = .ref a ∧ SqL K H a xs ∧ ∀ p, H p = none → Q (.ref p) (e7 H p (.lst (C9 xs lo hi)))
theorem eV : SlR X (oP X.K) := by
 intro pins s σ H x v vl vu lo hi sl Q I rx hs pl pu h
 obtain ⟨a, xs, rfl, hx, q⟩ := h
 cases rx
 obtain ⟨its, r, ht, hz⟩ := I.list hx
 have hlen := r.length
 refine ⟨"list", _, slot_list_getitem.lookup, ht.isList.typeIs, ?_⟩
 refine wpAny_getItem_list_slice ht.isList hs pl pu .none (by simp) ?_ (by rw [List.size_toArray] <;> omega)
 rw [qV, ← hlen]
 refine ⟨.ref s.heap.objs.size, _, I.laid (t' := s.toks) (o := .lst (C9 xs lo hi)) (fun b ob q => Heap.get?_push_of_some _ q) (Nat.le_refl _) ?_, rfl, q _ (I.hok.fresh (Nat.le_refl _))⟩
 exact ⟨Nat.le_trans (ja xs lo hi) hz, _, 0, (r.drop (HT.sIx xs.length 0 lo)).take (HT.sIx xs.length xs.length hi - HT.sIx xs.length 0 lo), Heap.get?_push_size _ rfl⟩
theorem call_len_seq : CallR X (.builtin "len") (fun xs H Q => ∃ p ys, xs = [.ref p] ∧ (SqL X.K H p ys ∨ SqT X.K H p ys) ∧ Q (.int ys.length) H) := by
 intro pins s σ H xs us Q I r h
 obtain ⟨p, ys, rfl, hq, q⟩ := h
 obtain ⟨u, rfl, rx⟩ := T1 r
 cases rx
 have hn := Q3
 rcases hq with hq | hq
 ·obtain ⟨its, r', pl, hz⟩ := I.list hq
  have hlen := r'.length
  exact Calls.call_len_list pl.isList (by simp only [List.size_toArray] <;> omega) ⟨.int ys.length, H, I.tok _, ⟨s.toks + 1, by rw [List.size_toArray, hlen]⟩, q⟩
 ·obtain ⟨its, r', pl, hz⟩ := I.tuple hq
  have hlen := r'.length
  exact len_tuple pl (by simp only [List.size_toArray] <;> omega) ⟨.int ys.length, H, I.tok _, ⟨s.toks + 1, by rw [List.size_toArray, hlen]⟩, q⟩
theorem jV : CallR X (.builtin "len") (fun xs H Q => ∃ z, xs = [.str z] ∧ z.length ≤ sizeLine ∧ Q (.int z.length) H) := by
 intro pins s σ H xs us Q I r h
 obtain ⟨z, rfl, hz, q⟩ := h
 obtain ⟨u, rfl, t, rfl⟩ := T1 r
 have hn := Q3
 exact len_str (by omega) ⟨.int z.length, H, I.tok _, ⟨_, rfl⟩, q⟩
theorem CallR.or {f : Value} {r r' : List V → Hp → VK → Prop} (h : CallR X f r) (h' : CallR X f r') : CallR X f (fun xs H Q => r xs H Q ∨ r' xs H Q) := by
 intro pins s σ H xs us Q I rs q
 rcases q with q | q
 ·exact h pins s σ H xs us Q I rs q
 ·exact h' pins s σ H xs us Q I rs q
theorem lV : CallR X (.type "list") (fun xs H Q => ∃ p ys, xs = [.ref p] ∧ (SqL X.K H p ys ∨ SqT X.K H p ys) ∧ ∀ l, H l = none → Q (.ref l) (e7 H l (.lst ys))) := by
 intro pins s σ H xs us Q I r h
 obtain ⟨p, ys, rfl, hq, q⟩ := h
 obtain ⟨u, rfl, rx⟩ := T1 r
 cases rx
 have fin : ∀ (its : List Value), Vals ys its → ys.length ≤ sizeLine → ∀ (h' : Heap) (c' : Nat), (∀ b o', s.heap.get? b = some o' → h'.get? b = some o') →
   h'.get? s.heap.objs.size = some { cls := .type "list", dict := none, data := .seq its.toArray c', slots := #[] } → EP X pins σ Q (.ref s.heap.objs.size) { s with heap := h' } := fun its r' hz h' c' kp e =>
  ⟨.ref s.heap.objs.size, _, I.laid (t' := s.toks) kp (Nat.le_refl _) (show ObjOk X.prog X.w _ h' _ (.lst ys) from ⟨hz, its, c', r', e⟩), rfl, q _ (I.hok.fresh (Nat.le_refl _))⟩
 rcases hq with hq | hq
 ·obtain ⟨its, r', pl, hz⟩ := I.list hq
  have hlen := r'.length
  obtain ⟨o, ho, hc, n, hd⟩ := pl.isList
  exact call_list_seq p (.inl rfl) ho hc hd (fun h' c' kp e => fin its r' hz h' c' kp e) (by simp only [List.size_toArray] <;> omega)
 ·obtain ⟨its, r', pl, hz⟩ := I.tuple hq
  have hlen := r'.length
  obtain ⟨o, ho, hc, n, hd⟩ := pl
  exact call_list_seq p (.inr rfl) ho hc hd (fun h' c' kp e => fin its r' hz h' c' kp e) (by simp only [List.size_toArray] <;> omega)
theorem di : CallR X (.type "tuple") (fun xs H Q => ∃ p ys, xs = [.ref p] ∧ ((SqL X.K H p ys ∧ ∀ l, H l = none → Q (.ref l) (e7 H l (.tup ys))) ∨ (SqT X.K H p ys ∧ Q (.ref p) H))) := by
 intro pins s σ H xs us Q I r h
 obtain ⟨p, ys, rfl, h⟩ := h
 obtain ⟨u, rfl, rx⟩ := T1 r
 cases rx
 rcases h with ⟨hq, q⟩ | ⟨hq, q⟩
 ·obtain ⟨its, r', pl, hz⟩ := I.list hq
  have hlen := r'.length
  refine call_tuple_list pl.isList (fun h' kp => ?_) (by simp only [List.size_toArray] <;> omega)
  have I1 : Inv X pins σ H { s with heap := h' } := I.kept (t' := s.toks) kp
  have I2 : Inv X pins σ (e7 H h'.objs.size (.tup ys)) { s with heap := h'.push { cls := .type "tuple", data := .seq its.toArray } } :=
   I1.laid (t' := s.toks) (fun b o e => Heap.get?_push_of_some _ e) (Nat.le_refl _) (show ObjOk X.prog X.w _ _ _ (.tup ys) from ⟨hz, its, r', IsTup.new _ _⟩)
  exact ⟨.ref h'.objs.size, _, I2, rfl, q _ (I1.hok.fresh (Nat.le_refl _))⟩
 ·obtain ⟨its, r', pl, hz⟩ := I.tuple hq
  exact call_tuple_same pl ⟨.ref p, H, I, rfl, q⟩
noncomputable def fq (K : PySem.W.Frag) (T : String) (x : V) (H : Hp) : Prop := match x with
 | .str _ => T = "str"
 | .int _ => T = "int"
 | .ref p => (T = "list" ∧ ∃ xs, SqL K H p xs) ∨ (T = "tuple" ∧ ∃ o, K.lookup p = some o ∧ o.cls = .type "tuple" ∧ o.dict = none) ∨
   (T = "dict" ∧ ((∃ kvs, H p = some (.dK kvs)) ∨ ∃ kvs, H p = some (.dT kvs))) ∨ (T = "set" ∧ ∃ S n, H p = some (.set S n))
 | _ => False
theorem kW {pins : List (Addr × Obj)} {σ : St} {H : Hp} {s : Shared} {T : String} {x : V} {v : Value} (I : Inv X pins σ H s) (r : RelV x v) (ty : fq X.K T x H) :
  s.TypeIs v T ∧ ∀ a, v = .ref a → ∃ ob, s.heap.get? a = some ob ∧ ob.dict = none := by
 cases x with
 | str z =>
  obtain ⟨t, rfl⟩ := r
  cases (show T = "str" from ty)
  exact ⟨typeIs_str s z t, fun _ e => nomatch e⟩
 | int i =>
  obtain ⟨t, rfl⟩ := r
  cases (show T = "int" from ty)
  exact ⟨typeIs_int s i t, fun _ e => nomatch e⟩
 | ref p =>
  cases r
  rcases ty with ⟨rfl, xs, hq⟩ | ⟨rfl, o, hk, hc, hd⟩ | ⟨rfl, hk⟩ | ⟨rfl, S, n, hk⟩
  ·obtain ⟨its, _, pl, _⟩ := I.list hq
   refine ⟨pl.isList.typeIs, fun a e => ?_⟩
   cases e
   obtain ⟨o, n, e, c, hd, _⟩ := pl
   exact ⟨o, e, hd⟩
  ·refine ⟨⟨o, I.kIn p o hk, hc⟩, fun a e => ?_⟩
   cases e
   exact ⟨o, I.kIn _ o hk, hd⟩
  ·have z : ∃ o, s.heap.get? p = some o ∧ o.ExactDict := by
    rcases hk with ⟨kvs, hk⟩ | ⟨kvs, hk⟩
    ·obtain ⟨_, _, _, _, o, _, _, e, ex, _⟩ := I.hok p _ hk
     exact ⟨o, e, ex⟩
    ·obtain ⟨_, _, _, _, o, _, _, e, ex, _⟩ := I.hok p _ hk
     exact ⟨o, e, ex⟩
   obtain ⟨o, e, ex⟩ := z
   refine ⟨⟨o, e, ex.1⟩, fun a e2 => ?_⟩
   cases e2
   exact ⟨o, e, ex.2.1⟩
  ·obtain ⟨o, _, _, _, e, ex, _⟩ := I.hok p _ hk
   refine ⟨⟨o, e, ex.1⟩, fun a e2 => ?_⟩
   cases e2
   exact ⟨o, e, ex.2.1⟩
 | _ => exact False.elim ty
noncomputable def ng (K : PySem.W.Frag) (T : String) (r : V → List V → Hp → VK → Prop) (to : TE) (t : TA) : TE := fun σ H Q => to σ H fun x H1 => fq K T x H1 ∧ t σ H1 fun xs H2 => r x xs H2 Q
variable {o e : Expr} {es : List Expr} {to : TE} {t : TA} {name : Str} {apos cpos : Pos} {T id : String} {r : V → List V → Hp → VK → Prop}
theorem pR (pa : PlainAttrs T) (slot : Slot T name id) (hty : typeOf (.builtin id) = pure (.type "method_descriptor")) (hm : sV X id r) (ho : PE X o to) (ha : PA X (e :: es) t)
  (hbase : attributeBase o name X.env (eval o X.env) = eval o X.env := by rfl)
  (hfew : ((backTo cpos (starEach (e :: es) X.env)).all (fun x => !x.1) && (backToKw cpos (keywordEach [] X.env)).all (fun x => x.1.isSome)
   && decide ((e :: es).length + ([] : List Keyword).length + (if ([] : List Keyword).isEmpty then 0 else 1) < 30)) = true := by rfl)
  (hline : (apos.endLine == cpos.line) = true := by rfl) (hs : starEach (e :: es) X.env = (false, eval e X.env) :: starEach es X.env := by rfl) (hplain : (backTo cpos (starEach es X.env)).any (·.1) = false := by rfl) :
  PE X (.Call (.Attribute o name apos) (e :: es) [] cpos) (ng X.K T r to t) := by
 intro pins s σ H Q I h
 refine wpAny_Call_method_late hbase hfew hline rfl (i7 (ho pins s σ H _ I h) fun v s1 ⟨x, H1, I1, r1, ty, q1⟩ => ?_)
 obtain ⟨h1, h2⟩ := kW I1 r1 ty
 refine ⟨T, id, pa, slot, hty, h1, h2, ?_⟩
 have hA := ha cpos pins s1 σ H1 _ I1 q1
 rw [hs] at hA ⊢
 refine Calls.callWith_builtin (by show (false || (backTo cpos (starEach es X.env)).any (·.1)) = false; rw [hplain] <;> rfl) (Calls.evalArgs_plain ?_)
 exact i7 hA fun us s2 ⟨vs, H2, I2, r2, q2⟩ => hm pins s2 σ H2 x vs v us Q I2 r1 r2 q2
end
noncomputable def rW (X : Cx) (id : String) (r : V → List V → Hp → VK → Prop) : Prop :=
 ∀ (pins : List (Addr × Obj)) (s : Shared) (σ : St) (H : Hp) (x : V) (xs : List V) (v : Value) (us : List Value) (Q : VK), Inv X pins σ H s → RelV x v → Vals xs us → r x xs H Q →
  wpAny (model X.prog X.w) X.A (call (.builtin id) (v :: us)) (EP X pins σ Q) X.xe s
theorem Vals.one : ∀ {x : V} {us : List Value}, Vals [x] us → ∃ u, us = [u] ∧ RelV x u := by
 intro x us h
 cases h with
 | cons r t =>
  cases t
  exact ⟨_, rfl, r⟩
theorem Vals.rep {xs : List V} {us : List Value} (h : Vals xs us) : ∀ k : Nat, Vals (List.replicate k xs).flatten (List.replicate k us).flatten
 | 0 => .nil
 | k + 1 => by
  rw [List.replicate_succ, List.replicate_succ, List.flatten_cons, List.flatten_cons]
  exact Vals.append h (Vals.rep h k)
theorem fO (its : List Value) : ∀ (k : Nat) (acc : List Value),
  List.foldl (fun x1 x2 => x1 ++ x2) acc.toArray (List.replicate k its.toArray) = (acc ++ (List.replicate k its).flatten).toArray
 | 0, acc => by simp
 | k + 1, acc => by
  have e : acc.toArray ++ its.toArray = (acc ++ its).toArray := by simp
  have e2 : (acc ++ its) ++ (List.replicate k its).flatten = acc ++ (List.replicate (k + 1) its).flatten := by
   rw [List.replicate_succ, List.flatten_cons, List.append_assoc]
  rw [← e2, ← fO its k (acc ++ its), ← e, List.replicate_succ, List.foldl_cons]
section
variable {X : Cx} {pins : List (Addr × Obj)} {σ : St} {H : Hp} {s : Shared} {l b : Addr} {xs ys zs : List V}
theorem Inv.lset {its its' : List Value} {n : Nat} {f : Array Value → Array Value} {t' : Nat} (I : Inv X pins σ H s) (hH : H l = some (.lst xs))
  (e : s.heap.get? l = some { cls := .type "list", data := .seq its.toArray n }) (hf : f its.toArray = its'.toArray) (hv : Vals ys its') (hz : ys.length ≤ sizeLine) :
  Inv X pins σ (e7 H l (.lst ys)) { s with heap := s.heap.update l (Obj.mapSeq f), toks := t' } := by
 have q := PySem.IsL.update e f
 rw [hf] at q
 refine I.write (x := l) (e := l) (by rw [hH]; exact trivial) (.inl rfl) (fun b' u hb hu => (Heap.get?_update_other s.heap (Obj.mapSeq f) (Ne.symm hb)).trans hu) ⟨_, q⟩ ?_
 exact ⟨hz, its', _, hv, q⟩
theorem Inv.lnew {its : List Value} {t' : Nat} (I : Inv X pins σ H s) (hv : Vals ys its) (hz : ys.length ≤ sizeLine) :
  Inv X pins σ (e7 H s.heap.objs.size (.lst ys)) { s with heap := s.heap.push { cls := .type "list", data := .seq its.toArray }, toks := t' } :=
 I.laid (fun _ _ q => Heap.get?_push_of_some _ q) (Nat.le_refl _) ⟨hz, its, 0, hv, Heap.get?_push_size _ rfl⟩
theorem Inv.fresh (I : Inv X pins σ H s) : H s.heap.objs.size = none := I.hok.fresh (Nat.le_refl _)
theorem Inv.lstM (I : Inv X pins σ H s) (hH : H l = some (.lst xs)) : xs.length ≤ sizeLine ∧ ∃ (its : List Value) (n : Nat), Vals xs its ∧ xs.length = its.length ∧ s.heap.get? l = some { cls := .type "list", data := .seq its.toArray n } := by
 obtain ⟨z, its, n, r, e⟩ := I.hok l _ hH
 exact ⟨z, its, n, r, r.length, e⟩
theorem qT {n : Nat} (h : n ≤ sizeLine) : Builtin.List.listTooLong n = false := by
 unfold Builtin.List.listTooLong
 exact decide_eq_false (by omega)
end
section
variable {X : Cx}
noncomputable def nS : V → List V → Hp → VK → Prop := fun x vs H Q => ∃ l xs y, x = .ref l ∧ vs = [y] ∧ H l = some (.lst xs) ∧ xs.length < sizeLine ∧ Q .non (e7 H l (.lst (xs ++ [y])))
theorem et : rW X "list.append" nS := by
 intro pins s σ H x vs v us Q I rx rv h
 obtain ⟨l, xs, y, rfl, rfl, hH, hz, q⟩ := h
 cases rx
 obtain ⟨u, rfl, ru⟩ := rv.one
 obtain ⟨z, its, n, r, hl, e⟩ := I.lstM hH
 refine call_meets F.slot_list_append ⟨_, e, rfl⟩ F.entry_list_append (F.args_list_append_2 _ _) (PySem.list_append l its.toArray n u (by rw [List.size_toArray]; omega)) ⟨e, ?_⟩
 refine ⟨.non, _, I.lset (its' := its ++ [u]) hH e (by simp) (r.append (.cons ru .nil)) ?_, rfl, q⟩
 rw [List.length_append, List.length_singleton]
 omega
noncomputable def eN : R2 := fun x y H Q => ∃ l b xs zs, x = .ref l ∧ y = .ref b ∧ H l = some (.lst xs) ∧ H b = some (.lst zs) ∧ xs.length + zs.length ≤ sizeLine ∧ ∀ p, H p = none → Q (.ref p) (e7 H p (.lst (xs ++ zs)))
theorem nJ : OpR X (binaryOp .Add) eN := by
 intro pins s σ H x y v u Q I rx ry h
 obtain ⟨l, b, xs, zs, rfl, rfl, hH, hB, hz, q⟩ := h
 cases rx
 cases ry
 obtain ⟨z, its, n, r, hl, e⟩ := I.lstM hH
 obtain ⟨z2, its2, n2, r2, hl2, e2⟩ := I.lstM hB
 refine PySem.P.add_list e e2 ?_ (by rw [List.size_toArray, List.size_toArray]; omega)
 have ea : its.toArray ++ its2.toArray = (its ++ its2).toArray := by simp
 rw [ea]
 exact ⟨.ref _, _, I.lnew (t' := s.toks) (r.append r2) (by rw [List.length_append]; omega), rfl, q _ I.fresh⟩
noncomputable def gr : R2 := fun x y H Q => ∃ l k xs, x = .ref l ∧ y = .int k ∧ H l = some (.lst xs) ∧ -(2 ^ 63) ≤ k ∧ k < 2 ^ 63 ∧ xs.length * k.toNat ≤ sizeLine ∧
 ∀ p, H p = none → Q (.ref p) (e7 H p (.lst (List.replicate k.toNat xs).flatten))
theorem og {α : Type} (xs : List α) (k : Nat) : (List.replicate k xs).flatten.length = k * xs.length := by
 induction k with
 | zero => simp
 | succ k ih => rw [List.replicate_succ, List.flatten_cons, List.length_append, ih, Nat.succ_mul, Nat.add_comm]
theorem qJ : OpR X (binaryOp .Mult) gr := by
 intro pins s σ H x y v u Q I rx ry h
 obtain ⟨l, k, xs, rfl, rfl, hH, h1, h2, hz, q⟩ := h
 cases rx
 obtain ⟨t, rfl⟩ := ry
 obtain ⟨z, its, n, r, hl, e⟩ := I.lstM hH
 have hlen : its.toArray.size * k.toNat ≤ sizeLine := by rw [List.size_toArray, ← hl]; exact hz
 have hcap : ¬ its.toArray.size * k.toNat > (2 ^ 63 - 1) / 8 := by
  have : (sizeLine : Nat) ≤ (2 ^ 63 - 1) / 8 := by decide
  omega
 have hfit : ¬ (!Builtin.List.listFitsIndex k) = true := by
  rw [fitsIndex_both h1 h2]
  exact Bool.false_ne_true
 have hlong : ¬ Builtin.List.listTooLong (its.toArray.size * k.toNat) = true := by
  rw [qT hlen]
  exact Bool.false_ne_true
 have hnew : List.foldl (fun x1 x2 => x1 ++ x2) #[] (List.replicate (if its.toArray.isEmpty = true then 0 else k.toNat) its.toArray) = (List.replicate k.toNat its).flatten.toArray := by
  have f0 : ∀ m : Nat, List.foldl (fun x1 x2 => x1 ++ x2) #[] (List.replicate m its.toArray) = (List.replicate m its).flatten.toArray := fun m => by
   have := fO its m []
   rw [List.nil_append] at this
   exact this
  rw [f0]
  cases its with
  | nil => simp
  | cons a r' => rw [if_neg (by simp)]
 refine wpAny_binaryOp_repeat_ref (T := "list") (U := "int") (by decide) ⟨_, e, rfl⟩ (fun s' => typeIs_int s' k t) noFill_list_mul F.fills_int_mul F.slot_int_rmul repeat_list F.slot_int_index.lookup
  (call_meets F.slot_int_rmul (typeIs_int s k t) F.entry_int_rmul (F.args_int_rmul_2 _ _) (int___rmul___int_list k t l its.toArray n)
   ⟨e, rfl, ⟨_, e, rfl⟩, call_meets F.slot_list_mul ⟨_, e, rfl⟩ F.entry_list_mul (F.args_list_mul_2 _ _) (AutoListH.list___mul___list_int_3 l its.toArray n k t hfit hcap hlong) ⟨e, ?_⟩⟩)
 rw [hnew]
 exact ⟨.ref _, _, I.lnew (t' := s.toks) (r.rep k.toNat) (by rw [og, Nat.mul_comm]; exact hz), rfl, q _ I.fresh⟩
end
end L2
namespace Att
open PySem PySem.W PySem.Calls PyProof.Rows
theorem lX {P : Params} {h : Heap} : ∀ (ns : List Int) (vs : List Value), WellAll P h vs (ns.map WData.int) → IntsAre vs ns := by
 intro ns
 induction ns with
 | nil =>
  intro vs w
  rw [List.map_nil] at w
  cases w
  exact .nil
 | cons n ns ih =>
  intro vs w
  rw [List.map_cons] at w
  cases w with
  | cons a b =>
   cases a
   exact .cons _ _ (ih _ b)
theorem rV {l : OpenLaw} {n : Nat} (hn : l.most = some n) {P : Params} {h : Heap} {args : List WData} {vals : List Value}
  (hpre : l.row.toRowW.claim.pre args = true) (hwl : WellAll P h vals args) :
  ∃ a vs ns, vals = [Value.ref a] ∧ args = [WData.list (ns.map WData.int)] ∧ h.get? a = some { cls := .type "list", data := .seq vs.toArray } ∧ IntsAre vs ns ∧ ns.length ≤ n := by
 have hsh : WShape.hasAll [] args [.list .int] = true := (pre_splitW hpre).1
 have hc : l.pre.holds [] { args := args } = true := (pre_splitW hpre).2
 obtain ⟨d, r, rfl, h1, h2⟩ := hasAllW_cons hsh
 obtain rfl := hasAllW_nil h2
 obtain ⟨xs, rfl, h3⟩ := hasW_list h1
 obtain ⟨ns, rfl⟩ := items_int h3
 have hlen : ns.length ≤ n := by
  unfold OpenLaw.pre at hc
  have h4 : (WTm.not (.lt (.lit (.int (n : Int))) (.len (.arg 0)))).holds [] { args := [.list (ns.map .int)] } = true := by
   have h4 := (holds_andW hc).1
   rw [hn] at h4
   exact h4
  have h5 := condW_of h4 (w_not (w_lt w_lit (w_len_list (w_arg rfl))))
  rw [List.length_map] at h5
  refine Nat.le_of_not_lt fun q => ?_
  have q' : (n : Int) < ((ns.length : Nat) : Int) := by omega
  first
   | (rw [decide_eq_true q'] at h5; exact absurd h5 (by decide))
   | (simp at h5; omega)
 cases hwl with
 | cons w1 w2 =>
  cases w2
  cases w1 with
  | list ho hall => exact ⟨_, _, ns, rfl, rfl, ho, lX ns _ hall, hlen⟩
theorem oF (l : OpenLaw) (args : List WData) : l.row.toRowW.claim.post args (.bool true) args = true :=
 postW_of (r := l.row.toRowW) (X := (true == true))
  (show WShape.has [] (.bool true) .bool = true by first | rfl | decide | simp [WShape.has, WShape.arms, WShape.armsAll])
  (show (WTm.eq .res (.lit (.bool true))).value [] { args := args, res := some (.bool true), after := args } = some (.bool (true == true)) from w_eq_bool (w_res rfl) w_lit) rfl
theorem attach_call {l : OpenLaw} {n : Nat} {q : Program} {loose : List Str} {XP : (Str → Option Value) → Heap → Prop} {YP : World → Heap → Prop} {d : DefRec}
  (hn : l.most = some n) (hdf : d.params.defaults = [])
  (call : ∀ (w : World) (s₀ s₁ : Shared) (mg mb : Str → Option Value) (fa : Addr) (o : Obj) (pm cd doc : Value) (a : Addr) (vs : List Value) (ns : List Int),
   Ground q loose [] XP w s₀ mg mb s₁.heap → YP w s₁.heap →
   s₁.heap.get? fa = some o → o.data = .func (docDef d.name d.params d.body d.scope pm cd doc) → s₁.heap.CodeRec cd d.name → mg d.name = some (.ref fa) →
   s₁.heap.get? a = some { cls := .type "list", data := .seq vs.toArray } → IntsAre vs ns → ns.length ≤ n → s₁.gens = #[] →
   codeAny (model l.prog w) callerA (.call (.ref fa) ⟨[.ref a], []⟩) (fun r s' => r = .ok (.ret (.bool true)) ∧ OldK s₁.heap s'.heap ∧ s'.os = s₁.os ∧ AllBare s'.gens) s₁) :
  WalkO q loose XP YP l.row.toRowW d [] (fun f vs => PySem.call f vs) := by
 intro w s₀ s₁ mg mb G Y fa o pm cd doc dV kV ho hd hcd hD hmg hg args vals as hpre hlay hrd hwl hlo
 obtain rfl : dV = .none := Dflts.none hD hdf
 obtain rfl : kV = .none := Dflts.noKw hD
 obtain ⟨a, vs, ns, rfl, rfl, hobj, hints, hlen⟩ := rV hn hpre hwl
 refine enter_call (codeAny_mono (call w s₀ s₁ mg mb fa o pm cd doc a vs ns G Y ho (fd_plain hd) hcd hmg hobj hints hlen hg) fun r s' hq => ?_)
 obtain ⟨rfl, h2, h3, h4⟩ := hq
 exact ⟨.inl ⟨.bool true, .bool true, [], rfl, fun _ => rfl, .bool true, oF l _, fun _ => ⟨List.Pairwise.nil, fun _ hm => (nomatch hm)⟩⟩, h2, h3, h4⟩
end Att
namespace L2
open PySem PySem.Spec PyProof.Rows
theorem fj : ∀ {vs : List Value} {ns : List Int}, IntsAre vs ns → Vals (ns.map V.int) vs
 | _, _, .nil => .nil
 | _, _, .cons n t h => .cons ⟨t, rfl⟩ (fj h)
noncomputable def bp (H : Hp) : Prop := ∀ b, H b = none ∨ ∃ o xs, H b = some (.frz o (.lst xs))
theorem qp {P : Program} {w : World} {K : PySem.W.Frag} {mg mb : Str → Option Value} {CX : C5} {k : Nat} {fa a : Addr} {fd : FuncData} {x : Str} {sp : Sp} {s₁ : Shared} {vs : List Value} {ns : List Int}
  (KX : K.In s₁.heap) (hns : s₁.heap.Ns mainGlobals mg) (hb : s₁.heap.Ns builtinsNs mb) (hbb : ∀ x : Str, x ≠ "__name__" → mb x = bootBuiltins x) (hlim : s₁.heap.NoLimit) (hg : s₁.gens = #[])
  (ha : s₁.heap.get? a = some { cls := .type "list", data := .seq vs.toArray }) (hi : IntsAre vs ns) (hl : ns.length ≤ sizeLine) (hr : Room k callerA)
  (F : ∀ base : Heap, K.In base → base.Ns mainGlobals mg → FnOk P w K mg base CX k fa fd [x] sp) (hbind : ∀ (s : Shared) (u : Value), BindsTo s fd ⟨[u], []⟩ [(x, u)])
  (hsp : ∀ H : Hp, bp H → SqL K H a (ns.map V.int) → sp [.ref a] H (fun v _ => v = .bl true) fun _ _ _ => False)
  (hCX : ∀ H e s', CX [] H s₁ (fun _ _ _ => False) e s' → False) :
  codeAny (model P w) callerA (.call (.ref fa) ⟨[.ref a], []⟩) (fun r s' => r = .ok (.ret (.bool true)) ∧ OldK s₁.heap s'.heap ∧ s'.os = s₁.os ∧ AllBare s'.gens) s₁ := by
 have rv := fj hi
 have lenV := hi.length
 have core : ∀ H : Hp, bp H → SqL K H a (ns.map V.int) → HOk P w H s₁.heap → (∀ b, H b ≠ none → b = a) → (H a ≠ none → K.lookup a = none) →
   codeAny (model P w) callerA (.call (.ref fa) ⟨[.ref a], []⟩) (fun r s' => r = .ok (.ret (.bool true)) ∧ OldK s₁.heap s'.heap ∧ s'.os = s₁.os ∧ AllBare s'.gens) s₁ := by
  intro H hO hS hok hA hK
  have base_of : ∀ {b : Addr} {o : Obj}, s₁.heap.get? b = some o → H b = none → (G8 s₁.heap H).get? b = some o := fun e n => so e n
  have noA : ∀ {b : Addr} {o : Obj} {es : Array DictEntry} {ep : Nat}, s₁.heap.get? b = some o → o.data = .dict es ep → H b = none := fun {b o es ep} e d => by
   cases q : H b with
   | none => rfl
   | some u =>
    have e' : b = a := hA b (by rw [q]; simp)
    subst e'
    rw [ha] at e; cases e
    have d' : Data.seq vs.toArray _ = Data.dict es ep := d
    cases d'
  have nsK : ∀ {b : Addr} {m : Str → Option Value}, s₁.heap.Ns b m → (G8 s₁.heap H).Ns b m := fun {b m} ⟨o, es, ep, e, d, r⟩ => ⟨o, es, ep, base_of e (noA e d), d, r⟩
  have hKb : K.In (G8 s₁.heap H) := fun b o e => base_of (KX b o e) (by
   cases q : H b with
   | none => rfl
   | some u =>
    have e' : b = a := hA b (by rw [q]; simp)
    subst e'
    rw [hK (by rw [q]; simp)] at e; cases e)
  have hM : Mod K mg (G8 s₁.heap H) := ⟨hKb, nsK hns, ⟨mb, nsK hb, hbb⟩, let ⟨mc, h1, h2⟩ := hlim; ⟨mc, nsK h1, h2⟩⟩
  have e0 : Env0 P w K mg (G8 s₁.heap H) callerA [] s₁ H := ⟨rfl, hM, fun b o e => oE e, Nat.le_of_eq (jG _ _), trivial, fun b hb => absurd (show b ∈ ([] : List Addr) from hb) (by simp), hok, .of_eq hg⟩
  refine codeAny_mono ((F _ hKb (nsK hns)).run callerA [] s₁ H ⟨[.ref a], []⟩ [.ref a] [.ref a] _ _ hr e0 (hbind s₁ (.ref a)) (.cons rfl .nil) (hsp H hO hS)) fun r s' h => ?_
  cases r with
  | error e => exact (hCX H e s' h).elim
  | ok fl =>
   cases fl with
   | next => exact False.elim h
   | brk => exact False.elim h
   | cont => exact False.elim h
   | ret u =>
    obtain ⟨v, H', os, bare, un, hok', r', q⟩ := h
    have q' : v = .bl true := q
    subst q'
    obtain rfl : u = Value.bool true := r'
    refine ⟨rfl, OldK.of_keep fun b o e => ?_, os, bare⟩
    cases q : H b with
    | none => exact un.keep b o e q (by intro z; exact absurd (show b ∈ ([] : List Addr) from z) (by simp)) (by simp)
    | some u =>
     rcases hO b with z | ⟨ob, xs, z⟩
     ·rw [q] at z; cases z
     ·have z2 := un.frzs b ob _ z
      obtain ⟨e1, _⟩ := hok b _ z
      obtain ⟨e2, _⟩ := hok' b _ z2
      rw [e] at e1; cases e1
      exact e2
 cases hk : K.lookup a with
 | some o =>
  have e := KX a o hk
  rw [ha] at e
  cases e
  refine core (fun _ => none) (fun _ => .inl rfl) (.inr ⟨_, vs.toArray, _, hk, rfl, rfl, rfl, by rw [List.size_toArray, lenV]; exact hl, by simpa using rv⟩) (fun b u z => by have z' : (none : Option HO) = some u := z; cases z') (fun b z => absurd rfl z) fun z => absurd rfl z
 | none =>
  refine core (fun b => if b = a then some (.frz { cls := .type "list", data := .seq vs.toArray } (.lst (ns.map V.int))) else none) (fun b => ?_) (.inl (.inr ⟨{ cls := .type "list", data := .seq vs.toArray }, if_pos rfl⟩)) (fun b u z => ?_) (fun b z => ?_) fun _ => hk
  ·by_cases hb : b = a
   ·exact .inr ⟨_, _, if_pos hb⟩
   ·exact .inl (if_neg hb)
  ·by_cases hb : b = a
   ·have z' := (if_pos hb).symm.trans z
    cases z'
    subst hb
    exact ⟨ha, by rw [List.length_map]; exact hl, vs, _, rv, ha⟩
   ·have z' := (if_neg hb).symm.trans z
    cases z'
  ·by_cases hb : b = a
   ·exact hb
   ·exact absurd (if_neg hb) z
theorem walk_of {l : PySem.W.OpenLaw} {n k : Nat} {q : Program} {loose : List Str} {XP : (Str → Option Value) → Heap → Prop} {YP : World → Heap → Prop} {d : DefRec} {K : Params → PySem.W.Frag} {CX : World → C5} {sp : World → Sp} {x : Str}
  (hn : l.most = some n) (hn2 : n ≤ sizeLine) (hdf : d.params.defaults = []) (hr : Room k callerA)
  (hY : ∀ (w : World) (h : Heap), YP w h → (K w.params).In h)
  (F : ∀ (w : World) (mg : Str → Option Value) (fa : Addr) (h : Heap), (K w.params).In h → h.Ns mainGlobals mg → mg d.name = some (.ref fa) →
   ∃ fd : FuncData, (∀ (s : Shared) (u : Value), BindsTo s fd ⟨[u], []⟩ [(x, u)]) ∧
    ∀ base : Heap, (K w.params).In base → base.Ns mainGlobals mg → FnOk l.prog w (K w.params) mg base (CX w) k fa fd [x] (sp w))
  (hsp : ∀ (w : World) (H : Hp) (a : Addr) (ns : List Int), ns.length ≤ n → bp H → SqL (K w.params) H a (ns.map V.int) → sp w [.ref a] H (fun v _ => v = .bl true) fun _ _ _ => False)
  (hCX : ∀ (w : World) (H : Hp) (s : Shared) (e : Value) (s' : Shared), CX w [] H s (fun _ _ _ => False) e s' → False) :
  PySem.W.WalkO q loose XP YP l.row.toRowW d [] (fun f vs => PySem.call f vs) := by
 refine Att.attach_call hn hdf fun w s₀ s₁ mg mb fa o pm cd doc a vs ns G Y ho hd hcd hmg hobj hints hlen hg => ?_
 have KX := hY w _ Y
 obtain ⟨fd, hb, hF⟩ := F w mg fa _ KX G.T.g hmg
 exact qp KX G.T.g G.T.b G.T.builtins G.T.nolimit hg hobj hints (Nat.le_trans hlen hn2) hr hF hb (fun H hO hS => hsp w H a ns hlen hO hS) fun H e s' => hCX w H s₁ e s'
noncomputable def K0 (s : Stmt) : Arguments := match s with
 | .FunctionDef _ a _ _ _ _ _ _ _ _ => a
 | _ => { posonlyargs := [], args := [], vararg := none, kwonlyargs := [], kw_defaults := [], kwarg := none, defaults := [] }
noncomputable def B1 (s : Stmt) : List Stmt := match s with
 | .FunctionDef _ _ b _ _ _ _ _ _ _ => b
 | _ => []
noncomputable def j4 (s : Stmt) : Scope := match s with
 | .FunctionDef _ _ _ _ _ _ sc _ _ _ => sc
 | _ => { kind := .function, names := [], isGenerator := false, isCoroutine := false }
noncomputable abbrev E6 : C5 := fun _ _ _ _ _ _ => False
noncomputable abbrev E0 : XK := fun _ _ _ => False
theorem lK {X : Cx} : bW E6 X E0 := fun _ _ _ _ _ _ _ h => h.elim
structure Fun (K : PySem.W.Frag) (x qual : Str) (st : Stmt) (f : Addr) (fd : FuncData) : Prop where
 ex : ∃ (oc : Value) (od : Option Addr) (kV doc pm : Value) (an : Option Addr) (cdv ct : Value) (osl : Array (Option Value)),
  fd = PySem.W.fnOf x qual (K0 st) (B1 st) (j4 st) .none kV doc pm an cdv ct ∧ K.lookup f = some ⟨oc, od, .func fd, osl⟩ ∧ PySem.W.codeIn K cdv qual = true
 kp : PySem.W.keepIn K (.ref f) = true
section
variable {P : Program} {w : World} {K : PySem.W.Frag} {mg : Str → Option Value} {base : Heap}
theorem Fun.ok {x qual : Str} {st : Stmt} {f : Addr} {fd : FuncData} {N ps : List Str} {k : Nat} {sp : Sp} (F : Fun K x qual st f fd) (S : FnScope N ps (j4 st)) (len : ∀ vs H Q E, sp vs H Q E → vs.length = ps.length)
  (hbody : ∀ (cdv : Value) (A : Around) (outer : List Env) (s : Shared) (H : Hp) (vs : List V) (Q : VK) (E : XK), Room k (A.deeper (envOfC qual (j4 st) s.heap.objs.size f cdv)) → sp vs H Q E →
   ∃ t, PSs (A9 E6 P w K mg base N qual (j4 st) f cdv A outer s H E).nox (B1 st) t ∧ t { nx := fun _ H' => Q .non H', rt := Q } (start N vs) H) : FnOk P w K mg base E6 (k + 1) f fd ps sp := by
 obtain ⟨oc, od, kV, doc, pm, an, cdv, ct, osl, rfl, lk, hcd⟩ := F.ex
 refine hR lk hcd S len fun A outer s H vs Q E hr hsp => ?_
 obtain ⟨t, h, q⟩ := hbody cdv A outer s H vs Q E hr hsp
 exact ⟨t, h.nox, q⟩
theorem Fun.binds {x qual : Str} {st : Stmt} {f : Addr} {fd : FuncData} {ps : List Str} (F : Fun K x qual st f fd)
  (h : ∀ (kV doc pm : Value) (an : Option Addr) (cdv ct : Value) (us : List Value), us.length = ps.length → bindArgs (PySem.W.fnOf x qual (K0 st) (B1 st) (j4 st) .none kV doc pm an cdv ct) ⟨us, []⟩ = pure (ps.zip us)) : Binds K fd ps [] := by
 obtain ⟨oc, od, kV, doc, pm, an, cdv, ct, osl, rfl, lk, hcd⟩ := F.ex
 exact .all (h kV doc pm an cdv ct)
theorem oO {x qual : Str} {st : Stmt} {f : Addr} {oc : Value} {od an : Option Addr} {osl : Array (Option Value)} {kV doc pm cdv ct : Value} (l : K.lookup f = some ⟨oc, od, .func (PySem.W.fnOf x qual (K0 st) (B1 st) (j4 st) .none kV doc pm an cdv ct), osl⟩)
  (c : PySem.W.codeIn K cdv qual = true) (k : PySem.W.keepIn K (.ref f) = true) : Fun K x qual st f (PySem.W.fnOf x qual (K0 st) (B1 st) (j4 st) .none kV doc pm an cdv ct) := ⟨⟨oc, od, kV, doc, pm, an, cdv, ct, osl, rfl, l, c⟩, k⟩
end
theorem rR {n : Nat} (h : n ≤ 1000) : n < sizeLine := Nat.lt_of_le_of_lt h (by decide)
section
variable {X : Cx}
theorem pv (i : Nat) {x : Str} {pos : Pos} (hN : X.N[i]? = some x := by rfl) (hv : dc X.env.scope x := by first | exact Or.inl rfl | exact Or.inr (Or.inl rfl) | exact Or.inr (Or.inr rfl)) (hd : (x == ("__debug__" : Str)) = false := by decide)
  (hcd : (x == ("__classdict__" : Str)) = false := by decide) : PE X (.Name x pos) (M1 i) := qo hN hv hd hcd
end
theorem kU {A B : Prop} (h : B) : if false = true then A else B := by
 rw [if_neg Bool.false_ne_true]
 exact h
theorem lj {A B : Prop} (h : A) : if true = true then A else B := by
 rw [if_pos rfl]
 exact h
noncomputable def v5 (X : Cx) (N' : List Str) (scope : Scope) (cl : List (Str × Addr)) (C : Addr) (s0 : Shared) (H0 : Hp) (ex : List Addr) : Cx :=
 { X with N := N', env := compEnvC scope cl C X.env, s₀ := s0, H₀ := H0, outer := X.stack, stack := X.stack, ex := ex, fn := fun _ => false, pn := [], xe := fun _ _ => False }
noncomputable def Z1 (X : Cx) (ifs : List Expr) (t : TT) : Prop :=
 ∀ (pins : List (Addr × Obj)) (s : Shared) (σ : St) (H : Hp) (Q : Bool → Hp → Prop), Inv X pins σ H s → t σ H Q →
  wpAny (model X.prog X.w) X.A (forIn ifs true fun c r => if r = true then do let ok ← isTrue c X.env (eval c X.env); pure (ForInStep.yield ok) else pure (ForInStep.yield r)) (TP X pins σ Q) X.xe s
noncomputable def pH : TT := fun _ H Q => Q true H
theorem rg {X : Cx} : Z1 X [] pH := fun pins s σ H Q I h => wpAny_tests_nil ⟨H, I, h⟩
noncomputable def w4 (n : Nat) (idx : List Nat) (σ : St) : St := List.replicate n none ++ idx.map fun i => (σ[i]?).join
noncomputable def Z7 (n : Nat) (idx : List Nat) (wi : TI) (g : TG) (tc : TT) (te : TE) : TE := fun σ H Q => wi σ H fun J H1 => ∀ D, H1 D = none →
 ∃ W : Nat → Nat → Hp → Prop, (∃ m, W 0 m (e7 H1 D (.lst []))) ∧ ∀ i m H, W i m H →
  (J.stop i H ∧ Q (.ref D) H) ∨ (J.go i H ∧ ∀ x H', J.yld i H x H' → g x (w4 n idx σ) H' fun σ2 H2 => (σ2.length = (w4 n idx σ).length ∧ ∀ (j : Nat) (v : V), (w4 n idx σ)[j]? = some (some v) → σ2[j]? = some (some v)) ∧ tc σ2 H2 fun b H3 =>
   if b = true then te σ2 H3 fun v H4 => ∃ ys, H4 D = some (.lst ys) ∧ ys.length < sizeLine ∧ ∃ m', m' < m ∧ W (i + 1) m' (e7 H4 D (.lst (ys ++ [v]))) else ∃ m', m' < m ∧ W (i + 1) m' H3)
structure CompOk (X : Cx) (scope : Scope) (cl : List (Str × Addr)) (N' : List Str) (n : Nat) (idx : List Nat) : Prop where
 clos : closureFor scope X.env = pure cl
 sub : ∀ x c, cl.lookup x = some c → X.env.cells.lookup x = some c
 cell : ∀ y ∈ scope.names, y.2 ≠ .cell
 kind : scope.kind = .function
 names : ∀ y ∈ scope.names, y.2 = .local → scope.names.lookup y.1 = some .local
 has : ∀ x, ((relabel scope X.env).names.lookup x = some .cell ∨ (relabel scope X.env).names.lookup x = some .free) → ∃ c, cl.lookup x = some c
 len : N'.length = n + idx.length
 cap : ∀ (j i : Nat) (y : Str), idx[j]? = some i → N'[n + j]? = some y → X.N[i]? = some y ∧ (X.env.scope.names.lookup y = some .cell ∨ X.env.scope.names.lookup y = some .free) ∧ ((relabel scope X.env).names.lookup y = some .cell ∨ (relabel scope X.env).names.lookup y = some .free)
section
variable {X : Cx} {scope : Scope} {cl : List (Str × Addr)} {N' : List Str} {n : Nat} {idx : List Nat} {tg iter elt : Expr} {ifs : List Expr} {pos : Pos} {wi : TI} {g : TG} {tc : TT} {te : TE}
theorem nP (σ : St) : (w4 n idx σ).length = n + idx.length := by simp [w4]
theorem pK {σ : St} {j : Nat} {v : V} (h : (w4 n idx σ)[j]? = some (some v)) : ∃ k i, j = n + k ∧ idx[k]? = some i ∧ σ[i]? = some (some v) := by
 unfold w4 at h
 by_cases hj : j < n
 ·rw [List.getElem?_append_left (by simpa using hj)] at h
  simp [hj] at h
 ·rw [List.getElem?_append_right (by simpa using Nat.le_of_not_lt hj)] at h
  simp only [List.length_replicate, List.getElem?_map] at h
  refine ⟨j - n, ?_⟩
  cases e : idx[j - n]? with
  | none => rw [e] at h; simp at h
  | some i =>
   rw [e] at h
   simp only [Option.map_some, Option.some.injEq] at h
   exact ⟨i, by omega, rfl, by simpa using Option.join_eq_some_iff.mp h⟩
theorem oW (k : CompOk X scope cl N' n idx) {pins : List (Addr × Obj)} {s2 : Shared} {σ : St} {H2 : Hp} {fp : List Addr} {C : Addr} {h4 : Heap} {t4 : Nat} {m : Str → Option Value} (I : Inv X pins σ H2 s2) (f : ∀ b ∈ fp, J9 X pins H2 b) (fo : ∀ b ∈ fp, b < s2.heap.objs.size)
  (hC : s2.heap.objs.size + 1 ≤ C) (ns : h4.Ns C m) (keep : ∀ b o, s2.heap.get? b = some o → h4.get? b = some o) (hD : h4.get? s2.heap.objs.size = some { cls := .type "list", data := .seq ([] : List Value).toArray }) :
  Inv (v5 X N' scope cl C s2 H2 fp) [] (w4 n idx σ) (e7 H2 s2.heap.objs.size (.lst [])) { s2 with heap := h4, toks := t4 } := by
 have fresh : H2 s2.heap.objs.size = none := I.hok.fresh (Nat.le_refl _)
 have fC : H2 C = none := I.hok.fresh (by omega)
 have cellsub : ∀ x c, (v5 X N' scope cl C s2 H2 fp).env.cells.lookup x = some c → X.env.cells.lookup x = some c := fun x c e => k.sub x c e
 have cellLt : ∀ x c, X.env.cells.lookup x = some c → c < s2.heap.objs.size := fun x c e => by
  obtain ⟨v, q⟩ := I.cell x c e
  exact q.lt
 have ok : (v5 X N' scope cl C s2 H2 fp).Ok := {
  mod := I.ok.mod
  kind := k.kind
  glob := I.ok.glob
  blt := I.ok.blt
  above := by show s2.heap.objs.size ≤ C; omega
  inj := fun x y c e1 e2 => I.ok.inj x y c (cellsub x c e1) (cellsub y c e2)
  has := fun x h => k.has x h
  cab := fun x c h _ => by cases h
  hd := I.ok.hd
  frames := I.ok.frames
  stk := .inl rfl
  exf := fun b hb => ⟨Nat.ne_of_lt (Nat.lt_of_lt_of_le (fo b hb) (by show s2.heap.objs.size ≤ C; omega)), fun x c e z => (f b hb).2.2.2.2.1 x c (cellsub x c e) z⟩
  bs := fun b o e => I.bs b o e
  bsz := Nat.le_trans I.ok.bsz I.sz
  noex := fun b o e hb => by
   rcases (f b hb).2.2.2.1 with z | z
   ·exact I.ok.noex b o e z
   ·exact absurd (Nat.lt_of_lt_of_le (Heap.lt_size e) (Nat.le_trans I.ok.bsz z)) (Nat.lt_irrefl _)
  exfs := fun b hb z => by
   rcases List.mem_cons.mp (I.stkSub b z) with y | y
   ·exact (f b hb).2.1 y
   ·exact (f b hb).2.2.1 y
  funs := I.stack
  frf := I.stkFree }
 refine ⟨ok, rfl, I.bare, Un.laid keep (Nat.le_refl _) fresh, ⟨m, ns, fun j y v e1 e2 e3 => ?_⟩, fun x c e => ?_, ?_, fun x c e => ?_, fun p hp => (by cases hp), I.hok.laid keep (Nat.le_refl _) ⟨Nat.zero_le _, [], _, .nil, hD⟩, ?_⟩
 ·obtain ⟨kk, i, rfl, hk, hv⟩ := pK e2
  obtain ⟨hN, ok, hkind⟩ := k.cap kk i y hk e1
  obtain ⟨c, hc⟩ := k.has y hkind
  obtain ⟨m0, _, hl⟩ := I.loc
  have hc' := k.sub y c hc
  obtain ⟨u, r, l⟩ := hl i y v hN hv (by rcases ok with z | z; exact .inr (.inl z); exact .inr (.inr z))
  refine ⟨u, r, .inr ⟨hkind, c, hc, ?_⟩⟩
  rcases l with ⟨z, _⟩ | ⟨_, c', e', q⟩
  ·have z' : X.env.scope.names.lookup y = some .local := z
   rcases ok with w | w <;> · rw [w] at z'; cases z'
  ·rw [hc'] at e'; cases e'
   obtain ⟨o, ho, hd⟩ := q
   exact ⟨o, keep _ o ho, hd⟩
 ·obtain ⟨v, q⟩ := I.cell x c (cellsub x c e)
  obtain ⟨o, ho, hd⟩ := q
  exact ⟨v, o, keep c o ho, hd⟩
 ·show e7 H2 s2.heap.objs.size (.lst []) C = none
  rw [i5 (Nat.ne_of_gt hC)]; exact fC
 ·have := cellLt x c (cellsub x c e)
  rw [i5 (Nat.ne_of_lt this)]
  exact I.freeC x c (cellsub x c e)
 ·rw [nP, ← k.len]; rfl
theorem rZ {prog : Program} {w : World} {A : Around} {R : Result → Shared → Prop} {s : Shared} {elt target iter : Expr} {ifs : List Expr} {scope : Scope} {pos : Pos} {it acc : Value} {env : Env} (I : Nat → Shared → Prop)
  (turn : ∀ n s, I n s → wpAny (model prog w) A (pyNext it) (fun r s1 => match r with
   | none => R (.ok .next) s1
   | some v => wpAny (model prog w) A (letOwnedTupleGo target it v) (fun _ s1' => wpAny (model prog w) A (assign target env v) (fun _ s2 =>
     wpAny (model prog w) A (forIn ifs true fun c r => if r = true then do let ok ← isTrue c env (eval c env); pure (ForInStep.yield ok) else pure (ForInStep.yield r)) (fun ok s3 =>
      if ok = true then wpAny (model prog w) A (eval elt env) (fun x s4 =>
       wpAny (model prog w) A (call (.builtin "list.append") [acc, x]) (fun _ s5 => ∃ m, m < n ∧ I m s5) (notedBy (model prog w) A env fun e s' => R (.error e) s') s4) (notedBy (model prog w) A env fun e s' => R (.error e) s') s3
      else ∃ m, m < n ∧ I m s3) (notedBy (model prog w) A env fun e s' => R (.error e) s') s2) (notedBy (model prog w) A env fun e s' => R (.error e) s') s1') (notedBy (model prog w) A env fun e s' => R (.error e) s') s1) (notedBy (model prog w) A env fun e s' => R (.error e) s') s)
  (n : Nat) (h : I n s) :
  codeAny (model prog w) A (.compLoop (.ListComp elt [⟨target, iter, ifs, 0⟩] scope pos) 0 it acc env) R s := by
 refine codeAny_loop rfl I (fun n s hI => ?_) n h
 show wpAny _ A ((compTurn (.ListComp elt [⟨target, iter, ifs, 0⟩] scope pos) 0 it acc env).onRaise (fun x => do noteFrame x env; theTreesLotGoes x)) _ _ s
 refine wpAny_noted ?_
 rw [compTurn_list]
 refine wpAny_bind (wpAny_standAt (wpAny_bind (wpAny_mono (turn n s hI) (fun r s₁ h₁ => ?_) fun _ _ h' => h')))
 cases r with
 | none => exact wpAny_pure h₁
 | some v =>
  refine wpAny_bind (wpAny_mono h₁ (fun _ s1' h1' => ?_) fun _ _ h' => h')
  refine wpAny_bind (wpAny_mono h1' (fun _ s₂ h₂ => wpAny_bind (wpAny_mono h₂ (fun ok s₃ h₃ => ?_) fun _ _ h' => h')) fun _ _ h' => h')
  cases ok with
  | false => exact wpAny_pure ⟨rfl, h₃⟩
  | true =>
   exact wpAny_bind (wpAny_bind (wpAny_mono h₃ (fun x s₄ h₄ => wpAny_bind (wpAny_mono h₄ (fun _ s₅ h₅ => wpAny_pure (wpAny_pure ⟨rfl, h₅⟩)) fun _ _ h' => h')) fun _ _ h' => h'))
end
section
variable {X : Cx} {scope : Scope} {cl : List (Str × Addr)} {N' : List Str} {n : Nat} {idx : List Nat} {tg iter elt : Expr} {ifs : List Expr} {pos : Pos} {wi : TI} {g : TG} {tc : TT} {te : TE}
theorem qf {use : Option (Value → Sem Unit)} {Q' : Value → Shared → Prop} {pos2 : Pos} (hc : X.calm = true) (k : CompOk X scope cl N' n idx) (hi : PI X tg iter wi)
  (hg : ∀ C s0 H0 ex, PG (v5 X N' scope cl C s0 H0 ex) tg g) (ht : ∀ C s0 H0 ex, Z1 (v5 X N' scope cl C s0 H0 ex) ifs tc) (he : ∀ C s0 H0 ex, PE (v5 X N' scope cl C s0 H0 ex) elt te)
  (hs : ∀ x, foldedSetIterable iter X.env x = pure x) {pins : List (Addr × Obj)} {s : Shared} {σ : St} {H : Hp} {Q : VK} (I0 : Inv X pins σ H s) (h : Z7 n idx wi g tc te σ H Q)
  (last : ∀ (C D : Addr) (s' : Shared) (H' : Hp) (m : Str → Option Value), Inv X pins σ H' s' → J9 X pins H' C → s'.heap.Ns C m → Q (.ref D) H' → compPost (model X.prog X.w) X.A X.xe use Q' (.ref D) C (.ok .next) s') :
  wpAny (model X.prog X.w) X.A (comprehension (.ListComp elt [⟨tg, iter, ifs, 0⟩] scope pos) scope X.env pos2 (newList []) false (eval iter X.env) use) Q' X.xe s := by
 refine wpAny_comprehension_free (use := use) rfl hs k.clos k.kind k.names (i7 (hi pins s σ H _ I0 h) fun v s1 h1 => i7 h1 fun itv s2 h2 => ?_)
 obtain ⟨it, fp, tn, J, H2, e, I2, T, st2, f2, hW⟩ := h2
 subst e
 have fo2 : ∀ b ∈ fp, b < s2.heap.objs.size := fun b hb => by
  obtain ⟨o, e, _⟩ := T.obj _ _ st2 b hb
  exact Heap.lt_size e
 obtain ⟨W, ⟨m0, w0⟩, turn⟩ := hW s2.heap.objs.size (I2.hok.fresh (Nat.le_refl _))
 refine wpAny_newObj_type (wpAny_newFunctionEnv k.cell (by intro y hy; simp at hy) (fun h4 hns4 hsb4 => ?_) k.kind)
 dsimp only at hns4 hsb4 ⊢
 generalize hH3 : s2.heap.push { cls := .type "list", dict := none, data := .seq ([] : List Value).toArray } = h3 at hns4 hsb4 ⊢
 have hCe : h3.objs.size = s2.heap.objs.size + 1 := by rw [← hH3, Heap.size_push]
 have k34 : ∀ b o, b ≠ h3.objs.size → h3.get? b = some o → h4.get? b = some o := fun b o nb e => hsb4.extBut b o nb (Heap.get?_push_of_some _ e)
 have keep : ∀ b o, s2.heap.get? b = some o → h4.get? b = some o := fun b o e => k34 b o (Nat.ne_of_lt (by rw [hCe]; exact Nat.lt_succ_of_lt (Heap.lt_size e))) (by rw [← hH3]; exact Heap.get?_push_of_some _ e)
 have hD : h4.get? s2.heap.objs.size = some { cls := .type "list", data := .seq ([] : List Value).toArray } := k34 _ _ (Nat.ne_of_lt (by rw [hCe]; exact Nat.lt_succ_self _)) (by rw [← hH3]; exact Heap.get?_push_size _ rfl)
 have I4 := oW k I2 f2 fo2 (Nat.le_of_eq hCe.symm) hns4 keep hD (t4 := s2.toks + ([] : List (Str × Value)).length)
 have stat : ∀ {H' : Hp}, (∀ b ∈ fp, H' b = none) → ∀ b ∈ fp, J9 (v5 X N' scope cl h3.objs.size s2 H2 fp) [] H' b := fun hn b hb =>
  ⟨hn b hb, Nat.ne_of_lt (by rw [hCe]; exact Nat.lt_succ_of_lt (fo2 b hb)), fun z => (List.mem_cons.mp (I2.stkSub b z)).elim (f2 b hb).2.1 (f2 b hb).2.2.1, .inl hb, fun x c e => (f2 b hb).2.2.2.2.1 x c (k.sub x c e), fun p hp => (by cases hp)⟩
 have fr4 : ∀ b ∈ fp, e7 H2 s2.heap.objs.size (.lst []) b = none := fun b hb => by rw [i5 (Nat.ne_of_lt (fo2 b hb))]; exact (f2 b hb).1
 have fin : ∀ (s' : Shared) (H' : Hp), Inv (v5 X N' scope cl h3.objs.size s2 H2 fp) [] (w4 n idx σ) H' s' → Q (.ref s2.heap.objs.size) H' →
   compPost (model X.prog X.w) X.A X.xe use Q' (.ref s2.heap.objs.size) h3.objs.size (.ok .next) s' := fun s' H' I' q => by
  obtain ⟨m', hn', _⟩ := I'.loc
  have B := I'.base
  refine last _ _ s' H' m' ?_ (I2.fpOk (by rw [hCe]; exact Nat.le_succ _) I'.free) hn' q
  refine I2.call' (s' := s') (ch := fp) (show s'.os = s2.os from I'.os) ⟨fun b o e nn hb hx => B.keep b o e nn hb hx, fun b o e nn hb hx => B.slot b o e nn hb hx, B.free, fun b o e hx => B.there b o e hx, B.tups, B.frzs, B.tbls⟩ I'.hok I'.bare fun b hb => ?_
  obtain ⟨p1, p2, p3, p4, p5, p6⟩ := f2 b hb
  exact ⟨p4, p2, p5, p6⟩
 have loop : ∀ s4 : Shared, s4 = { s2 with heap := h4, toks := s2.toks + ([] : List (Str × Value)).length } →
   codeAny (model X.prog X.w) X.A (.compLoop (.ListComp elt [⟨tg, iter, ifs, 0⟩] scope pos) 0 (.ref it) (.ref s2.heap.objs.size) (compEnvC scope cl h3.objs.size X.env)) (compPost (model X.prog X.w) X.A X.xe use Q' (.ref s2.heap.objs.size) h3.objs.size) s4 := by
  rintro s4 rfl
  refine rZ (fun m s' => ∃ i H', Inv (v5 X N' scope cl h3.objs.size s2 H2 fp) [] (w4 n idx σ) H' s' ∧ tn i s'.heap ∧ (∀ b ∈ fp, H' b = none) ∧ W i m H') ?_ m0 ⟨0, _, I4, T.keep _ _ _ st2 (fun b _ o e => keep b o e), fr4, w0⟩
  rintro m s3 ⟨i, H3, I3, st3, fr3, w3⟩
  rcases turn i m H3 w3 with ⟨stop, q⟩ | ⟨go, step⟩
  ·refine wpAny_mono (T.done (v5 X N' scope cl h3.objs.size s2 H2 fp) rfl rfl rfl hc i [] s3 _ H3 (fun _ _ => False) I3 (stat fr3) st3 stop) (fun r s5 ⟨hr, I5⟩ => ?_) fun _ _ z => z.elim
   subst hr
   exact fin s5 H3 I5 q
  ·refine wpAny_mono (T.item (v5 X N' scope cl h3.objs.size s2 H2 fp) rfl rfl rfl hc i [] s3 _ H3 (fun _ _ => False) I3 (stat fr3) st3 go) (fun r s5 ⟨u, hr, h5⟩ => ?_) fun _ _ z => z.elim
   subst hr
   refine wpAny_mono h5 (fun _ s6 ⟨x, H6, I6, r6, y6, st6, fr6⟩ => ?_) fun _ _ z => z.elim
   have I6' := I6.pinned (stat fr6) (T.obj _ _ st6)
   have again : ∀ {σ7 : St} {H7 : Hp} {s7 : Shared}, Inv (v5 X N' scope cl h3.objs.size s2 H2 fp) ([] ++ V0 fp s6.heap) σ7 H7 s7 → σ7.length = (w4 n idx σ).length → (∀ (j : Nat) v, (w4 n idx σ)[j]? = some (some v) → σ7[j]? = some (some v)) → (∃ m', m' < m ∧ W (i + 1) m' H7) →
     ∃ m', m' < m ∧ ∃ i H', Inv (v5 X N' scope cl h3.objs.size s2 H2 fp) [] (w4 n idx σ) H' s7 ∧ tn i s7.heap ∧ (∀ b ∈ fp, H' b = none) ∧ W i m' H' := fun {σ7 H7 s7} I7 hl hw ⟨m', hm, w7⟩ => by
    refine ⟨m', hm, i + 1, H7, (I7.unpinned).weak hl.symm hw, T.keep _ _ _ st6 fun b hb o e => (I7.pin (b, o) (List.mem_append_right _ (List.mem_append_right _ (Z2 hb e)))).1, fun b hb => ?_, w7⟩
    obtain ⟨o, e, d⟩ := T.obj _ _ st6 b hb
    exact (I7.pin (b, o) (List.mem_append_right _ (List.mem_append_right _ (Z2 hb e)))).2.1
   refine wpAny_mono (hg _ _ _ _ _ s6 _ H6 x u _ I6' r6 (step x H6 y6)) (fun _ s7 ⟨σ7, H7, I7, ⟨hl, hw⟩, q7⟩ => ?_) fun _ _ z => z.elim
   refine wpAny_mono (ht _ _ _ _ _ s7 σ7 H7 _ I7 q7) (fun ok s8 ⟨H8, I8, q8⟩ => ?_) fun _ _ z => z.elim
   cases ok with
   | false =>
    rw [if_neg Bool.false_ne_true] at q8 ⊢
    exact again I8 hl hw q8
   | true =>
    rw [if_pos rfl] at q8 ⊢
    refine wpAny_mono (he _ _ _ _ _ s8 σ7 H8 _ I8 q8) (fun v9 s9 ⟨x9, H9, I9, r9, ys, e9, l9, q9⟩ => ?_) fun _ _ z => z.elim
    refine wpAny_mono (et (X := v5 X N' scope cl h3.objs.size s2 H2 fp) _ s9 σ7 H9 (.ref s2.heap.objs.size) [x9] (.ref s2.heap.objs.size) [v9] (fun _ H' => H' = e7 H9 s2.heap.objs.size (.lst (ys ++ [x9]))) I9 rfl (.cons r9 .nil) ⟨s2.heap.objs.size, ys, x9, rfl, rfl, e9, l9, rfl⟩) (fun _ s10 ⟨_, H10, I10, _, e10⟩ => ?_) fun _ _ z => z.elim
    subst e10
    exact again I10 hl hw q9
 exact codeAny_compStart_list (loop _ rfl) (T.self _ 0 _ _ _ (T.keep _ _ _ st2 (fun b _ o e => keep b o e)) (loop _ rfl))
theorem rq (hc : X.calm = true) (k : CompOk X scope cl N' n idx) (hi : PI X tg iter wi)
  (hg : ∀ C s0 H0 ex, PG (v5 X N' scope cl C s0 H0 ex) tg g) (ht : ∀ C s0 H0 ex, Z1 (v5 X N' scope cl C s0 H0 ex) ifs tc) (he : ∀ C s0 H0 ex, PE (v5 X N' scope cl C s0 H0 ex) elt te)
  (hs : ∀ x, foldedSetIterable iter X.env x = pure x := by intro _; rfl) : PE X (.ListComp elt [⟨tg, iter, ifs, 0⟩] scope pos) (Z7 n idx wi g tc te) := by
 intro pins s σ H Q I0 h
 rw [eval_ListComp]
 refine qf (use := none) (Q' := EP X pins σ Q) hc k hi hg ht he hs I0 h ?_
 intro C D' s' H' m IX fC hn q
 exact ⟨m, hn, fun h' hsb => ⟨.ref D', H', IX.turned (t' := s'.toks) (it := C) (h' := h') (fun b o nb e => (hsb.2 b nb).trans e) fC.1 fC.2.1 fC.2.2.2.1 fC.2.2.2.2.1 fC.2.2.2.2.2, rfl, q⟩⟩
end
end L2
namespace DL
open PySem PySem.Spec L2
theorem k4 {α β γ : Type} {o : Option (α × β)} {f : α × β → Option γ} {r : γ} {G : Prop} (h : o.bind f = some r) (k : ∀ x y, o = some (x, y) → f (x, y) = some r → G) : G := by
 obtain ⟨⟨x, y⟩, a, b⟩ := Option.bind_eq_some_iff.mp h
 exact k x y a b
theorem R9 {α γ : Type} {o : Option α} {f : α → Option γ} {r : γ} {G : Prop} (h : o.bind f = some r) (k : ∀ x, o = some x → f x = some r → G) : G := by
 obtain ⟨x, a, b⟩ := Option.bind_eq_some_iff.mp h
 exact k x a b
theorem mapP {α β γ : Type} {o : Option (α × β)} {f : α × β → γ} {r : γ} {G : Prop} (h : o.map f = some r) (k : ∀ x y, o = some (x, y) → f (x, y) = r → G) : G := by
 obtain ⟨⟨x, y⟩, a, b⟩ := Option.map_eq_some_iff.mp h
 exact k x y a b
theorem D8 {α γ : Type} {o : Option α} {f : α → γ} {r : γ} {G : Prop} (h : o.map f = some r) (k : ∀ x, o = some x → f x = r → G) : G := by
 obtain ⟨x, a, b⟩ := Option.map_eq_some_iff.mp h
 exact k x a b
inductive D where
 | non | bl (b : Bool) | int (i : Int) | str (x : Str) | tup (ds : List D) | lst (ds : List D)
 | feed | scr (ns : List Int) | fn (x : Str) | exc (c : Str) (ds : List D)
mutual
noncomputable def D.py : D → PyData
 | .non => .none
 | .bl b => .bool b
 | .int i => .int i
 | .str x => .str x
 | .tup ds => .tuple (D.pys ds)
 | .lst ds => .list (D.pys ds)
 | .feed => .none
 | .scr _ => .none
 | .fn _ => .none
 | .exc _ _ => .none
noncomputable def D.pys : List D → List PyData
 | [] => []
 | d :: r => D.py d :: D.pys r
end
mutual
noncomputable def D.plain : D → Bool
 | .non => true
 | .bl _ => true
 | .int _ => true
 | .str _ => true
 | .tup ds => D.plains ds
 | .lst ds => D.plains ds
 | .feed => false
 | .scr _ => false
 | .fn _ => false
 | .exc _ _ => false
noncomputable def D.plains : List D → Bool
 | [] => true
 | d :: r => D.plain d && D.plains r
end
structure FS where
 cells : List Int
 pos : Int
 left : Int
 turn : Int
 kind : Nat
noncomputable def A7 (c : Addr) (f : FS) : List V := if f.kind = 1 then [V.ref c, V.int f.pos, V.int f.left] else [V.ref c, V.int f.pos, V.int f.left, V.int f.turn]
noncomputable def Q5 (c : Addr) (f : FS) : HO := if f.kind = 0 then .dK [(Sum.inr ("cells" : Str), V.ref c), (Sum.inr ("at" : Str), V.int f.pos), (Sum.inr ("left" : Str), V.int f.left), (Sum.inr ("turn" : Str), V.int f.turn)] else .lst (A7 c f)
theorem bj {c : Addr} {f : FS} (h : ¬ f.kind = 0) : Q5 c f = .lst (A7 c f) := if_neg h
theorem lS {c : Addr} {f : FS} {xs : List V} (h : Q5 c f = .tup xs) : False := by unfold Q5 at h; split at h <;> cases h
theorem rM {c : Addr} {f : FS} {o : Obj} {u : HO} (h : Q5 c f = .frz o u) : False := by unfold Q5 at h; split at h <;> cases h
noncomputable def FeedR (N : Addr → Prop) (H : Hp) : Option Addr → Option FS → Prop
 | none, none => True
 | some a, some f => f.cells.length ≤ 63 ∧ ∃ c, H a = some (Q5 c f) ∧ ¬ N c ∧ H c = some (.lst (f.cells.map V.int))
 | _, _ => False
noncomputable def SqF (K : PySem.W.Frag) (H : Hp) (a : Addr) (xs : List V) : Prop :=
 (∃ o, H a = some (.frz o (.lst xs))) ∨
  ∃ (o : Obj) (its : Array Value) (n : Nat), K.lookup a = some o ∧ o.cls = .type "list" ∧ o.dict = none ∧ o.data = .seq its n ∧ its.size ≤ sizeLine ∧ Vals xs its.toList
theorem SqF.sq {K : PySem.W.Frag} {H : Hp} {a : Addr} {xs : List V} (h : SqF K H a xs) : SqL K H a xs := by
 rcases h with ⟨o, h⟩ | h
 ·exact .inl (.inr ⟨o, h⟩)
 ·exact .inr h
noncomputable def fnm : List Str := ["word", "at"]
noncomputable def ExO (H : Hp) (a C : Addr) (xs : List V) : Prop := ∃ o, H a = some (.frz o (.own a)) ∧ o.cls = .ref C ∧ (∃ vs, o.data = .fields vs) ∧ xs.length ≤ 2 ∧ (xs = [] ∨ ∃ dx od, o.dict = some dx ∧ H dx = some (.frz od (.xd (fnm.zip xs))))
mutual
noncomputable def Rep (K : PySem.W.Frag) (N : Addr → Prop) (fa : Option Addr) (H : Hp) : D → V → Prop
 | .non, v => v = .non
 | .bl b, v => v = .bl b
 | .int i, v => v = .int i
 | .str x, v => v = .str x ∧ x.length ≤ sizeLine
 | .tup ds, v => ∃ a xs, v = .ref a ∧ SqT K H a xs ∧ Reps K N fa H ds xs
 | .lst ds, v => ∃ a xs, v = .ref a ∧ ¬ N a ∧ H a = some (.lst xs) ∧ Reps K N fa H ds xs
 | .feed, v => ∃ a, fa = some a ∧ v = .ref a
 | .scr ns, v => ns.length ≤ 63 ∧ ∃ a, v = .ref a ∧ SqF K H a (ns.map V.int)
 | .fn x, v => ∃ a, v = .ref a ∧ PySem.W.nsIn K mainGlobals x = some (some (.ref a))
 | .exc c ds, v => ∃ a C xs, v = .ref a ∧ PySem.W.nsIn K mainGlobals c = some (some (.ref C)) ∧ ExO H a C xs ∧ Reps K N fa H ds xs
noncomputable def Reps (K : PySem.W.Frag) (N : Addr → Prop) (fa : Option Addr) (H : Hp) : List D → List V → Prop
 | [], xs => xs = []
 | d :: r, xs => ∃ x ys, xs = x :: ys ∧ Rep K N fa H d x ∧ Reps K N fa H r ys
end
noncomputable def RepB (K : PySem.W.Frag) (N : Addr → Prop) (fa : Option Addr) (H : Hp) : D → V → Prop
 | .lst ds, v => ∃ a xs, v = .ref a ∧ fa ≠ some a ∧ H a = some (.lst xs) ∧ Reps K N fa H ds xs
 | d, v => Rep K N fa H d v
noncomputable def K7 (K : PySem.W.Frag) (N : Addr → Prop) (fa : Option Addr) (H : Hp) : List D → List V → Prop
 | [], xs => xs = []
 | d :: r, xs => ∃ x ys, xs = x :: ys ∧ RepB K N fa H d x ∧ K7 K N fa H r ys
noncomputable def jb (K : PySem.W.Frag) (H : Hp) (a : Addr) : Sum (List V) (Obj × HO) → Prop
 | .inl xs => SqF K H a xs
 | .inr p => H a = some (.frz p.1 p.2)
structure Car (K : PySem.W.Frag) (N : Addr → Prop) (fa : Option Addr) (H : Hp) (N' : Addr → Prop) (fa' : Option Addr) (H' : Hp) : Prop where
 ls : ∀ b xs, ¬ N b → H b = some (.lst xs) → H' b = some (.lst xs) ∧ ¬ N' b
 tp : ∀ b xs, SqT K H b xs → SqT K H' b xs
 fz : ∀ b xs, jb K H b xs → jb K H' b xs
 fe : ∀ a, fa = some a → fa' = some a
section
variable {K : PySem.W.Frag} {N N' : Addr → Prop} {fa fa' : Option Addr} {H H' : Hp}
theorem ExO.go {a C : Addr} {xs : List V} (c : Car K N fa H N' fa' H') (h : ExO H a C xs) : ExO H' a C xs := by
 obtain ⟨o, e, q, r, l, z⟩ := h
 refine ⟨o, c.fz a (.inr (o, _)) e, q, r, l, z.imp id ?_⟩
 rintro ⟨dx, od, y, w⟩
 exact ⟨dx, od, y, c.fz dx (.inr (od, _)) w⟩
mutual
theorem Rep.go (c : Car K N fa H N' fa' H') : ∀ (d : D) (v : V), Rep K N fa H d v → Rep K N' fa' H' d v
 | .non, v, h => by simpa only [Rep] using h
 | .bl b, v, h => by simpa only [Rep] using h
 | .int i, v, h => by simpa only [Rep] using h
 | .str x, v, h => by simpa only [Rep] using h
 | .tup ds, v, h => by
  simp only [Rep] at h ⊢
  obtain ⟨a, xs, e, q, r⟩ := h
  exact ⟨a, xs, e, c.tp a xs q, Reps.go c ds xs r⟩
 | .lst ds, v, h => by
  simp only [Rep] at h ⊢
  obtain ⟨a, xs, e, n, q, r⟩ := h
  obtain ⟨q', n'⟩ := c.ls a xs n q
  exact ⟨a, xs, e, n', q', Reps.go c ds xs r⟩
 | .feed, v, h => by
  simp only [Rep] at h ⊢
  obtain ⟨a, e, q⟩ := h
  exact ⟨a, c.fe a e, q⟩
 | .scr ns, v, h => by
  simp only [Rep] at h ⊢
  obtain ⟨l, a, e, q⟩ := h
  exact ⟨l, a, e, c.fz a (.inl _) q⟩
 | .fn x, v, h => by simpa only [Rep] using h
 | .exc x ds, v, h => by
  simp only [Rep] at h ⊢
  obtain ⟨a, C, xs, e, n, q, r⟩ := h
  exact ⟨a, C, xs, e, n, q.go c, Reps.go c ds xs r⟩
theorem Reps.go (c : Car K N fa H N' fa' H') : ∀ (ds : List D) (xs : List V), Reps K N fa H ds xs → Reps K N' fa' H' ds xs
 | [], xs, h => by simpa only [Reps] using h
 | d :: r, xs, h => by
  simp only [Reps] at h ⊢
  obtain ⟨x, ys, e, h1, h2⟩ := h
  exact ⟨x, ys, e, Rep.go c d x h1, Reps.go c r ys h2⟩
end
theorem Rep.b (hN : ∀ a, fa = some a → N a) {d : D} {v : V} (h : Rep K N fa H d v) : RepB K N fa H d v := by
 cases d with
 | lst ds =>
  simp only [Rep] at h
  obtain ⟨a, xs, e, n, q, r⟩ := h
  exact ⟨a, xs, e, fun z => n (hN a z), q, r⟩
 | _ => simpa only [RepB] using h
noncomputable def E8 (K : PySem.W.Frag) (N : Addr → Prop) (fa : Option Addr) (H : Hp) : D → V → Prop
 | .lst ds, v => ∃ a xs, v = .ref a ∧ H a = some (.lst xs) ∧ Reps K N fa H ds xs
 | d, v => Rep K N fa H d v
theorem Rep.o {d : D} {v : V} (h : Rep K N fa H d v) : E8 K N fa H d v := by
 cases d with
 | lst ds =>
  simp only [Rep] at h
  obtain ⟨a, xs, e, _, q, r⟩ := h
  exact ⟨a, xs, e, q, r⟩
 | _ => simpa only [E8] using h
theorem RepB.o {d : D} {v : V} (h : RepB K N fa H d v) : E8 K N fa H d v := by
 cases d with
 | lst ds =>
  obtain ⟨a, xs, e, _, q, r⟩ := h
  exact ⟨a, xs, e, q, r⟩
 | _ => simpa only [E8, RepB] using h
theorem Reps.length : ∀ {ds : List D} {xs : List V}, Reps K N fa H ds xs → xs.length = ds.length
 | [], xs, h => by simp only [Reps] at h; subst h; rfl
 | d :: r, xs, h => by
  simp only [Reps] at h
  obtain ⟨x, ys, e, h1, h2⟩ := h
  subst e
  simp [Reps.length h2]
theorem Reps.get : ∀ {ds : List D} {xs : List V} {i : Nat} {d : D}, Reps K N fa H ds xs → ds[i]? = some d → ∃ x, xs[i]? = some x ∧ Rep K N fa H d x
 | [], xs, i, d, h, e => by simp at e
 | d :: r, xs, 0, d', h, e => by
  simp only [Reps] at h
  obtain ⟨x, ys, e1, h1, h2⟩ := h
  simp at e
  subst e1; subst e
  exact ⟨x, rfl, h1⟩
 | d :: r, xs, i + 1, d', h, e => by
  simp only [Reps] at h
  obtain ⟨x, ys, e1, h1, h2⟩ := h
  subst e1
  obtain ⟨y, e2, h3⟩ := Reps.get h2 (by simpa using e)
  exact ⟨y, by simpa using e2, h3⟩
theorem Reps.get' : ∀ {ds : List D} {xs : List V} {i : Nat} {x : V}, Reps K N fa H ds xs → xs[i]? = some x → ∃ d, ds[i]? = some d ∧ Rep K N fa H d x := fun {ds xs i x} h e => by
 have hl := h.length
 have hi : i < xs.length := (List.getElem?_eq_some_iff.mp e).1
 obtain ⟨y, e2, h3⟩ := Reps.get h (List.getElem?_eq_getElem (show i < ds.length by omega))
 rw [e] at e2; cases e2
 exact ⟨_, List.getElem?_eq_getElem (show i < ds.length by omega), h3⟩
theorem Reps.append : ∀ {ds es : List D} {xs ys : List V}, Reps K N fa H ds xs → Reps K N fa H es ys → Reps K N fa H (ds ++ es) (xs ++ ys)
 | [], es, xs, ys, h, q => by simp only [Reps] at h; subst h; simpa using q
 | d :: r, es, xs, ys, h, q => by
  simp only [Reps] at h
  obtain ⟨x, zs, e1, h1, h2⟩ := h
  subst e1
  simp only [List.cons_append, Reps]
  exact ⟨x, _, rfl, h1, Reps.append h2 q⟩
theorem Reps.one {d : D} {x : V} (h : Rep K N fa H d x) : Reps K N fa H [d] [x] := by
 simp only [Reps]
 exact ⟨x, [], rfl, h, rfl⟩
theorem Reps.nil : Reps K N fa H [] [] := by simp only [Reps]
theorem Reps.take : ∀ {ds : List D} {xs : List V} (n : Nat), Reps K N fa H ds xs → Reps K N fa H (ds.take n) (xs.take n)
 | _, _, 0, _ => by simp only [List.take_zero, Reps]
 | [], xs, n + 1, h => by simp only [Reps] at h; subst h; simp only [List.take_nil, Reps]
 | d :: r, xs, n + 1, h => by
  simp only [Reps] at h
  obtain ⟨x, zs, e1, h1, h2⟩ := h
  subst e1
  simp only [List.take_succ_cons, Reps]
  exact ⟨x, _, rfl, h1, Reps.take n h2⟩
theorem Reps.drop : ∀ {ds : List D} {xs : List V} (n : Nat), Reps K N fa H ds xs → Reps K N fa H (ds.drop n) (xs.drop n)
 | _, _, 0, h => by simpa using h
 | [], xs, n + 1, h => by simp only [Reps] at h; subst h; simp only [List.drop_nil, Reps]
 | d :: r, xs, n + 1, h => by
  simp only [Reps] at h
  obtain ⟨x, zs, e1, h1, h2⟩ := h
  subst e1
  simpa using Reps.drop n h2
theorem Reps.ints : ∀ {ns : List Int}, Reps K N fa H (ns.map D.int) (ns.map V.int)
 | [] => by simp only [List.map_nil, Reps]
 | n :: r => by
  simp only [List.map_cons, Reps, Rep]
  exact ⟨_, _, rfl, rfl, Reps.ints⟩
end
inductive Sl where
 | no | val (d : D) | own (ds : List D)
structure DS where
 sl : List Sl
 fs : Option FS
noncomputable def NN (F : Addr → Prop) (fa : Option Addr) (O : List Addr) : Addr → Prop := fun b => F b ∨ b ∈ O ∨ fa = some b
noncomputable def SlR (K : PySem.W.Frag) (N : Addr → Prop) (fa : Option Addr) (H : Hp) : List Sl → List (Option V) → List Addr → Prop
 | [], σ, O => σ = [] ∧ O = []
 | .no :: r, σ, O => ∃ v τ, σ = v :: τ ∧ SlR K N fa H r τ O
 | .val d :: r, σ, O => ∃ u τ, σ = some u :: τ ∧ Rep K N fa H d u ∧ SlR K N fa H r τ O
 | .own ds :: r, σ, O => ∃ a xs τ P, σ = some (.ref a) :: τ ∧ O = a :: P ∧ H a = some (.lst xs) ∧ Reps K N fa H ds xs ∧ SlR K N fa H r τ P
structure Stp (fa : Option Addr) (O : List Addr) (H : Hp) (fa' : Option Addr) (O' : List Addr) (H' : Hp) : Prop where
 sub : ∀ b ∈ O', b ∈ O ∨ H b = none
 fe : fa' = fa ∨ (fa = none ∧ ∀ a, fa' = some a → H a = none)
 same : ∀ b u, H b = some u → b ∉ O → fa ≠ some b → H' b = some u
 mon : ∀ b, H' b = none → H b = none
structure StE (fa : Option Addr) (O : List Addr) (H : Hp) (fa' : Option Addr) (O' : List Addr) (H' : Hp) : Prop where
 sub : ∀ b ∈ O', b ∈ O
 fe : fa' = fa ∨ (fa = none ∧ ∀ a, fa' = some a → H a = none)
 same : ∀ b u, H b = some u → fa ≠ some b → H' b = some u
 mon : ∀ b, H' b = none → H b = none
structure DI (K : PySem.W.Frag) (F : Addr → Prop) (H0 : Hp) (fa0 : Option Addr) (σ : St) (H : Hp) (fa : Option Addr) (O : List Addr) (s : DS) : Prop where
 nd : O.Nodup
 sl : SlR K (NN F fa O) fa H s.sl σ O
 fr : ∀ b ∈ O, H0 b = none
 st : Stp fa0 [] H0 fa [] H
 tr : ∀ b, F b → H0 b ≠ none
 ff : ∀ a, fa0 = some a → F a
 fd : FeedR (NN F fa O) H fa s.fs
 nf : ∀ a, fa = some a → a ∉ O
section
variable {fa fa' fa'' : Option Addr} {O O' O'' : List Addr} {H H' H'' : Hp}
theorem StE.stp (h : StE fa O H fa' O' H') : Stp fa O H fa' O' H' := ⟨fun b hb => .inl (h.sub b hb), h.fe, fun b u e _ n => h.same b u e n, h.mon⟩
theorem StE.refl : StE fa O H fa O H := ⟨fun _ h => h, .inl rfl, fun _ _ e _ => e, fun _ h => h⟩
theorem Stp.refl : Stp fa O H fa O H := StE.refl.stp
theorem StE.trans (a : StE fa O H fa' O' H') (b : StE fa' O' H' fa'' O'' H'') : StE fa O H fa'' O'' H'' := by
 refine ⟨fun c hc => a.sub c (b.sub c hc), ?_, fun c u e n => ?_, fun c h => a.mon c (b.mon c h)⟩
 ·rcases a.fe with e | ⟨e, h⟩
  ·rcases b.fe with e' | ⟨e', h'⟩
   ·exact .inl (e'.trans e)
   ·exact .inr ⟨e ▸ e', fun c z => a.mon c (h' c z)⟩
  ·rcases b.fe with e' | ⟨e', h'⟩
   ·exact .inr ⟨e, fun c z => h c (e' ▸ z)⟩
   ·exact .inr ⟨e, fun c z => a.mon c (h' c z)⟩
 ·refine b.same c u (a.same c u e n) fun z => ?_
  rcases a.fe with q | ⟨q, h⟩
  ·rw [q] at z; exact n z
  ·rw [h c z] at e; cases e
theorem Stp.trans (a : Stp fa O H fa' O' H') (b : Stp fa' O' H' fa'' O'' H'') : Stp fa O H fa'' O'' H'' := by
 refine ⟨fun c hc => ?_, ?_, fun c u e hc n => ?_, fun c h => a.mon c (b.mon c h)⟩
 ·rcases b.sub c hc with q | q
  ·exact a.sub c q
  ·exact .inr (a.mon c q)
 ·rcases a.fe with e | ⟨e, h⟩
  ·rcases b.fe with e' | ⟨e', h'⟩
   ·exact .inl (e'.trans e)
   ·exact .inr ⟨e ▸ e', fun c z => a.mon c (h' c z)⟩
  ·rcases b.fe with e' | ⟨e', h'⟩
   ·exact .inr ⟨e, fun c z => h c (e' ▸ z)⟩
   ·exact .inr ⟨e, fun c z => a.mon c (h' c z)⟩
 ·refine b.same c u (a.same c u e hc n) (fun z => ?_) fun z => ?_
  ·rcases a.sub c z with q | q
   ·exact hc q
   ·rw [q] at e; cases e
  ·rcases a.fe with q | ⟨q, h⟩
   ·rw [q] at z; exact n z
   ·rw [h c z] at e; cases e
theorem Stp.fa_keep (a : Stp fa O H fa' O' H') {x : Addr} (h : fa = some x) : fa' = some x := by
 rcases a.fe with e | ⟨e, _⟩
 ·rw [e, h]
 ·rw [h] at e; cases e
variable {K : PySem.W.Frag} {F : Addr → Prop} {H0 : Hp} {fa0 : Option Addr} {σ : St} {s : DS}
theorem FeedR.no_frz {N : Addr → Prop} {fs : Option FS} {a : Addr} {o : Obj} {u : HO} (h : FeedR N H fa fs) (e : fa = some a) (q : H a = some (.frz o u)) : False := by
 subst e
 cases fs with
 | none => exact h
 | some f =>
  obtain ⟨_, c, h1, _⟩ := h
  rw [h1] at q; exact rM (Option.some.inj q)
theorem FeedR.no_tup {N : Addr → Prop} {fs : Option FS} {a : Addr} {xs : List V} (h : FeedR N H fa fs) (e : fa = some a) (z : Rd H a (.tup xs)) : False := by
 rcases z with z | ⟨o, z⟩
 ·subst e
  cases fs with
  | none => exact h
  | some f =>
   obtain ⟨_, c, h1, _⟩ := h
   rw [h1] at z; exact lS (Option.some.inj z)
 ·exact h.no_frz e z
theorem FeedR.tracked {N : Addr → Prop} {fs : Option FS} {a : Addr} (h : FeedR N H fa fs) (e : fa = some a) : H a ≠ none := by
 subst e
 cases fs with
 | none => exact h.elim
 | some f =>
  obtain ⟨_, c, h1, _⟩ := h
  rw [h1]; simp
theorem SqT.stp' (a : Stp fa O H fa' O' H') (hf : ∀ x, fa = some x → ∀ xs, ¬ Rd H x (.tup xs)) (hO : ∀ x ∈ O, ∀ xs, ¬ Rd H x (.tup xs)) {b : Addr} {xs : List V} (h : SqT K H b xs) : SqT K H' b xs := by
 rcases h with h | h
 ·refine .inl ?_
  have n1 : b ∉ O := fun z => hO b z xs h
  have n2 : fa ≠ some b := fun z => hf b z xs h
  rcases h with h | ⟨o, h⟩
  ·exact .inl (a.same _ _ h n1 n2)
  ·exact .inr ⟨o, a.same _ _ h n1 n2⟩
 ·exact .inr h
theorem SlR.owned : ∀ {sl : List Sl} {N : Addr → Prop} {σ : List (Option V)} {O : List Addr}, SlR K N fa H sl σ O → ∀ b ∈ O, ∃ xs, H b = some (.lst xs)
 | [], N, σ, O, h, b, hb => by simp only [SlR] at h; rw [h.2] at hb; cases hb
 | .no :: r, N, σ, O, h, b, hb => by
  simp only [SlR] at h
  obtain ⟨v, τ, _, h⟩ := h
  exact SlR.owned h b hb
 | .val d :: r, N, σ, O, h, b, hb => by
  simp only [SlR] at h
  obtain ⟨v, τ, _, _, h⟩ := h
  exact SlR.owned h b hb
 | .own ds :: r, N, σ, O, h, b, hb => by
  simp only [SlR] at h
  obtain ⟨a, xs, τ, P, _, rfl, e, _, h⟩ := h
  rcases List.mem_cons.mp hb with z | z
  ·subst z; exact ⟨xs, e⟩
  ·exact SlR.owned h b z
theorem DI.owned (I : DI K F H0 fa0 σ H fa O s) {b : Addr} (hb : b ∈ O) : ∃ xs, H b = some (.lst xs) := SlR.owned I.sl b hb
theorem DI.trF (I : DI K F H0 fa0 σ H fa O s) {b : Addr} (hb : F b) : H b ≠ none := fun z => I.tr b hb (I.st.mon b z)
theorem DI.nn_tracked (I : DI K F H0 fa0 σ H fa O s) {b : Addr} (h : NN F fa O b) : H b ≠ none := by
 rcases h with h | h | h
 ·exact I.trF h
 ·obtain ⟨xs, e⟩ := I.owned h
  rw [e]; simp
 ·exact I.fd.tracked h
theorem DI.nf_step (I : DI K F H0 fa0 σ H fa O s) (h : fa' = fa ∨ (fa = none ∧ ∀ a, fa' = some a → H a = none)) : ∀ a, fa' = some a → a ∉ O := fun a e m => by
 rcases h with z | ⟨z, y⟩
 ·rw [z] at e; exact I.nf a e m
 ·obtain ⟨xs, q⟩ := I.owned m
  rw [y a e] at q; cases q
theorem DI.car (I : DI K F H0 fa0 σ H fa O s) (a : Stp fa O H fa' O' H') : Car K (NN F fa O) fa H (NN F fa' O') fa' H' := by
 have nt : ∀ x xs, H x = some (.lst xs) → ∀ ys, ¬ Rd H x (.tup ys) := fun x xs e ys z => by
  rcases z with z | ⟨o, z⟩ <;> · rw [e] at z; cases z
 refine ⟨fun b xs n q => ?_, fun b xs q => ?_, fun b xs q => ?_, fun x e => a.fa_keep e⟩
 ·have n1 : b ∉ O := fun z => n (.inr (.inl z))
  have n2 : fa ≠ some b := fun z => n (.inr (.inr z))
  have tr : H b ≠ none := by rw [q]; simp
  refine ⟨a.same _ _ q n1 n2, fun z => ?_⟩
  ·rcases z with z | z | z
   ·exact n (.inl z)
   ·rcases a.sub b z with y | y
    ·exact n1 y
    ·exact tr y
   ·rcases a.fe with e | ⟨e, h⟩
    ·rw [e] at z; exact n2 z
    ·exact tr (h b z)
 ·refine SqT.stp' a (fun x e ys z => ?_) (fun x hx ys => ?_) q
  ·exact I.fd.no_tup e z
  ·obtain ⟨xs, e⟩ := I.owned hx
   exact nt x xs e ys
 ·have fz : ∀ o u, H b = some (.frz o u) → H' b = some (.frz o u) := fun o u q => by
   refine a.same _ _ q (fun z => ?_) fun z => ?_
   ·obtain ⟨ys, e⟩ := I.owned z
    rw [e] at q; cases q
   ·exact I.fd.no_frz z q
  cases xs with
  | inl xs => exact q.imp (fun ⟨o, q⟩ => ⟨o, fz _ _ q⟩) id
  | inr p => exact fz _ _ q
end
structure Gh where
 F : Addr → Prop
 H0 : Hp
 fa0 : Option Addr
 xq : L2.St → XK
noncomputable abbrev GI (K : PySem.W.Frag) (g : Gh) := DI K g.F g.H0 g.fa0
section
variable {K : PySem.W.Frag} {N N' : Addr → Prop} {fa fa' : Option Addr} {H H' : Hp} {g : Gh} {σ : L2.St} {O O' : List Addr} {s : DS}
theorem SlR.go (c : Car K N fa H N' fa' H') : ∀ {sl : List Sl} {σ : List (Option V)} {O : List Addr}, (∀ a xs, a ∈ O → H a = some (.lst xs) → H' a = some (.lst xs)) → SlR K N fa H sl σ O → SlR K N' fa' H' sl σ O
 | [], σ, O, _, h => by simpa only [SlR] using h
 | .no :: r, σ, O, ho, h => by
  simp only [SlR] at h ⊢
  obtain ⟨v, τ, e, h⟩ := h
  exact ⟨v, τ, e, SlR.go c ho h⟩
 | .val d :: r, σ, O, ho, h => by
  simp only [SlR] at h ⊢
  obtain ⟨u, τ, e, q, h⟩ := h
  exact ⟨u, τ, e, Rep.go c d u q, SlR.go c ho h⟩
 | .own ds :: r, σ, O, ho, h => by
  simp only [SlR] at h ⊢
  obtain ⟨a, xs, τ, P, e, rfl, ha, q, h⟩ := h
  exact ⟨a, xs, τ, P, e, rfl, ho a xs (List.mem_cons_self ..) ha, Reps.go c ds xs q, SlR.go c (fun b ys hb => ho b ys (List.mem_cons_of_mem _ hb)) h⟩
theorem SlR.val : ∀ {sl : List Sl} {σ : List (Option V)} {O : List Addr} {i : Nat} {d : D}, SlR K N fa H sl σ O → sl[i]? = some (.val d) → ∃ u, σ[i]? = some (some u) ∧ Rep K N fa H d u
 | [], σ, O, i, d, h, e => by simp at e
 | .no :: r, σ, O, i, d, h, e => by
  simp only [SlR] at h
  obtain ⟨v, τ, rfl, h⟩ := h
  cases i with
  | zero => simp at e
  | succ i => simpa using SlR.val h (by simpa using e)
 | .val d' :: r, σ, O, i, d, h, e => by
  simp only [SlR] at h
  obtain ⟨u, τ, rfl, q, h⟩ := h
  cases i with
  | zero => simp at e; subst e; exact ⟨u, rfl, q⟩
  | succ i => simpa using SlR.val h (by simpa using e)
 | .own ds :: r, σ, O, i, d, h, e => by
  simp only [SlR] at h
  obtain ⟨a, xs, τ, P, rfl, rfl, ha, q, h⟩ := h
  cases i with
  | zero => simp at e
  | succ i => simpa using SlR.val h (by simpa using e)
theorem SlR.own : ∀ {sl : List Sl} {σ : List (Option V)} {O : List Addr} {i : Nat} {ds : List D}, SlR K N fa H sl σ O → sl[i]? = some (.own ds) → ∃ a xs, σ[i]? = some (some (.ref a)) ∧ a ∈ O ∧ H a = some (.lst xs) ∧ Reps K N fa H ds xs
 | [], σ, O, i, d, h, e => by simp at e
 | .no :: r, σ, O, i, d, h, e => by
  simp only [SlR] at h
  obtain ⟨v, τ, rfl, h⟩ := h
  cases i with
  | zero => simp at e
  | succ i => simpa using SlR.own h (by simpa using e)
 | .val d' :: r, σ, O, i, d, h, e => by
  simp only [SlR] at h
  obtain ⟨u, τ, rfl, q, h⟩ := h
  cases i with
  | zero => simp at e
  | succ i => simpa using SlR.own h (by simpa using e)
 | .own ds :: r, σ, O, i, d, h, e => by
  simp only [SlR] at h
  obtain ⟨a, xs, τ, P, rfl, rfl, ha, q, h⟩ := h
  cases i with
  | zero => simp at e; subst e; exact ⟨a, xs, rfl, List.mem_cons_self .., ha, q⟩
  | succ i =>
   obtain ⟨b, ys, e1, m, e2, q2⟩ := SlR.own h (by simpa using e)
   exact ⟨b, ys, by simpa using e1, List.mem_cons_of_mem _ m, e2, q2⟩
theorem SlR.len : ∀ {sl : List Sl} {σ : List (Option V)} {O : List Addr}, SlR K N fa H sl σ O → σ.length = sl.length
 | [], σ, O, h => by simp only [SlR] at h; rw [h.1]; rfl
 | .no :: r, σ, O, h => by
  simp only [SlR] at h
  obtain ⟨v, τ, rfl, h⟩ := h
  simp [SlR.len h]
 | .val d' :: r, σ, O, h => by
  simp only [SlR] at h
  obtain ⟨u, τ, rfl, q, h⟩ := h
  simp [SlR.len h]
 | .own ds :: r, σ, O, h => by
  simp only [SlR] at h
  obtain ⟨a, xs, τ, P, rfl, rfl, ha, q, h⟩ := h
  simp [SlR.len h]
theorem SlR.put : ∀ {sl : List Sl} {σ : List (Option V)} {O : List Addr} (i : Nat) {d : D} {u : V}, SlR K N fa H sl σ O → Rep K N fa H d u →
  ∃ P, P.Sublist O ∧ SlR K N fa H (sl.set i (.val d)) (σ.set i (some u)) P ∧ (O.Nodup → ∀ a, sl[i]?.isSome = true → (∃ ds, sl[i]? = some (.own ds)) → σ[i]? = some (some (.ref a)) → a ∉ P)
 | [], σ, O, i, d, u, h, q => by
  simp only [SlR] at h
  refine ⟨O, List.Sublist.refl _, ?_, fun _ a z => by simp at z⟩
  rw [h.1, h.2]
  simp [SlR]
 | .no :: r, σ, O, i, d, u, h, q => by
  simp only [SlR] at h
  obtain ⟨v, τ, rfl, h⟩ := h
  cases i with
  | zero => exact ⟨O, List.Sublist.refl _, by simp only [List.set_cons_zero, SlR]; exact ⟨u, τ, rfl, q, h⟩, fun _ a _ z => by obtain ⟨ds, z⟩ := z; simp at z⟩
  | succ i =>
   obtain ⟨P, hs, h1, h2⟩ := SlR.put i h q
   exact ⟨P, hs, by simp only [List.set_cons_succ, SlR]; exact ⟨v, _, rfl, h1⟩, by simpa using h2⟩
 | .val d' :: r, σ, O, i, d, u, h, q => by
  simp only [SlR] at h
  obtain ⟨v, τ, rfl, qv, h⟩ := h
  cases i with
  | zero => exact ⟨O, List.Sublist.refl _, by simp only [List.set_cons_zero, SlR]; exact ⟨u, τ, rfl, q, h⟩, fun _ a _ z => by obtain ⟨ds, z⟩ := z; simp at z⟩
  | succ i =>
   obtain ⟨P, hs, h1, h2⟩ := SlR.put i h q
   exact ⟨P, hs, by simp only [List.set_cons_succ, SlR]; exact ⟨v, _, rfl, qv, h1⟩, by simpa using h2⟩
 | .own ds :: r, σ, O, i, d, u, h, q => by
  simp only [SlR] at h
  obtain ⟨a, xs, τ, P, rfl, rfl, ha, qv, h⟩ := h
  cases i with
  | zero =>
   refine ⟨P, List.sublist_cons_self .., by simp only [List.set_cons_zero, SlR]; exact ⟨u, τ, rfl, q, h⟩, fun nd b _ _ e => ?_⟩
   simp at e; subst e
   exact (List.nodup_cons.mp nd).1
  | succ i =>
   obtain ⟨P', hs, h1, h2⟩ := SlR.put i h q
   refine ⟨a :: P', hs.cons_cons a, by simp only [List.set_cons_succ, SlR]; exact ⟨a, xs, _, P', rfl, rfl, ha, qv, h1⟩, fun nd b e1 e2 e3 => ?_⟩
   have nd' := List.nodup_cons.mp nd
   have n1 := h2 nd'.2 b (by simpa using e1) (by simpa using e2) (by simpa using e3)
   intro z
   rcases List.mem_cons.mp z with z | z
   ·subst z
    obtain ⟨dz, e2⟩ := e2
    obtain ⟨b', _, e4, m, _⟩ := SlR.own h (i := i) (by simpa using e2)
    rw [List.getElem?_cons_succ] at e3
    rw [e3] at e4
    cases e4
    exact nd'.1 m
   ·exact n1 z
theorem SlR.putN : ∀ {sl : List Sl} {σ : List (Option V)} {O : List Addr} (i : Nat) {ds : List D} {p : Addr} {xs : List V}, SlR K N fa H sl σ O → i < sl.length → p ∉ O → O.Nodup → H p = some (.lst xs) → Reps K N fa H ds xs →
  ∃ P, (∀ b ∈ P, b = p ∨ b ∈ O) ∧ P.Nodup ∧ SlR K N fa H (sl.set i (.own ds)) (σ.set i (some (.ref p))) P
 | [], σ, O, i, ds, p, xs, h, hi, hp, nd, e, q => by simp at hi
 | .no :: r, σ, O, i, ds, p, xs, h, hi, hp, nd, e, q => by
  simp only [SlR] at h
  obtain ⟨v, τ, rfl, h⟩ := h
  cases i with
  | zero => exact ⟨p :: O, fun b hb => List.mem_cons.mp hb, List.nodup_cons.mpr ⟨hp, nd⟩, by simp only [List.set_cons_zero, SlR]; exact ⟨p, xs, τ, O, rfl, rfl, e, q, h⟩⟩
  | succ i =>
   obtain ⟨P, h1, h2, h3⟩ := SlR.putN i h (by simpa using hi) hp nd e q
   exact ⟨P, h1, h2, by simp only [List.set_cons_succ, SlR]; exact ⟨v, _, rfl, h3⟩⟩
 | .val d' :: r, σ, O, i, ds, p, xs, h, hi, hp, nd, e, q => by
  simp only [SlR] at h
  obtain ⟨v, τ, rfl, qv, h⟩ := h
  cases i with
  | zero => exact ⟨p :: O, fun b hb => List.mem_cons.mp hb, List.nodup_cons.mpr ⟨hp, nd⟩, by simp only [List.set_cons_zero, SlR]; exact ⟨p, xs, τ, O, rfl, rfl, e, q, h⟩⟩
  | succ i =>
   obtain ⟨P, h1, h2, h3⟩ := SlR.putN i h (by simpa using hi) hp nd e q
   exact ⟨P, h1, h2, by simp only [List.set_cons_succ, SlR]; exact ⟨v, _, rfl, qv, h3⟩⟩
 | .own ds' :: r, σ, O, i, ds, p, xs, h, hi, hp, nd, e, q => by
  simp only [SlR] at h
  obtain ⟨a, ys, τ, P, rfl, rfl, ha, qv, h⟩ := h
  have nd' := List.nodup_cons.mp nd
  cases i with
  | zero =>
   refine ⟨p :: P, fun b hb => (List.mem_cons.mp hb).imp id fun z => List.mem_cons_of_mem _ z, List.nodup_cons.mpr ⟨fun z => hp (List.mem_cons_of_mem _ z), nd'.2⟩, ?_⟩
   simp only [List.set_cons_zero, SlR]
   exact ⟨p, xs, τ, P, rfl, rfl, e, q, h⟩
  | succ i =>
   obtain ⟨P', h1, h2, h3⟩ := SlR.putN i h (by simpa using hi) (fun z => hp (List.mem_cons_of_mem _ z)) nd'.2 e q
   refine ⟨a :: P', fun b hb => ?_, List.nodup_cons.mpr ⟨fun z => ?_, h2⟩, by simp only [List.set_cons_succ, SlR]; exact ⟨a, ys, _, P', rfl, rfl, ha, qv, h3⟩⟩
   ·rcases List.mem_cons.mp hb with z | z
    ·exact .inr (by rw [z]; exact List.mem_cons_self ..)
    ·exact (h1 b z).imp id fun y => List.mem_cons_of_mem _ y
   ·rcases h1 a z with y | y
    ·exact hp (by rw [y]; exact List.mem_cons_self ..)
    ·exact nd'.1 y
theorem SlR.rew : ∀ {sl : List Sl} {σ : List (Option V)} {O : List Addr} {i : Nat} {ds es : List D} {a : Addr} {ys : List V}, SlR K N fa H sl σ O → O.Nodup → (∀ b ∈ O, N b) → sl[i]? = some (.own ds) → σ[i]? = some (some (.ref a)) → H' a = some (.lst ys) →
  Car K N fa H N fa H' → (∀ b u, b ≠ a → H b = some u → H' b = some u) → Reps K N fa H' es ys → SlR K N fa H' (sl.set i (.own es)) σ O
 | [], σ, O, i, ds, es, a, ys, h, nd, hN, e1, e2, e3, c, k, q => by simp at e1
 | .no :: r, σ, O, i, ds, es, a, ys, h, nd, hN, e1, e2, e3, c, k, q => by
  simp only [SlR] at h
  obtain ⟨v, τ, rfl, h⟩ := h
  cases i with
  | zero => simp at e1
  | succ i => simp only [List.set_cons_succ, SlR]; exact ⟨v, τ, rfl, SlR.rew h nd hN (by simpa using e1) (by simpa using e2) e3 c k q⟩
 | .val d' :: r, σ, O, i, ds, es, a, ys, h, nd, hN, e1, e2, e3, c, k, q => by
  simp only [SlR] at h
  obtain ⟨v, τ, rfl, qv, h⟩ := h
  cases i with
  | zero => simp at e1
  | succ i => simp only [List.set_cons_succ, SlR]; exact ⟨v, τ, rfl, Rep.go c _ _ qv, SlR.rew h nd hN (by simpa using e1) (by simpa using e2) e3 c k q⟩
 | .own ds' :: r, σ, O, i, ds, es, a, ys, h, nd, hN, e1, e2, e3, c, k, q => by
  simp only [SlR] at h
  obtain ⟨b, zs, τ, P, rfl, rfl, ha, qv, h⟩ := h
  have nd' := List.nodup_cons.mp nd
  cases i with
  | zero =>
   simp at e2
   subst e2
   simp only [List.set_cons_zero, SlR]
   exact ⟨b, ys, τ, P, rfl, rfl, e3, q, SlR.go c (fun x xs hx z => k x _ (fun y => nd'.1 (y ▸ hx)) z) h⟩
  | succ i =>
   have nb : b ≠ a := fun z => by
    obtain ⟨a', _, e4, m, _⟩ := SlR.own h (i := i) (by simpa using e1)
    rw [List.getElem?_cons_succ] at e2
    rw [e2] at e4
    cases e4
    exact nd'.1 (z ▸ m)
   simp only [List.set_cons_succ, SlR]
   exact ⟨b, zs, τ, P, rfl, rfl, k b _ nb ha, Reps.go c _ _ qv, SlR.rew h nd'.2 (fun x hx => hN x (List.mem_cons_of_mem _ hx)) (by simpa using e1) (by simpa using e2) e3 c k q⟩
theorem RepB.stp {d : D} {v : V} (I : GI K g σ H fa O s) (a : StE fa O H fa' O' H') (h : RepB K (NN g.F fa O) fa H d v) : RepB K (NN g.F fa' O') fa' H' d v := by
 have c := I.car a.stp
 cases d with
 | lst ds =>
  obtain ⟨x, xs, e, nf, q, r⟩ := h
  refine ⟨x, xs, e, fun z => ?_, a.same _ _ q nf, Reps.go c ds xs r⟩
  rcases a.fe with y | ⟨_, y⟩
  ·rw [y] at z; exact nf z
  ·rw [y x z] at q; cases q
 | _ =>
  simp only [RepB] at h ⊢
  exact Rep.go c _ _ h
theorem Rep.stp {d : D} {v : V} (I : GI K g σ H fa O s) (a : Stp fa O H fa' O' H') (h : Rep K (NN g.F fa O) fa H d v) : Rep K (NN g.F fa' O') fa' H' d v := Rep.go (I.car a) d v h
theorem Reps.stp {ds : List D} {xs : List V} (I : GI K g σ H fa O s) (a : Stp fa O H fa' O' H') (h : Reps K (NN g.F fa O) fa H ds xs) : Reps K (NN g.F fa' O') fa' H' ds xs := Reps.go (I.car a) ds xs h
theorem v3 {p : Addr} {o : HO} (h : H p = none) : StE fa O H fa O (e7 H p o) :=
 ⟨fun _ h => h, .inl rfl, fun b u e _ => by rw [i5 (t7 e h)]; exact e, fun b z => by
  by_cases hb : b = p
  ·subst hb; exact h
  ·rw [i5 hb] at z; exact z⟩
theorem FeedR.car {fs : Option FS} (c : Car K N fa H N' fa H') (h : ∀ a, fa = some a → H' a = H a) (f : FeedR N H fa fs) : FeedR N' H' fa fs := by
 cases fa with
 | none => cases fs <;> simpa only [FeedR] using f
 | some a =>
  cases fs with
  | none => simpa only [FeedR] using f
  | some x =>
   simp only [FeedR] at f ⊢
   obtain ⟨l, b, h1, h2, h3⟩ := f
   obtain ⟨q, n⟩ := c.ls b _ h2 h3
   exact ⟨l, b, by rw [h a rfl]; exact h1, n, q⟩
theorem FeedR.same_new {fs : Option FS} {p : Addr} {o : HO} (f : FeedR N H fa fs) (h : H p = none) : ∀ a, fa = some a → e7 H p o a = H a := fun a e => i5 fun z => f.tracked e (z ▸ h)
theorem DI.new {p : Addr} {o : HO} (I : GI K g σ H fa O s) (h : H p = none) : GI K g σ (e7 H p o) fa O s := by
 have a : StE fa O H fa O (e7 H p o) := v3 h
 refine ⟨I.nd, SlR.go (I.car a.stp) (fun b xs hb e => ?_) I.sl, I.fr, I.st.trans ((v3 (O := []) h).stp), I.tr, I.ff, I.fd.car (I.car a.stp) (I.fd.same_new h), I.nf⟩
 rw [i5 (t7 e h)]; exact e
end
noncomputable abbrev DE := DS → Option (D × DS)
noncomputable abbrev DT := DS → Option (Bool × DS)
noncomputable abbrev DA := DS → Option (List D × DS)
inductive Fl where
 | next | brk | cont | ret (d : D) | thr (c : Str) (ds : List D)
noncomputable abbrev DM := DS → Option (Fl × DS)
structure NewL (K : PySem.W.Frag) (g : Gh) (σ : L2.St) (H : Hp) (fa : Option Addr) (O : List Addr) (s : DS) (p : Addr) (xs : List V) (ds : List D) : Prop where
 gi : GI K g σ H fa O s
 ls : H p = some (.lst xs)
 sl : SlR K (fun b => NN g.F fa O b ∨ b = p) fa H s.sl σ O
 fd : FeedR (fun b => NN g.F fa O b ∨ b = p) H fa s.fs
 rs : Reps K (fun b => NN g.F fa O b ∨ b = p) fa H ds xs
 nf : fa ≠ some p
section
variable (K : PySem.W.Frag) (g : Gh)
noncomputable def liftE (f : DE) : TE := fun σ H Q => ∃ fa O s d s', GI K g σ H fa O s ∧ f s = some (d, s') ∧
 ∀ v H' fa' O', StE fa O H fa' O' H' → GI K g σ H' fa' O' s' → Rep K (NN g.F fa' O') fa' H' d v → Q v H'
noncomputable def liftB (f : DE) : TE := fun σ H Q => ∃ fa O s d s', GI K g σ H fa O s ∧ f s = some (d, s') ∧
 ∀ v H' fa' O', StE fa O H fa' O' H' → GI K g σ H' fa' O' s' → RepB K (NN g.F fa' O') fa' H' d v → Q v H'
noncomputable def liftF (f : DA) : TE := fun σ H Q => ∃ fa O s ds s', GI K g σ H fa O s ∧ f s = some (ds, s') ∧
 ∀ p xs H' fa' O', StE fa O H fa' O' H' → NewL K g σ H' fa' O' s' p xs ds → H p = none → Q (.ref p) H'
noncomputable def liftT (f : DT) : TT := fun σ H Q => ∃ fa O s d s', GI K g σ H fa O s ∧ f s = some (d, s') ∧
 ∀ H' fa' O', StE fa O H fa' O' H' → GI K g σ H' fa' O' s' → Q d H'
noncomputable def liftA (f : DA) : TA := fun σ H Q => ∃ fa O s ds s', GI K g σ H fa O s ∧ f s = some (ds, s') ∧
 ∀ vs H' fa' O', StE fa O H fa' O' H' → GI K g σ H' fa' O' s' → Reps K (NN g.F fa' O') fa' H' ds vs → Q vs H'
noncomputable def liftBA (f : DA) : TA := fun σ H Q => ∃ fa O s ds s', GI K g σ H fa O s ∧ f s = some (ds, s') ∧
 ∀ vs H' fa' O', StE fa O H fa' O' H' → GI K g σ H' fa' O' s' → K7 K (NN g.F fa' O') fa' H' ds vs → Q vs H'
noncomputable def FlK (E : Ends) (fa : Option Addr) (O : List Addr) (H : Hp) (fl : Fl) (s' : DS) : Prop :=
 match fl with
 | .next => ∀ σ' H' fa' O', Stp fa O H fa' O' H' → GI K g σ' H' fa' O' s' → E.nx σ' H'
 | .brk => ∀ σ' H' fa' O', Stp fa O H fa' O' H' → GI K g σ' H' fa' O' s' → E.bk σ' H'
 | .cont => ∀ σ' H' fa' O', Stp fa O H fa' O' H' → GI K g σ' H' fa' O' s' → E.ct σ' H'
 | .ret d => ∀ σ' v H' fa' O', Stp fa O H fa' O' H' → GI K g σ' H' fa' O' s' → Rep K (NN g.F fa' O') fa' H' d v → E.rt v H'
 | .thr c ds => ∀ σ' C dx od xs H' fa' O', Stp fa O H fa' O' H' → GI K g σ' H' fa' O' s' → PySem.W.nsIn K mainGlobals c = some (some (.ref C)) → H' dx = some (.frz od (.xd (fnm.zip xs))) → Reps K (NN g.F fa' O') fa' H' ds xs → g.xq σ' (.ref C) (some dx) H'
noncomputable def liftS (f : DM) : TS := fun E σ H => ∃ fa O s fl s', GI K g σ H fa O s ∧ f s = some (fl, s') ∧ FlK K g E fa O H fl s'
end
section
variable {K : PySem.W.Frag} {g : Gh} {σ : L2.St} {H : Hp} {G : Prop}
theorem liftE.elim {f : DE} {Q : VK} (h : liftE K g f σ H Q) (k : ∀ fa O s d s', GI K g σ H fa O s → f s = some (d, s') → (∀ v H' fa' O', StE fa O H fa' O' H' → GI K g σ H' fa' O' s' → Rep K (NN g.F fa' O') fa' H' d v → Q v H') → G) : G := by
 obtain ⟨fa, O, s, d, s', a, b, c⟩ := h
 exact k fa O s d s' a b c
theorem liftB.elim {f : DE} {Q : VK} (h : liftB K g f σ H Q) (k : ∀ fa O s d s', GI K g σ H fa O s → f s = some (d, s') → (∀ v H' fa' O', StE fa O H fa' O' H' → GI K g σ H' fa' O' s' → RepB K (NN g.F fa' O') fa' H' d v → Q v H') → G) : G := by
 obtain ⟨fa, O, s, d, s', a, b, c⟩ := h
 exact k fa O s d s' a b c
theorem liftF.elim {f : DA} {Q : VK} (h : liftF K g f σ H Q) (k : ∀ fa O s d s', GI K g σ H fa O s → f s = some (d, s') → (∀ p xs H' fa' O', StE fa O H fa' O' H' → NewL K g σ H' fa' O' s' p xs d → H p = none → Q (.ref p) H') → G) : G := by
 obtain ⟨fa, O, s, d, s', a, b, c⟩ := h
 exact k fa O s d s' a b c
theorem liftT.elim {f : DT} {Q : Bool → Hp → Prop} (h : liftT K g f σ H Q) (k : ∀ fa O s d s', GI K g σ H fa O s → f s = some (d, s') → (∀ H' fa' O', StE fa O H fa' O' H' → GI K g σ H' fa' O' s' → Q d H') → G) : G := by
 obtain ⟨fa, O, s, d, s', a, b, c⟩ := h
 exact k fa O s d s' a b c
theorem liftA.elim {f : DA} {Q : List V → Hp → Prop} (h : liftA K g f σ H Q) (k : ∀ fa O s d s', GI K g σ H fa O s → f s = some (d, s') → (∀ vs H' fa' O', StE fa O H fa' O' H' → GI K g σ H' fa' O' s' → Reps K (NN g.F fa' O') fa' H' d vs → Q vs H') → G) : G := by
 obtain ⟨fa, O, s, d, s', a, b, c⟩ := h
 exact k fa O s d s' a b c
theorem liftBA.elim {f : DA} {Q : List V → Hp → Prop} (h : liftBA K g f σ H Q) (k : ∀ fa O s d s', GI K g σ H fa O s → f s = some (d, s') → (∀ vs H' fa' O', StE fa O H fa' O' H' → GI K g σ H' fa' O' s' → K7 K (NN g.F fa' O') fa' H' d vs → Q vs H') → G) : G := by
 obtain ⟨fa, O, s, d, s', a, b, c⟩ := h
 exact k fa O s d s' a b c
theorem liftS.elim {f : DM} {E : Ends} (h : liftS K g f E σ H) (k : ∀ fa O s d s', GI K g σ H fa O s → f s = some (d, s') → (FlK K g E fa O H d s') → G) : G := by
 obtain ⟨fa, O, s, d, s', a, b, c⟩ := h
 exact k fa O s d s' a b c
end
structure EO (X : Cx) (g : Gh) (e : Expr) (f : DE) : Prop where
 pe : PE X e (liftE X.K g f)
structure BO (X : Cx) (g : Gh) (e : Expr) (f : DE) : Prop where
 pe : PE X e (liftB X.K g f)
structure FO (X : Cx) (g : Gh) (e : Expr) (f : DA) : Prop where
 pe : PE X e (liftF X.K g f)
structure TO (X : Cx) (g : Gh) (e : Expr) (f : DT) : Prop where
 pe : PT X e (liftT X.K g f)
structure WO (X : Cx) (g : Gh) (e : Expr) (f : DT) : Prop where
 pe : PW X e (liftT X.K g f)
structure AO (X : Cx) (g : Gh) (es : List Expr) (f : DA) : Prop where
 pe : PA X es (liftA X.K g f)
structure BAO (X : Cx) (g : Gh) (es : List Expr) (f : DA) : Prop where
 pe : PA X es (liftBA X.K g f)
structure SO (X : Cx) (g : Gh) (st : Stmt) (f : DM) : Prop where
 pe : PS X st (liftS X.K g f)
structure SSO (X : Cx) (g : Gh) (st : List Stmt) (f : DM) : Prop where
 pe : PSs X st (liftS X.K g f)
section
variable {X : Cx} {g : Gh} {e : Expr} {f : DE}
theorem cq {t t' : TE} (h : PE X e t) (w : ∀ σ H Q, t' σ H Q → t σ H Q) : PE X e t' := fun pins s σ H Q I q => h pins s σ H Q I (w σ H Q q)
theorem mZ {t t' : TT} (h : PT X e t) (w : ∀ σ H Q, t' σ H Q → t σ H Q) : PT X e t' := fun pins s σ H Q I q => h pins s σ H Q I (w σ H Q q)
theorem sr {t t' : TT} (h : PW X e t) (w : ∀ σ H Q, t' σ H Q → t σ H Q) : PW X e t' := fun wh pins s σ H Q I q => h wh pins s σ H Q I (w σ H Q q)
theorem ip {es : List Expr} {t t' : TA} (h : PA X es t) (w : ∀ σ H Q, t' σ H Q → t σ H Q) : PA X es t' := fun pos pins s σ H Q I q => h pos pins s σ H Q I (w σ H Q q)
theorem rA {st : Stmt} {t t' : TS} (h : PS X st t) (w : ∀ E σ H, t' E σ H → t E σ H) : PS X st t' := fun pins s σ H E I q => h pins s σ H E I (w E σ H q)
theorem mw {st : List Stmt} {t t' : TS} (h : PSs X st t) (w : ∀ E σ H, t' E σ H → t E σ H) : PSs X st t' := fun pins s σ H E I q => h pins s σ H E I (w E σ H q)
theorem EO.w {f : DE} {t : TE} (h : PE X e t) (w : ∀ σ H Q, liftE X.K g f σ H Q → t σ H Q) : EO X g e f := ⟨cq h w⟩
theorem BO.w {f : DE} {t : TE} (h : PE X e t) (w : ∀ σ H Q, liftB X.K g f σ H Q → t σ H Q) : BO X g e f := ⟨cq h w⟩
theorem FO.w {f : DA} {t : TE} (h : PE X e t) (w : ∀ σ H Q, liftF X.K g f σ H Q → t σ H Q) : FO X g e f := ⟨cq h w⟩
theorem TO.w {f : DT} {t : TT} (h : PT X e t) (w : ∀ σ H Q, liftT X.K g f σ H Q → t σ H Q) : TO X g e f := ⟨mZ h w⟩
theorem WO.w {f : DT} {t : TT} (h : PW X e t) (w : ∀ σ H Q, liftT X.K g f σ H Q → t σ H Q) : WO X g e f := ⟨sr h w⟩
theorem AO.w {es : List Expr} {f : DA} {t : TA} (h : PA X es t) (w : ∀ σ H Q, liftA X.K g f σ H Q → t σ H Q) : AO X g es f := ⟨ip h w⟩
theorem BAO.w {es : List Expr} {f : DA} {t : TA} (h : PA X es t) (w : ∀ σ H Q, liftBA X.K g f σ H Q → t σ H Q) : BAO X g es f := ⟨ip h w⟩
theorem SO.w {st : Stmt} {f : DM} {t : TS} (h : PS X st t) (w : ∀ E σ H, liftS X.K g f E σ H → t E σ H) : SO X g st f := ⟨rA h w⟩
theorem SSO.w {st : List Stmt} {f : DM} {t : TS} (h : PSs X st t) (w : ∀ E σ H, liftS X.K g f E σ H → t E σ H) : SSO X g st f := ⟨mw h w⟩
theorem EO.b (h : EO X g e f) : BO X g e f := BO.w h.pe fun σ H Q ⟨fa, O, s, d, s', I, e, k⟩ => ⟨fa, O, s, d, s', I, e, fun v H' fa' O' a I' r => k v H' fa' O' a I' (r.b fun _ z => .inr (.inr z))⟩
noncomputable def k7 (f : DA) : DE := fun s => (f s).map fun p => (.lst p.1, p.2)
theorem Y4 {K : PySem.W.Frag} {σ : L2.St} {H H' : Hp} {fa fa' : Option Addr} {O O' : List Addr} {s s' : DS} {p : Addr} (I : GI K g σ H fa O s) (a : StE fa O H fa' O' H') (I' : GI K g σ H' fa' O' s') (e : H p = none) (e' : fa' ≠ some p) : ¬ NN g.F fa' O' p := by
 rintro (z | z | z)
 ·exact I.trF z e
 ·obtain ⟨ys, q⟩ := I.owned (a.sub p z)
  rw [e] at q; cases q
 ·exact e' z
theorem FO.v {f : DA} (h : FO X g e f) : EO X g e (k7 f) := EO.w h.pe fun σ H Q hQ => by
 refine hQ.elim fun fa O s d s' I e k => ?_
 simp only [k7] at e
 cases q : f s with
 | none => rw [q] at e; cases e
 | some p =>
  obtain ⟨ds, s1⟩ := p
  rw [q] at e
  simp only [Option.map_some, Option.some.injEq, Prod.mk.injEq] at e
  obtain ⟨e1, e2⟩ := e
  subst e1; subst e2
  refine ⟨fa, O, s, ds, s1, I, q, fun p xs H' fa' O' a L e1 => k _ H' fa' O' a L.gi ?_⟩
  simp only [Rep]
  exact ⟨p, xs, rfl, Y4 I a L.gi e1 L.nf, L.ls, Reps.go ⟨fun b ys n q => ⟨q, fun z => n (.inl z)⟩, fun _ _ q => q, fun _ _ q => q, fun _ q => q⟩ ds xs L.rs⟩
end
theorem W8 {g : Gh} {K : PySem.W.Frag} {σ : L2.St} {H : Hp} {fa : Option Addr} {O : List Addr} {s : DS} {p : Addr} {o : HO} (I : GI K g σ H fa O s) (hp : H p = none) : Car K (NN g.F fa O) fa H (fun b => NN g.F fa O b ∨ b = p) fa (e7 H p o) := by
 have c := I.car (v3 (fa := fa) (O := O) (o := o) hp).stp
 refine ⟨fun b xs n q => ?_, c.tp, c.fz, c.fe⟩
 obtain ⟨q', n'⟩ := c.ls b xs n q
 refine ⟨q', ?_⟩
 rintro (z | z)
 ·exact n' z
 ·subst z
  rw [hp] at q; cases q
theorem R4 {g : Gh} {K : PySem.W.Frag} {σ : L2.St} {H : Hp} {fa : Option Addr} {O : List Addr} {s : DS} {p : Addr} {ds : List D} {xs : List V} (I : GI K g σ H fa O s) (hp : H p = none) (r : Reps K (NN g.F fa O) fa H ds xs) : NewL K g σ (e7 H p (.lst xs)) fa O s p xs ds :=
 ⟨I.new hp, r8, SlR.go (W8 I hp) (fun b ys _ e => by rw [i5 (t7 e hp)]; exact e) I.sl, I.fd.car (W8 I hp) (I.fd.same_new hp), Reps.go (W8 I hp) ds xs r, fun z => I.fd.tracked z hp⟩
noncomputable def dC (d : D) : DE := fun s => some (d, s)
noncomputable def dV (i : Nat) : DE := fun s => match s.sl[i]? with
 | some (.val d) => some (d, s)
 | some (.own ds) => some (.lst ds, { s with sl := s.sl.set i (.val (.lst ds)) })
 | _ => none
noncomputable def dL (i : Nat) : DE := fun s => match s.sl[i]? with
 | some (.val d) => some (d, s)
 | some (.own ds) => some (.lst ds, s)
 | _ => none
section
variable {X : Cx} {g : Gh}
theorem ma {i : Nat} {x : Str} {pos : Pos} (h : PE X (.Name x pos) (M1 i)) : BO X g (.Name x pos) (dL i) := BO.w h fun σ H Q hQ => by
 refine hQ.elim fun fa O s d s' I e k => ?_
 simp only [dL] at e
 cases q : s.sl[i]? with
 | none => rw [q] at e; cases e
 | some z =>
  rw [q] at e
  cases z with
  | no => cases e
  | val d' =>
   cases e
   obtain ⟨u, e1, r⟩ := SlR.val I.sl q
   exact ⟨u, e1, k u H fa O StE.refl I (r.b fun _ z => .inr (.inr z))⟩
  | own ds =>
   cases e
   obtain ⟨a, xs, e1, m, e2, r⟩ := SlR.own I.sl q
   exact ⟨_, e1, k _ H fa O StE.refl I ⟨a, xs, rfl, fun z => I.nf a z m, e2, r⟩⟩
theorem N8 {i : Nat} {x : Str} {pos : Pos} (h : PE X (.Name x pos) (M1 i)) : EO X g (.Name x pos) (dV i) := EO.w h fun σ H Q hQ => by
 refine hQ.elim fun fa O s d s' I e k => ?_
 simp only [dV] at e
 cases q : s.sl[i]? with
 | none => rw [q] at e; cases e
 | some z =>
  rw [q] at e
  cases z with
  | no => cases e
  | val d' =>
   cases e
   obtain ⟨u, e1, r⟩ := SlR.val I.sl q
   exact ⟨u, e1, k u H fa O StE.refl I r⟩
  | own ds =>
   cases e
   obtain ⟨a, xs, e1, m, e2, r⟩ := SlR.own I.sl q
   have i' : i < s.sl.length := (List.getElem?_eq_some_iff.mp q).1
   let N1 : Addr → Prop := fun b => NN g.F fa O b ∧ b ≠ a
   have c1 : Car X.K (NN g.F fa O) fa H N1 fa H := ⟨fun b ys n z => ⟨z, fun y => n y.1⟩, fun _ _ z => z, fun _ _ z => z, fun _ z => z⟩
   have S1 := SlR.go c1 (fun _ _ _ z => z) I.sl
   have R1 : Rep X.K N1 fa H (.lst ds) (.ref a) := by
    simp only [Rep]
    exact ⟨a, xs, rfl, fun z => z.2 rfl, e2, Reps.go c1 ds xs r⟩
   obtain ⟨P, hs, S2, hn⟩ := SlR.put i S1 R1
   have na : a ∉ P := hn I.nd a (by rw [q]; rfl) ⟨ds, q⟩ e1
   have eσ : σ.set i (some (V.ref a)) = σ := by
    apply List.ext_getElem?
    intro j
    by_cases hj : j = i
    ·subst hj
     rw [e1, List.getElem?_set_self (List.getElem?_eq_some_iff.mp e1).1]
    ·rw [List.getElem?_set_ne (Ne.symm hj)]
   rw [eσ] at S2
   have sub : ∀ b ∈ P, b ∈ O := fun b hb => hs.subset hb
   have a1 : StE fa O H fa P H := ⟨sub, .inl rfl, fun _ _ z _ => z, fun _ z => z⟩
   have c2 : Car X.K N1 fa H (NN g.F fa P) fa H := ⟨fun b ys n z => ⟨z, fun y => n ⟨by
     rcases y with y | y | y
     ·exact .inl y
     ·exact .inr (.inl (sub b y))
     ·exact .inr (.inr y), fun w => by
     subst w
     rcases y with y | y | y
     ·exact I.tr b y (I.fr b m)
     ·exact na y
     ·exact I.nf b y m⟩⟩, fun _ _ z => z, fun _ _ z => z, fun _ z => z⟩
   refine ⟨_, e1, k _ H fa P a1 ⟨hs.nodup I.nd, SlR.go c2 (fun _ _ _ z => z) S2, fun b hb => I.fr b (sub b hb), I.st, I.tr, I.ff, (I.fd.car c1 fun _ _ => rfl).car c2 fun _ _ => rfl, fun b z y => I.nf b z (sub b y)⟩ (Rep.go c2 _ _ R1)⟩
theorem bN {e : Expr} {v : V} {d : D} (h : PE X e (tC v)) (r : ∀ K N fa H, Rep K N fa H d v) : EO X g e (dC d) := EO.w h fun σ H Q hQ => by
 refine hQ.elim fun fa O s d' s' I q k => ?_
 simp only [dC, Option.some.injEq, Prod.mk.injEq] at q
 obtain ⟨q1, q2⟩ := q
 subst q1; subst q2
 exact k v H fa O StE.refl I (r _ _ _ _)
theorem qP {i j pos} : EO X g (.Constant (.int i) j pos) (dC (.int i)) := bN S3 fun _ _ _ _ => by simp only [Rep]
theorem mj {i j pos} : EO X g (.Constant (.bool i) j pos) (dC (.bl i)) := bN uO fun _ _ _ _ => by simp only [Rep]
theorem kC {x j pos} (hx : x.length ≤ sizeLine) : EO X g (.Constant (.str x) j pos) (dC (.str x)) := bN qw fun _ _ _ _ => by simp only [Rep]; exact ⟨trivial, hx⟩
end
noncomputable def w9 (K : PySem.W.Frag) (r : R2) (p : D → D → Option D) : Prop :=
 ∀ (g : Gh) (σ : L2.St) (H : Hp) (fa : Option Addr) (O : List Addr) (s : DS) (x y : V) (d1 d2 d : D) (Q : VK), GI K g σ H fa O s → RepB K (NN g.F fa O) fa H d1 x → RepB K (NN g.F fa O) fa H d2 y → p d1 d2 = some d →
  (∀ v H', StE fa O H fa O H' → GI K g σ H' fa O s → Rep K (NN g.F fa O) fa H' d v → Q v H') → r x y H Q
noncomputable def gf (K : PySem.W.Frag) (r : V → Hp → VK → Prop) (p : D → Option D) : Prop :=
 ∀ (g : Gh) (σ : L2.St) (H : Hp) (fa : Option Addr) (O : List Addr) (s : DS) (x : V) (d1 d : D) (Q : VK), GI K g σ H fa O s → RepB K (NN g.F fa O) fa H d1 x → p d1 = some d →
  (∀ v H', StE fa O H fa O H' → GI K g σ H' fa O s → Rep K (NN g.F fa O) fa H' d v → Q v H') → r x H Q
noncomputable def K6 (K : PySem.W.Frag) (r : List V → Hp → VK → Prop) (p : List D → Option D) : Prop :=
 ∀ (g : Gh) (σ : L2.St) (H : Hp) (fa : Option Addr) (O : List Addr) (s : DS) (xs : List V) (ds : List D) (d : D) (Q : VK), GI K g σ H fa O s → K7 K (NN g.F fa O) fa H ds xs → p ds = some d →
  (∀ v H', StE fa O H fa O H' → GI K g σ H' fa O s → Rep K (NN g.F fa O) fa H' d v → Q v H') → r xs H Q
noncomputable def aL (K : PySem.W.Frag) (r : List V → Hp → VK → Prop) (p : List D → Option (List D)) : Prop :=
 ∀ (g : Gh) (σ : L2.St) (H : Hp) (fa : Option Addr) (O : List Addr) (s : DS) (xs : List V) (ds es : List D) (Q : VK), GI K g σ H fa O s → K7 K (NN g.F fa O) fa H ds xs → p ds = some es →
  (∀ q ys H', StE fa O H fa O H' → NewL K g σ H' fa O s q ys es → H q = none → Q (.ref q) H') → r xs H Q
noncomputable def a5 (p : D → D → Option D) (a b : DE) : DE := fun s => (a s).bind fun x => (b x.2).bind fun y => (p x.1 y.1).map fun d => (d, y.2)
noncomputable def i0 (p : D → Option D) (a : DE) : DE := fun s => (a s).bind fun x => (p x.1).map fun d => (d, x.2)
theorem sL {α : Type} {p : D → D → Option α} {a b : DE} {s s' : DS} {d : α} (h : ((a s).bind fun x => (b x.2).bind fun y => (p x.1 y.1).map fun d => (d, y.2)) = some (d, s')) : ∃ x s1 y, a s = some (x, s1) ∧ b s1 = some (y, s') ∧ p x y = some d := by
 refine k4 h fun x s1 h1 h => ?_
 refine k4 h fun y s2 h2 h => ?_
 refine D8 h fun d' h3 h => ?_
 simp only [Prod.mk.injEq] at h
 obtain ⟨e1, e2⟩ := h
 subst e1; subst e2
 exact ⟨x, s1, y, h1, h2, h3⟩
section
variable {X : Cx} {g : Gh} {a b : Expr} {fa fb : DE} {pos : Pos} {r : R2} {p : D → D → Option D}
theorem Z4 {r : R2} {p : D → D → Option D} (hr : w9 X.K r p) (σ : L2.St) (H : Hp) (Q : VK) (h : liftE X.K g (a5 p fa fb) σ H Q) : V2 r (liftB X.K g fa) (liftB X.K g fb) σ H Q := by
 obtain ⟨f0, O, s, d, s', I, e, k⟩ := h
 obtain ⟨x, s1, y, h1, h2, h3⟩ := sL e
 refine ⟨f0, O, s, x, s1, I, h1, fun v H1 f1 O1 a1 I1 r1 => ⟨f1, O1, s1, y, s', I1, h2, fun u H2 f2 O2 a2 I2 r2 => ?_⟩⟩
 exact hr g σ H2 f2 O2 s' v u x y d Q I2 (RepB.stp I1 a2 r1) r2 h3 fun z H3 a3 I3 r3 => k z H3 f2 O2 (a1.trans (a2.trans a3)) I3 r3
theorem sR {op : Operator} (ho : OpR X (binaryOp op) r) (hr : w9 X.K r p) (ha : BO X g a fa) (hb : BO X g b fb) : EO X g (.BinOp a op b pos) (a5 p fa fb) := EO.w (jI ho ha.pe hb.pe) (Z4 hr)
theorem lT {op : CmpOp} (ho : OpR X (compareOp op) r) (hr : w9 X.K r p) (ha : BO X g a fa) (hb : BO X g b fb) (hm : behindInMarks op b = false) : EO X g (.Compare a [op] [b] pos) (a5 p fa fb) := EO.w (sQ ho ha.pe hb.pe hm) (Z4 hr)
theorem qj {r : R2} (ho : IxR X r) (hr : w9 X.K r p) (ha : BO X g a fa) (hb : BO X g b fb) (hs : ee b) : EO X g (.Subscript a b pos) (a5 p fa fb) := EO.w (eU ho ha.pe hb.pe hs) (Z4 hr)
theorem jE {op : UnaryOp} {r : V → Hp → VK → Prop} {p : D → Option D} (ho : X9 X (unaryOp op) r) (hr : gf X.K r p) (ha : BO X g a fa) : EO X g (.UnaryOp op a pos) (i0 p fa) := EO.w (nk ho ha.pe) fun σ H Q hQ => by
 refine hQ.elim fun f0 O s d s' I e k => ?_
 refine k4 e fun x s1 h1 h => ?_
 refine D8 h fun d' h3 h => ?_
 simp only [Prod.mk.injEq] at h
 obtain ⟨e1, e2⟩ := h
 subst e1; subst e2
 exact ⟨f0, O, s, x, s1, I, h1, fun v H1 f1 O1 a1 I1 r1 => hr g σ H1 f1 O1 s1 v x d' Q I1 r1 h3 fun z H3 a3 I3 r3 => k z H3 f1 O1 (a1.trans a3) I3 r3⟩
noncomputable def dB (f : DE) : DT := fun s => (f s).bind fun x => match x.1 with | .bl b => some (b, x.2) | _ => none
theorem aa {f : DE} {s s' : DS} {b : Bool} (h : dB f s = some (b, s')) : f s = some (.bl b, s') := by
 refine k4 h fun x s1 h1 h => ?_
 cases x with
 | bl c => simp only [Option.some.injEq, Prod.mk.injEq] at h; rw [h1, h.1, h.2]
 | _ => cases h
theorem qM {op : CmpOp} (ho : OpR X (compareOp op) r) (hr : w9 X.K r p) (ha : BO X g a fa) (hb : BO X g b fb) (hm : behindInMarks op b = false) : TO X g (.Compare a [op] [b] pos) (dB (a5 p fa fb)) :=
 TO.w (nD ho ha.pe hb.pe hm) fun σ H Q ⟨f0, O, s, d, s', I, e, k⟩ => Z4 hr σ H _ ⟨f0, O, s, .bl d, s', I, aa e, fun v H' f1 O1 a I1 r => by
  simp only [Rep] at r
  exact ⟨d, r, k H' f1 O1 a I1⟩⟩
noncomputable def A5 : D → Option Bool
 | .non => some false
 | .bl b => some b
 | .int i => some (i != 0)
 | .str x => some ((x.length : Int) != 0)
 | .tup ds => some (!ds.isEmpty)
 | .lst ds => some (!ds.isEmpty)
 | _ => none
noncomputable def m6 (f : DE) : DT := fun s => (f s).bind fun x => (A5 x.1).map fun b => (b, x.2)
theorem fH {α β : Type} {xs : List α} {ys : List β} (h : xs.length = ys.length) : xs.isEmpty = ys.isEmpty := by cases xs <;> cases ys <;> simp_all
theorem jc {e : Expr} {f : DE} (h : BO X g e f) (he : ∀ whole, isTrue e X.env whole = (do let v ← whole; standAt e.pos; holding [v] (truthy v)) := by intro _; rfl) : TO X g e (m6 f) :=
 TO.w (rG h.pe he) fun σ H Q hQ => by
  refine hQ.elim fun f0 O s d s' I e k => ?_
  obtain ⟨⟨x, s1⟩, h1, h.pe⟩ := Option.bind_eq_some_iff.mp e
  obtain ⟨d', h3, h.pe⟩ := Option.map_eq_some_iff.mp h.pe
  simp only [Prod.mk.injEq] at h.pe
  obtain ⟨e1, e2⟩ := h.pe
  subst e1; subst e2
  refine ⟨f0, O, s, x, s1, I, h1, fun v H' f1 O1 a I1 r => ⟨d', ?_, k H' f1 O1 a I1⟩⟩
  cases x with
  | non => simp only [RepB, Rep] at r; subst r; cases h3; rfl
  | bl b => simp only [RepB, Rep] at r; subst r; cases h3; rfl
  | int i => simp only [RepB, Rep] at r; subst r; cases h3; rfl
  | str x => simp only [RepB, Rep] at r; obtain ⟨r, l⟩ := r; subst r; cases h3; exact ⟨l, rfl⟩
  | tup ds =>
   simp only [RepB, Rep] at r
   obtain ⟨c, xs, r, q, w⟩ := r
   subst r; cases h3
   exact .inr (.inl ⟨xs, q, by rw [fH w.length]⟩)
  | lst ds =>
   obtain ⟨c, xs, r, _, q, w⟩ := r
   subst r; cases h3
   exact .inl ⟨xs, SqL.of q, by rw [fH w.length]⟩
  | feed => cases h3
  | scr _ => cases h3
  | fn _ => cases h3
  | exc _ _ => cases h3
noncomputable def o5 (a b : DT) : DT := fun s => (a s).bind fun x => if x.1 = true then b x.2 else some (false, x.2)
noncomputable def u6 (a b : DT) : DT := fun s => (a s).bind fun x => if x.1 = true then some (true, x.2) else b x.2
noncomputable def p8 (a : DT) : DT := fun s => (a s).map fun x => (!x.1, x.2)
noncomputable def u5 (a b : DE) : DE := fun s => (dB a s).bind fun x => if x.1 = true then b x.2 else some (.bl false, x.2)
noncomputable def y8 (a b : DE) : DE := fun s => (dB a s).bind fun x => if x.1 = true then some (.bl true, x.2) else b x.2
noncomputable def A0 (a : DE) : DE := fun s => (dB a s).map fun x => (.bl (!x.1), x.2)
variable {ta tb : DT} {rest : List Expr}
theorem uw (h : TO X g a ta) : WO X g (.BoolOp .And [a] pos) ta := ⟨uq h.pe⟩
theorem qY (h : TO X g a ta) : WO X g (.BoolOp .Or [a] pos) ta := ⟨uf h.pe⟩
theorem gy (ha : TO X g a ta) (hb : WO X g (.BoolOp .And (b :: rest) pos) tb) : WO X g (.BoolOp .And (a :: b :: rest) pos) (o5 ta tb) := WO.w (qk ha.pe hb.pe) fun σ H Q hQ => by
 refine hQ.elim fun f0 O s d s' I e k => ?_
 refine k4 e fun x s1 h1 h => ?_
 refine ⟨f0, O, s, x, s1, I, h1, fun H1 f1 O1 a1 I1 => ?_⟩
 cases x with
 | true => rw [if_pos rfl] at h ⊢; exact ⟨f1, O1, s1, d, s', I1, h, fun H2 f2 O2 a2 I2 => k H2 f2 O2 (a1.trans a2) I2⟩
 | false =>
  rw [if_neg Bool.false_ne_true] at h ⊢
  simp only [Option.some.injEq, Prod.mk.injEq] at h
  obtain ⟨e1, e2⟩ := h
  subst e1; subst e2
  exact k H1 f1 O1 a1 I1
theorem kI (ha : TO X g a ta) (hb : WO X g (.BoolOp .Or (b :: rest) pos) tb) : WO X g (.BoolOp .Or (a :: b :: rest) pos) (u6 ta tb) := WO.w (qS ha.pe hb.pe) fun σ H Q hQ => by
 refine hQ.elim fun f0 O s d s' I e k => ?_
 refine k4 e fun x s1 h1 h => ?_
 refine ⟨f0, O, s, x, s1, I, h1, fun H1 f1 O1 a1 I1 => ?_⟩
 cases x with
 | false => rw [if_neg Bool.false_ne_true] at h ⊢; exact ⟨f1, O1, s1, d, s', I1, h, fun H2 f2 O2 a2 I2 => k H2 f2 O2 (a1.trans a2) I2⟩
 | true =>
  rw [if_pos rfl] at h ⊢
  simp only [Option.some.injEq, Prod.mk.injEq] at h
  obtain ⟨e1, e2⟩ := h
  subst e1; subst e2
  exact k H1 f1 O1 a1 I1
theorem WO.t {e : Expr} {f : DT} (h : WO X g e f) : TO X g e f := ⟨h.pe.pt⟩
theorem kJ (ha : TO X g a ta) : TO X g (.UnaryOp .Not a pos) (p8 ta) := TO.w (uB ha.pe) fun σ H Q hQ => by
 refine hQ.elim fun f0 O s d s' I e k => ?_
 refine mapP e fun x s1 h1 h => ?_
 simp only [Prod.mk.injEq] at h
 obtain ⟨e1, e2⟩ := h
 subst e1; subst e2
 exact ⟨f0, O, s, x, s1, I, h1, fun H1 f1 O1 a1 I1 => k H1 f1 O1 a1 I1⟩
theorem dU {op} {f : DE} (h : EO X g a f) : EO X g (.BoolOp op [a] pos) f := ⟨jB h.pe⟩
theorem ur (ha : EO X g a fa) (hb : EO X g (.BoolOp .And (b :: rest) pos) fb) : EO X g (.BoolOp .And (a :: b :: rest) pos) (u5 fa fb) := EO.w (oG ha.pe hb.pe) fun σ H Q hQ => by
 refine hQ.elim fun f0 O s d s' I e k => ?_
 refine k4 e fun x s1 h1 h => ?_
 refine ⟨f0, O, s, _, s1, I, aa h1, fun v H1 f1 O1 a1 I1 r => ⟨x, by simpa only [Rep] using r, ?_⟩⟩
 cases x with
 | true => rw [if_pos rfl] at h ⊢; exact ⟨f1, O1, s1, d, s', I1, h, fun v H2 f2 O2 a2 I2 => k v H2 f2 O2 (a1.trans a2) I2⟩
 | false =>
  rw [if_neg Bool.false_ne_true] at h ⊢
  simp only [Option.some.injEq, Prod.mk.injEq] at h
  obtain ⟨e1, e2⟩ := h
  subst e1; subst e2
  exact k _ H1 f1 O1 a1 I1 (by simp only [Rep])
theorem fk (ha : EO X g a fa) (hb : EO X g (.BoolOp .Or (b :: rest) pos) fb) : EO X g (.BoolOp .Or (a :: b :: rest) pos) (y8 fa fb) := EO.w (jW ha.pe hb.pe) fun σ H Q hQ => by
 refine hQ.elim fun f0 O s d s' I e k => ?_
 refine k4 e fun x s1 h1 h => ?_
 refine ⟨f0, O, s, _, s1, I, aa h1, fun v H1 f1 O1 a1 I1 r => ⟨x, by simpa only [Rep] using r, ?_⟩⟩
 cases x with
 | false => rw [if_neg Bool.false_ne_true] at h ⊢; exact ⟨f1, O1, s1, d, s', I1, h, fun v H2 f2 O2 a2 I2 => k v H2 f2 O2 (a1.trans a2) I2⟩
 | true =>
  rw [if_pos rfl] at h ⊢
  simp only [Option.some.injEq, Prod.mk.injEq] at h
  obtain ⟨e1, e2⟩ := h
  subst e1; subst e2
  exact k _ H1 f1 O1 a1 I1 (by simp only [Rep])
theorem dR (ha : EO X g a fa) : EO X g (.UnaryOp .Not a pos) (A0 fa) := EO.w (tS ha.pe) fun σ H Q hQ => by
 refine hQ.elim fun f0 O s d s' I e k => ?_
 refine mapP e fun x s1 h1 h => ?_
 simp only [Prod.mk.injEq] at h
 obtain ⟨e1, e2⟩ := h
 subst e1; subst e2
 exact ⟨f0, O, s, _, s1, I, aa h1, fun v H1 f1 O1 a1 I1 r => ⟨x, by simpa only [Rep] using r, k _ H1 f1 O1 a1 I1 (by simp only [Rep])⟩⟩
noncomputable def o7 (c : DT) (a b : DE) : DE := fun s => (c s).bind fun x => if x.1 = true then a x.2 else b x.2
theorem uF {c : Expr} {fc : DT} (hc : TO X g c fc) (ha : EO X g a fa) (hb : EO X g b fb) : EO X g (.IfExp c a b pos) (o7 fc fa fb) := EO.w (kf hc.pe ha.pe hb.pe) fun σ H Q hQ => by
 refine hQ.elim fun f0 O s d s' I e k => ?_
 refine k4 e fun x s1 h1 h => ?_
 refine ⟨f0, O, s, x, s1, I, h1, fun H1 f1 O1 a1 I1 => ?_⟩
 cases x with
 | false => rw [if_neg Bool.false_ne_true] at h ⊢; exact ⟨f1, O1, s1, d, s', I1, h, fun v H2 f2 O2 a2 I2 => k v H2 f2 O2 (a1.trans a2) I2⟩
 | true => rw [if_pos rfl] at h ⊢; exact ⟨f1, O1, s1, d, s', I1, h, fun v H2 f2 O2 a2 I2 => k v H2 f2 O2 (a1.trans a2) I2⟩
noncomputable def a6 : DA := fun s => some ([], s)
noncomputable def a0 (a : DE) (r : DA) : DA := fun s => (a s).bind fun x => (r x.2).map fun y => (x.1 :: y.1, y.2)
theorem W0 {a : DE} {r : DA} {s s' : DS} {ds : List D} (h : a0 a r s = some (ds, s')) : ∃ d s1 es, a s = some (d, s1) ∧ r s1 = some (es, s') ∧ ds = d :: es := by
 refine k4 h fun x s1 h1 h => ?_
 refine mapP h fun y s2 h2 h => ?_
 simp only [Prod.mk.injEq] at h
 exact ⟨x, s1, y, h1, by rw [h2, h.2], h.1.symm⟩
variable {es : List Expr} {fr : DA}
theorem cL : AO X g [] a6 := AO.w M5 fun σ H Q hQ => by
 refine hQ.elim fun f0 O s d s' I e k => ?_
 simp only [a6, Option.some.injEq, Prod.mk.injEq] at e
 obtain ⟨e1, e2⟩ := e
 subst e1; subst e2
 exact k [] H f0 O StE.refl I (by simp only [Reps])
theorem aW (ha : EO X g a fa) (hr : AO X g es fr) (hs : starEach (a :: es) X.env = (false, eval a X.env) :: starEach es X.env := by rfl) : AO X g (a :: es) (a0 fa fr) := AO.w (B8 ha.pe hr.pe hs) fun σ H Q hQ => by
 refine hQ.elim fun f0 O s ds s' I e k => ?_
 obtain ⟨d, s1, es, h1, h2, h3⟩ := W0 e
 subst h3
 refine ⟨f0, O, s, d, s1, I, h1, fun v H1 f1 O1 a1 I1 r1 => ⟨f1, O1, s1, es, s', I1, h2, fun vs H2 f2 O2 a2 I2 r2 => ?_⟩⟩
 refine k (v :: vs) H2 f2 O2 (a1.trans a2) I2 ?_
 simp only [Reps]
 exact ⟨v, vs, rfl, Rep.stp I1 a2.stp r1, r2⟩
theorem bL : BAO X g [] a6 := BAO.w M5 fun σ H Q hQ => by
 refine hQ.elim fun f0 O s d s' I e k => ?_
 simp only [a6, Option.some.injEq, Prod.mk.injEq] at e
 obtain ⟨e1, e2⟩ := e
 subst e1; subst e2
 exact k [] H f0 O StE.refl I (by simp only [K7])
theorem km (ha : BO X g a fa) (hr : BAO X g es fr) (hs : starEach (a :: es) X.env = (false, eval a X.env) :: starEach es X.env := by rfl) : BAO X g (a :: es) (a0 fa fr) := BAO.w (B8 ha.pe hr.pe hs) fun σ H Q hQ => by
 refine hQ.elim fun f0 O s ds s' I e k => ?_
 obtain ⟨d, s1, es, h1, h2, h3⟩ := W0 e
 subst h3
 refine ⟨f0, O, s, d, s1, I, h1, fun v H1 f1 O1 a1 I1 r1 => ⟨f1, O1, s1, es, s', I1, h2, fun vs H2 f2 O2 a2 I2 r2 => ?_⟩⟩
 exact k (v :: vs) H2 f2 O2 (a1.trans a2) I2 ⟨v, vs, rfl, RepB.stp I1 a2 r1, r2⟩
noncomputable def i4 (f : DA) : DE := fun s => (f s).bind fun x => if x.1.length ≤ sizeLine then some (.tup x.1, x.2) else none
noncomputable def l5 (f : DA) : DA := fun s => (f s).bind fun x => if x.1.length ≤ sizeLine then some (x.1, x.2) else none
theorem lY {x1} (h : AO X g es fr) : EO X g (.Tuple es x1 pos) (i4 fr) := EO.w (eF h.pe) fun σ H Q hQ => by
 refine hQ.elim fun f0 O s d s' I e k => ?_
 obtain ⟨⟨ds, s1⟩, h1, h.pe⟩ := Option.bind_eq_some_iff.mp e
 by_cases hl : ds.length ≤ sizeLine
 ·rw [if_pos hl] at h.pe
  simp only [Option.some.injEq, Prod.mk.injEq] at h.pe
  obtain ⟨e1, e2⟩ := h.pe
  subst e1; subst e2
  refine ⟨f0, O, s, ds, s1, I, h1, fun vs H1 f1 O1 a1 I1 r1 => ⟨by rw [r1.length]; exact hl, fun p hp => ?_⟩⟩
  have a2 : StE f1 O1 H1 f1 O1 (e7 H1 p (.tup vs)) := v3 hp
  refine k _ _ f1 O1 (a1.trans a2) (I1.new hp) ?_
  simp only [Rep]
  exact ⟨p, vs, rfl, SqT.of r8, Reps.stp I1 a2.stp r1⟩
 ·rw [if_neg hl] at h.pe; cases h.pe
theorem jY (h : AO X g es fr) : FO X g (.List es pos) (l5 fr) := FO.w (eX h.pe) fun σ H Q hQ => by
 refine hQ.elim fun f0 O s d s' I e k => ?_
 obtain ⟨⟨ds, s1⟩, h1, h.pe⟩ := Option.bind_eq_some_iff.mp e
 by_cases hl : ds.length ≤ sizeLine
 ·rw [if_pos hl] at h.pe
  simp only [Option.some.injEq, Prod.mk.injEq] at h.pe
  obtain ⟨e1, e2⟩ := h.pe
  subst e1; subst e2
  refine ⟨f0, O, s, ds, s1, I, h1, fun vs H1 f1 O1 a1 I1 r1 => ⟨by rw [r1.length]; exact hl, fun p hp => ?_⟩⟩
  have a2 : StE f1 O1 H1 f1 O1 (e7 H1 p (.lst vs)) := v3 hp
  exact k p vs _ f1 O1 (a1.trans a2) (R4 I1 hp r1) (a1.mon _ hp)
 ·rw [if_neg hl] at h.pe; cases h.pe
end
section
variable {K : PySem.W.Frag} {g : Gh} {σ : L2.St} {H H' : Hp} {fa fa' : Option Addr} {O O' : List Addr} {s s' : DS}
theorem NN.mono {F : Addr → Prop} {P : List Addr} (h : ∀ b ∈ P, b ∈ O) {b : Addr} (z : NN F fa P b) : NN F fa O b := by
 rcases z with z | z | z
 ·exact .inl z
 ·exact .inr (.inl (h b z))
 ·exact .inr (.inr z)
theorem eI {F : Addr → Prop} {N : Addr → Prop} (h : ∀ b, NN F fa O b → N b) : Car K N fa H (NN F fa O) fa H := ⟨fun b xs n q => ⟨q, fun z => n (h b z)⟩, fun _ _ q => q, fun _ _ q => q, fun _ q => q⟩
theorem DI.put (I : GI K g σ H fa O s) (i : Nat) {d : D} {v : V} (r : Rep K (NN g.F fa O) fa H d v) : ∃ P, (∀ b ∈ P, b ∈ O) ∧ GI K g (σ.set i (some v)) H fa P { s with sl := s.sl.set i (.val d) } := by
 obtain ⟨P, hs, S, _⟩ := SlR.put i I.sl r
 have sub : ∀ b ∈ P, b ∈ O := fun b hb => hs.subset hb
 have c : Car K (NN g.F fa O) fa H (NN g.F fa P) fa H := eI fun b => NN.mono sub
 exact ⟨P, sub, hs.nodup I.nd, SlR.go c (fun _ _ _ z => z) S, fun b hb => I.fr b (sub b hb), I.st, I.tr, I.ff, I.fd.car c fun _ _ => rfl, fun b z y => I.nf b z (sub b y)⟩
theorem N9 {P : List Addr} (h : ∀ b ∈ P, b ∈ O) : StE fa O H fa P H := ⟨h, .inl rfl, fun _ _ e _ => e, fun _ e => e⟩
theorem NewL.put {p : Addr} {xs : List V} {ds : List D} (L : NewL K g σ H fa O s p xs ds) (i : Nat) (hi : i < s.sl.length) (h0 : g.H0 p = none) (hp : p ∉ O) : ∃ P, (∀ b ∈ P, b = p ∨ b ∈ O) ∧ GI K g (σ.set i (some (.ref p))) H fa P { s with sl := s.sl.set i (.own ds) } := by
 obtain ⟨P, h1, h2, S⟩ := SlR.putN i L.sl hi hp L.gi.nd L.ls L.rs
 have c : Car K (fun b => NN g.F fa O b ∨ b = p) fa H (NN g.F fa P) fa H := eI fun b z => by
  rcases z with z | z | z
  ·exact .inl (.inl z)
  ·rcases h1 b z with y | y
   ·exact .inr y
   ·exact .inl (.inr (.inl y))
  ·exact .inl (.inr (.inr z))
 refine ⟨P, h1, h2, SlR.go c (fun _ _ _ z => z) S, fun b hb => ?_, L.gi.st, L.gi.tr, L.gi.ff, L.fd.car c fun _ _ => rfl, fun b z hb => ?_⟩
 ·rcases h1 b hb with y | y
  ·rw [y]; exact h0
  ·exact L.gi.fr b y
 ·rcases h1 b hb with y | y
  ·rw [y] at z; exact L.nf z
  ·exact L.gi.nf b z y
theorem DI.rew (I : GI K g σ H fa O s) {i : Nat} {ds es : List D} {a : Addr} {xs ys : List V} (e1 : s.sl[i]? = some (.own ds)) (e2 : σ[i]? = some (some (.ref a))) (m : a ∈ O) (e3 : H a = some (.lst xs)) (r : Reps K (NN g.F fa O) fa H es ys) :
  GI K g σ (e7 H a (.lst ys)) fa O { s with sl := s.sl.set i (.own es) } ∧ Stp fa O H fa O (e7 H a (.lst ys)) := by
 have a1 : Stp fa O H fa O (e7 H a (.lst ys)) := ⟨fun b hb => .inl hb, .inl rfl, fun b u e n _ => by
  rw [i5 (show b ≠ a from fun z => n (by rw [z]; exact m))]; exact e, fun b z => by
  by_cases hb : b = a
  ·subst hb; rw [r8] at z; cases z
  ·rw [i5 hb] at z; exact z⟩
 have c := I.car a1
 have k : ∀ b u, b ≠ a → H b = some u → e7 H a (.lst ys) b = some u := fun b u n e => by rw [i5 n]; exact e
 refine ⟨⟨I.nd, SlR.rew I.sl I.nd (fun b hb => .inr (.inl hb)) e1 e2 r8 c k (Reps.go c es ys r), I.fr, ?_, I.tr, I.ff, I.fd.car c fun b hb => ?_, I.nf⟩, a1⟩
 ·refine ⟨fun b hb => (by cases hb), I.st.fe, fun b u e n f => ?_, fun b z => I.st.mon b (a1.mon b z)⟩
  refine k b u (fun z => ?_) (I.st.same b u e n f)
  rw [z, I.fr a m] at e; cases e
 ·refine i5 fun z => ?_
  subst z
  exact I.nf _ hb m
end
theorem FlK.shift {K : PySem.W.Frag} {g : Gh} {E : Ends} {fa fa' : Option Addr} {O O' : List Addr} {H H' : Hp} {fl : Fl} {s : DS} (a : Stp fa O H fa' O' H') (h : FlK K g E fa O H fl s) : FlK K g E fa' O' H' fl s := by
 cases fl with
 | next => exact fun σ' H2 f2 O2 a2 I2 => h σ' H2 f2 O2 (a.trans a2) I2
 | brk => exact fun σ' H2 f2 O2 a2 I2 => h σ' H2 f2 O2 (a.trans a2) I2
 | cont => exact fun σ' H2 f2 O2 a2 I2 => h σ' H2 f2 O2 (a.trans a2) I2
 | ret d => exact fun σ' v H2 f2 O2 a2 I2 => h σ' v H2 f2 O2 (a.trans a2) I2
 | thr c ds => exact fun σ' C dx od xs H2 f2 O2 a2 I2 => h σ' C dx od xs H2 f2 O2 (a.trans a2) I2
noncomputable def j9 : DM := fun s => some (.next, s)
noncomputable def v7 (b : DM) (x : Fl × DS) : Option (Fl × DS) := match x.1 with
 | .next => b x.2
 | .brk => some (.brk, x.2)
 | .cont => some (.cont, x.2)
 | .ret d => some (.ret d, x.2)
 | .thr c ds => some (.thr c ds, x.2)
noncomputable def c7 (a b : DM) : DM := fun s => (a s).bind (v7 b)
section
variable {X : Cx} {g : Gh} {st : Stmt} {rest : List Stmt} {e : Expr} {pos : Pos} {a b : DM} {f : DE}
theorem W9 : SSO X g [] j9 := SSO.w si fun E σ H hQ => by
 refine hQ.elim fun fa O s fl s' I e k => ?_
 cases e
 exact k σ H fa O Stp.refl I
theorem E7 (h : SO X g st a) : SSO X g [st] a := ⟨lD h.pe⟩
theorem B4 (h : SO X g st a) (hr : SSO X g rest b) : SSO X g (st :: rest) (c7 a b) := SSO.w (rm h.pe hr.pe) fun E σ H hQ => by
 refine hQ.elim fun fa O s fl s' I e k => ?_
 refine k4 e fun f1 s1 h1 h2 => ?_
 refine ⟨fa, O, s, f1, s1, I, h1, ?_⟩
 cases f1 with
 | next => exact fun σ' H' f1 O1 a1 I1 => ⟨f1, O1, s1, fl, s', I1, h2, k.shift a1⟩
 | brk => cases h2; exact k
 | cont => cases h2; exact k
 | ret d => cases h2; exact k
 | thr c ds => cases h2; exact k
noncomputable def i6 (f : DE) : DM := fun s => (f s).map fun x => (.ret x.1, x.2)
theorem Y2 (he : EO X g e f) : SO X g (.Return (some e) pos) (i6 f) := SO.w (qr he.pe) fun E σ H hQ => by
 refine hQ.elim fun fa O s fl s' I q k => ?_
 refine mapP q fun d s1 h1 h2 => ?_
 cases h2
 exact ⟨fa, O, s, d, s1, I, h1, fun v H' f1 O1 a1 I1 r => k σ v H' f1 O1 a1.stp I1 r⟩
noncomputable def i9 (c : DT) (a b : DM) : DM := fun s => (c s).bind fun x => if x.1 = true then a x.2 else b x.2
theorem X7 {c : Expr} {fc : DT} {la lb : List Stmt} (hc : TO X g c fc) (ha : SSO X g la a) (hb : SSO X g lb b) : SO X g (.If c la lb pos) (i9 fc a b) := SO.w (qX hc.pe ha.pe hb.pe) fun E σ H hQ => by
 refine hQ.elim fun fa O s fl s' I e k => ?_
 refine k4 e fun x s1 h1 h => ?_
 refine ⟨fa, O, s, x, s1, I, h1, fun H1 f1 O1 a1 I1 => ?_⟩
 cases x with
 | false => rw [if_neg Bool.false_ne_true] at h ⊢; exact ⟨f1, O1, s1, fl, s', I1, h, k.shift a1.stp⟩
 | true => rw [if_pos rfl] at h ⊢; exact ⟨f1, O1, s1, fl, s', I1, h, k.shift a1.stp⟩
noncomputable def liftG (K : PySem.W.Frag) (g : Gh) (t : D → DS → Option DS) : TG := fun v σ H Q => ∃ fa O s d s', GI K g σ H fa O s ∧ Rep K (NN g.F fa O) fa H d v ∧ t d s = some s' ∧ ∀ σ' H' fa' O', Stp fa O H fa' O' H' → GI K g σ' H' fa' O' s' → Q σ' H'
noncomputable def liftGs (K : PySem.W.Frag) (g : Gh) (t : List D → DS → Option DS) : F4 := fun vs σ H Q => ∃ fa O s ds s', GI K g σ H fa O s ∧ Reps K (NN g.F fa O) fa H ds vs ∧ t ds s = some s' ∧ ∀ σ' H' fa' O', Stp fa O H fa' O' H' → GI K g σ' H' fa' O' s' → Q σ' H'
section
variable {K : PySem.W.Frag} {g : Gh} {σ : L2.St} {Q : L2.St → Hp → Prop} {H : Hp} {G : Prop}
theorem liftG.elim {t : D → DS → Option DS} {v : V} (h : liftG K g t v σ H Q) (k : ∀ fa O s d s', GI K g σ H fa O s → Rep K (NN g.F fa O) fa H d v → t d s = some s' → (∀ σ' H' fa' O', Stp fa O H fa' O' H' → GI K g σ' H' fa' O' s' → Q σ' H') → G) : G := by
 obtain ⟨fa, O, s, d, s', a, r, b, c⟩ := h
 exact k fa O s d s' a r b c
theorem liftGs.elim {t : List D → DS → Option DS} {v : List V} (h : liftGs K g t v σ H Q) (k : ∀ fa O s d s', GI K g σ H fa O s → Reps K (NN g.F fa O) fa H d v → t d s = some s' → (∀ σ' H' fa' O', Stp fa O H fa' O' H' → GI K g σ' H' fa' O' s' → Q σ' H') → G) : G := by
 obtain ⟨fa, O, s, d, s', a, r, b, c⟩ := h
 exact k fa O s d s' a r b c
end
structure GO (X : Cx) (g : Gh) (e : Expr) (t : D → DS → Option DS) : Prop where
 pe : PG X e (liftG X.K g t)
structure GsO (X : Cx) (g : Gh) (es : List Expr) (t : List D → DS → Option DS) : Prop where
 pe : M8 X es (liftGs X.K g t)
noncomputable def c8 (i : Nat) (d : D) : DS → Option DS := fun s => some { s with sl := s.sl.set i (.val d) }
theorem jS {t t' : TG} (h : PG X e t) (w : ∀ v σ H Q, t' v σ H Q → t v σ H Q) : PG X e t' := fun pins s σ H v u Q I r q => h pins s σ H v u Q I r (w v σ H Q q)
theorem oh {es : List Expr} {t t' : F4} (h : M8 X es t) (w : ∀ v σ H Q, t' v σ H Q → t v σ H Q) : M8 X es t' := fun pins s σ H v u Q I r q => h pins s σ H v u Q I r (w v σ H Q q)
theorem GO.w {f : D → DS → Option DS} {t : TG} (h : PG X e t) (w : ∀ v σ H Q, liftG X.K g f v σ H Q → t v σ H Q) : GO X g e f := ⟨jS h w⟩
theorem GsO.w {es : List Expr} {f : List D → DS → Option DS} {t : F4} (h : M8 X es t) (w : ∀ v σ H Q, liftGs X.K g f v σ H Q → t v σ H Q) : GsO X g es f := ⟨oh h w⟩
theorem uN {i : Nat} {x : Str} (h : PG X (.Name x pos) (V6 i)) : GO X g (.Name x pos) (c8 i) := GO.w h fun v σ H Q hQ => by
 refine hQ.elim fun fa O s d s' I r e k => ?_
 cases e
 obtain ⟨P, sub, I'⟩ := I.put i r
 exact k _ H fa P (N9 sub).stp I'
noncomputable def p7 : List D → DS → Option DS
 | [], s => some s
 | _ :: _, _ => none
noncomputable def l4 (t : D → DS → Option DS) (u : List D → DS → Option DS) : List D → DS → Option DS
 | [], _ => none
 | d :: r, s => (t d s).bind (u r)
theorem tD : GsO X g [] p7 := GsO.w tU fun v σ H Q hQ => by
 refine hQ.elim fun fa O s ds s' I r e k => ?_
 cases ds with
 | nil => cases e; simp only [Reps] at r; exact ⟨r, k σ H fa O Stp.refl I⟩
 | cons d r' => cases e
theorem jH {es : List Expr} {t : D → DS → Option DS} {u : List D → DS → Option DS} (h : GO X g e t) (hr : GsO X g es u) (hs : (assignEach (e :: es) X.env).map (·.2) = assign e X.env :: (assignEach es X.env).map (·.2) := by rfl) : GsO X g (e :: es) (l4 t u) :=
 GsO.w (pj h.pe hr.pe hs) fun v σ H Q hQ => by
  refine hQ.elim fun fa O s ds s' I r e k => ?_
  cases ds with
  | nil => cases e
  | cons d r' =>
   refine R9 e fun s1 h1 h2 => ?_
   simp only [Reps] at r
   obtain ⟨x, ys, rfl, rx, ry⟩ := r
   exact ⟨x, ys, rfl, fa, O, s, d, s1, I, rx, h1, fun σ1 H1 f1 O1 a1 I1 => ⟨f1, O1, s1, r', s', I1, Reps.stp I a1 ry, h2, fun σ2 H2 f2 O2 a2 I2 => k σ2 H2 f2 O2 (a1.trans a2) I2⟩⟩
noncomputable def o9 (n : Nat) (u : List D → DS → Option DS) (d : D) (s : DS) : Option DS := match d with
 | .tup ds => if ds.length = n then u ds s else none
 | _ => none
theorem kD {es : List Expr} {k : Nat} {n : Nat} {u : List D → DS → Option DS} (hc : X.calm = true) (h : GsO X g es u) (hn : (assignEach es X.env).length = n := by rfl) (hst : (assignEach es X.env).findIdx? (·.1) = none := by rfl) : GO X g (.Tuple es k pos) (o9 n u) :=
 GO.w (mX hc h.pe hn hst) fun v σ H Q hQ => by
  refine hQ.elim fun fa O s d s' I r e k => ?_
  cases d with
  | tup ds =>
   simp only [o9] at e
   by_cases hl : ds.length = n
   ·rw [if_pos hl] at e
    simp only [Rep] at r
    obtain ⟨a, xs, rfl, q, w⟩ := r
    exact ⟨a, xs, rfl, q, by rw [w.length]; exact hl, fa, O, s, ds, s', I, w, e, k⟩
   ·rw [if_neg hl] at e; cases e
  | _ => cases e
noncomputable def e8 (f : DE) (t : D → DS → Option DS) : DM := fun s => (f s).bind fun x => (t x.1 x.2).map fun s' => (.next, s')
theorem gL {f : DE} {t : D → DS → Option DS} (E : Ends) (σ : L2.St) (H : Hp) (h : liftS X.K g (e8 f t) E σ H) : cT (liftE X.K g f) (liftG X.K g t) E σ H := by
 obtain ⟨fa, O, s, fl, s', I, q, k⟩ := h
 refine k4 q fun d s1 h1 h2 => ?_
 refine D8 h2 fun s2 h3 h4 => ?_
 cases h4
 exact ⟨fa, O, s, d, s1, I, h1, fun v H1 f1 O1 a1 I1 r => ⟨f1, O1, s1, d, _, I1, r, h3, fun σ2 H2 f2 O2 a2 I2 => k σ2 H2 f2 O2 (a1.stp.trans a2) I2⟩⟩
theorem rl {tg : Expr} {t : D → DS → Option DS} (he : EO X g e f) (hg : GO X g tg t) (hs : swapsWithSole [tg] e pos.line X.env = pure false := by rfl) (hw : swappedStores [tg] e X.env = pure none := by rfl)
  (h1 : (assignEach [tg] X.env).map (·.2) = [assign tg X.env] := by rfl) : SO X g (.Assign [tg] e pos) (e8 f t) := SO.w (eD he.pe hg.pe hs hw h1) gL
theorem cU {i : Nat} {x : Str} {pos' : Pos} (hN : X.N.Nodup) (hi : X.N[i]? = some x) (hx : N0 X.env.scope x) (he : EO X g e f) (hs : swapsWith e (some (.Name x pos')) pos.line X.env = pure false := by rfl) (hf : X.fn x = true ∨ X.env.scope.names.lookup x = some .local := by first | exact .inl rfl | exact .inr rfl | assumption) :
  SO X g (.Assign [.Name x pos'] e pos) (e8 f (c8 i)) := SO.w (bg hN hi hx he.pe hs hf) fun E σ H h => by
 obtain ⟨fa, O, s, d, s1, I, h1, k⟩ := gL E σ H h
 refine ⟨fa, O, s, d, s1, I, h1, fun v H1 f1 O1 a1 I1 r => ?_⟩
 obtain ⟨f2, O2, s2, d2, s3, I2, r2, e2, k2⟩ := k v H1 f1 O1 a1 I1 r
 cases e2
 obtain ⟨P, sub, I'⟩ := I2.put i r2
 exact k2 _ H1 f2 P (N9 sub).stp I'
noncomputable def F8 (i : Nat) (f : DA) : DM := fun s => (f s).bind fun x => if i < x.2.sl.length then some (.next, { x.2 with sl := x.2.sl.set i (.own x.1) }) else none
theorem gF {i : Nat} {x : Str} {f : DA} {pos' : Pos} (hN : X.N.Nodup) (hi : X.N[i]? = some x) (hx : N0 X.env.scope x) (he : FO X g e f) (hs : swapsWith e (some (.Name x pos')) pos.line X.env = pure false := by rfl) (hf : X.fn x = true ∨ X.env.scope.names.lookup x = some .local := by first | exact .inl rfl | exact .inr rfl | assumption) :
  SO X g (.Assign [.Name x pos'] e pos) (F8 i f) := SO.w (bg hN hi hx he.pe hs hf) fun E σ H hQ => by
 refine hQ.elim fun fa O s fl s' I q k => ?_
 refine k4 q fun ds s1 h1 h2 => ?_
 by_cases hl : i < s1.sl.length
 ·simp only [] at h2
  rw [if_pos hl] at h2
  cases h2
  refine ⟨fa, O, s, ds, s1, I, h1, fun p xs H1 f1 O1 a1 L hp => ?_⟩
  have np : p ∉ O1 := fun z => by
   obtain ⟨ys, e⟩ := I.owned (a1.sub p z)
   rw [hp] at e; cases e
  obtain ⟨P, sub, I'⟩ := L.put i hl (I.st.mon p hp) np
  refine k _ H1 f1 P ⟨fun b hb => ?_, a1.fe, fun b u e _ n => a1.same b u e n, a1.mon⟩ I'
  rcases sub b hb with y | y
  ·exact .inr (by rw [y]; exact hp)
  ·exact .inl (a1.sub b y)
 ·simp only [] at h2
  rw [if_neg hl] at h2; cases h2
noncomputable def B6 (i : Nat) (f : DE) : DM := fun s => match s.sl[i]? with
 | some (.own _) => (f s).bind fun x => match x.2.sl[i]? with
  | some (.own ds) => if ds.length < sizeLine then some (.next, { x.2 with sl := x.2.sl.set i (.own (ds ++ [x.1])) }) else none
  | _ => none
 | _ => none
theorem qO {i : Nat} {x : Str} {p1 p2 p3 p4 : Pos} (hv : PE X (.Name x p1) (M1 i)) (he : EO X g e f) (hbase : attributeBase (.Name x p1) ("append" : Str) X.env (eval (.Name x p1) X.env) = eval (.Name x p1) X.env := by rfl)
  (hfew : ((backTo p3 (starEach [e] X.env)).all (fun x => !x.1) && (backToKw p3 (keywordEach [] X.env)).all (fun x => x.1.isSome)
   && decide ([e].length + ([] : List Keyword).length + (if ([] : List Keyword).isEmpty then 0 else 1) < 30)) = true := by rfl)
  (hline : (p2.endLine == p3.line) = true := by rfl) (hs : starEach [e] X.env = (false, eval e X.env) :: starEach [] X.env := by rfl) (hplain : (backTo p3 (starEach [] X.env)).any (·.1) = false := by rfl)
  (hsw : swapsWith (.Call (.Attribute (.Name x p1) ("append" : Str) p2) [e] [] p3) none p4.line X.env = pure false := by rfl) :
  SO X g (.Expr (.Call (.Attribute (.Name x p1) ("append" : Str) p2) [e] [] p3) p4) (B6 i f) :=
 SO.w (kT (pR PySem.F.plainAttrs_list PySem.F.slot_list_append PySem.F.type_list_append et hv (B8 he.pe M5 hs) hbase hfew hline hs hplain) hsw) fun E σ H hQ => by
  refine hQ.elim fun fa O s fl s' I q k => ?_
  cases q0 : s.sl[i]? with
  | none => simp only [B6, q0] at q; cases q
  | some z =>
  cases z with
  | no => simp only [B6, q0] at q; cases q
  | val _ => simp only [B6, q0] at q; cases q
  | own ds0 =>
  simp only [B6, q0] at q
  obtain ⟨a, xs0, e1, m, e2, _⟩ := SlR.own I.sl q0
  refine k4 q fun d s1 h1 h2 => ?_
  cases q2 : s1.sl[i]? with
  | none => simp only [q2] at h2; cases h2
  | some z =>
   cases z with
   | no => simp only [q2] at h2; cases h2
   | val _ => simp only [q2] at h2; cases h2
   | own ds =>
    simp only [q2] at h2
    by_cases hl : ds.length < sizeLine
    ·rw [if_pos hl] at h2
     cases h2
     refine ⟨_, e1, .inl ⟨rfl, xs0, SqL.of e2⟩, fa, O, s, d, s1, I, h1, fun v H1 f1 O1 a1 I1 r => ?_⟩
     obtain ⟨b, xs, e3, m1, e4, r1⟩ := SlR.own I1.sl q2
     rw [e1] at e3; cases e3
     obtain ⟨I2, a2⟩ := I1.rew q2 e1 m1 e4 (Reps.append r1 (Reps.one r))
     exact ⟨a, xs, v, rfl, rfl, e4, by rw [r1.length]; exact hl, k σ _ f1 O1 (a1.stp.trans a2) I2⟩
    ·rw [if_neg hl] at h2; cases h2
end
noncomputable def A1 (t : D → DS → Option DS) (b : DM) : List D → DS → Option (Fl × DS)
 | [], s => some (.next, s)
 | d :: r, s => (t d s).bind fun s1 => (b s1).bind fun x => match x.1 with
  | .next => A1 t b r x.2
  | .cont => A1 t b r x.2
  | .brk => some (.next, x.2)
  | .ret v => some (.ret v, x.2)
  | .thr c ds => some (.thr c ds, x.2)
noncomputable def N3 (K : PySem.W.Frag) (g : Gh) (f1 : Option Addr) (O1 : List Addr) (H1 : Hp) (t : D → DS → Option DS) (b : DM) (ds : List D) (fl : Fl) (sf : DS) (i : Nat) : L2.St → Hp → Prop := fun σ' H' =>
 ∃ fa' O' s', Stp f1 O1 H1 fa' O' H' ∧ GI K g σ' H' fa' O' s' ∧ A1 t b (ds.drop i) s' = some (fl, sf)
section
variable {K : PySem.W.Frag} {g : Gh} {f1 : Option Addr} {O1 : List Addr} {H1 H' : Hp} {t : D → DS → Option DS} {b : DM} {ds : List D} {fl : Fl} {sf : DS} {i : Nat} {E : Ends} {σ' : L2.St}
theorem eB {α : Type} {l : List α} {i : Nat} {d : α} (h : l[i]? = some d) : l.drop i = d :: l.drop (i + 1) := by
 obtain ⟨hi, e⟩ := List.getElem?_eq_some_iff.mp h
 rw [List.drop_eq_getElem_cons hi, e]
theorem aI (hk : FlK K g E f1 O1 H1 fl sf) {d : D} {x : V} (hd : ds[i]? = some d) (hr : ∀ fa' O', Stp f1 O1 H1 fa' O' H' → Rep K (NN g.F fa' O') fa' H' d x) (h : N3 K g f1 O1 H1 t b ds fl sf i σ' H') :
  liftG K g t x σ' H' fun σ2 H2 => liftS K g b { E with nx := N3 K g f1 O1 H1 t b ds fl sf (i + 1), ct := N3 K g f1 O1 H1 t b ds fl sf (i + 1), bk := E.nx } σ2 H2 := by
 obtain ⟨fa', O', s', st, I, e⟩ := h
 rw [eB hd, A1] at e
 refine R9 e fun s1 h1 h2 => ?_
 refine k4 h2 fun fb s2 h3 h4 => ?_
 refine ⟨fa', O', s', d, s1, I, hr fa' O' st, h1, fun σ2 H2 f2 O2 a2 I2 => ⟨f2, O2, s1, fb, s2, I2, h3, ?_⟩⟩
 cases fb with
 | next => exact fun σ3 H3 f3 O3 a3 I3 => ⟨f3, O3, s2, st.trans (a2.trans a3), I3, h4⟩
 | cont => exact fun σ3 H3 f3 O3 a3 I3 => ⟨f3, O3, s2, st.trans (a2.trans a3), I3, h4⟩
 | brk => cases h4; exact fun σ3 H3 f3 O3 a3 I3 => hk σ3 H3 f3 O3 (st.trans (a2.trans a3)) I3
 | ret v => cases h4; exact fun σ3 v H3 f3 O3 a3 I3 r => hk σ3 v H3 f3 O3 (st.trans (a2.trans a3)) I3 r
 | thr c es => cases h4; exact fun σ3 C dx od xs H3 f3 O3 a3 I3 => hk σ3 C dx od xs H3 f3 O3 (st.trans (a2.trans a3)) I3
theorem bw (hk : FlK K g E f1 O1 H1 fl sf) {n : Nat} (hn : ds.length ≤ n) (h : N3 K g f1 O1 H1 t b ds fl sf n σ' H') : E.nx σ' H' := by
 obtain ⟨fa', O', s', st, I, e⟩ := h
 rw [List.drop_eq_nil_of_le hn, A1] at e
 cases e
 exact hk σ' H' fa' O' st I
end
noncomputable def U1 (f : DE) (t : D → DS → Option DS) (b : DM) : DM := fun s => (f s).bind fun x => match x.1 with
 | .lst ds => A1 t b ds x.2
 | .tup ds => A1 t b ds x.2
 | _ => none
section
variable {X : Cx} {g : Gh} {tg iter : Expr} {body : List Stmt} {f : DE} {t : D → DS → Option DS} {b : DM} {pos : Pos}
noncomputable def kM (K : PySem.W.Frag) (tl : TE) : TI := fun σ H R => tl σ H fun x H1 => ∃ a, x = .ref a ∧ (((∃ xs, SqL K H1 a xs) ∧ R (U7 K a) H1) ∨ ((∃ xs, SqT K H1 a xs) ∧ R (W2 K a) H1))
theorem gH {l : Expr} {tl : TE} (hl : PE X l tl) : PI X tg l (kM X.K tl) := by
 intro pins s σ H R I h
 refine i7 (hl pins s σ H _ I h) fun v s1 ⟨x, H1, I1, r1, q1⟩ => ?_
 obtain ⟨a, e, q⟩ := q1
 subst e
 cases r1
 rcases q with ⟨⟨xs, hq⟩, q⟩ | ⟨⟨xs, hq⟩, q⟩
 ·obtain ⟨its, rv, p, hz⟩ := I1.list hq
  refine wpAny_pyIter_list p.isList ?_
  refine ⟨s1.heap.objs.size, [s1.heap.objs.size], _, _, H1, rfl, I1.kept (t' := s1.toks) fun b o e => Heap.get?_push_of_some _ e, tQ a _, ⟨_, Heap.get?_push_size _ rfl, rfl, rfl⟩, fun b hb => ?_, q⟩
  have e : b = s1.heap.objs.size := by simpa using hb
  subst e
  exact I1.fpOk (Nat.le_refl _) (I1.hok.fresh (Nat.le_refl _))
 ·obtain ⟨its, rv, p, hz⟩ := I1.tuple hq
  refine wpAny_pyIter_tuple (show s1.heap.IsTuple a its.toArray from p) ?_
  refine ⟨s1.heap.objs.size, [s1.heap.objs.size], _, _, H1, rfl, I1.kept (t' := s1.toks) fun b o e => Heap.get?_push_of_some _ e, lq a _, ⟨_, Heap.get?_push_size _ rfl, rfl, rfl⟩, fun b hb => ?_, q⟩
  have e : b = s1.heap.objs.size := by simpa using hb
  subst e
  exact I1.fpOk (Nat.le_refl _) (I1.hok.fresh (Nat.le_refl _))
theorem ku (hp : PassesOwn (model X.prog X.w) X.A X.env X.xe) (hc : X.calm = true) (he : EO X g iter f) (hg : GO X g tg t) (hb : SSO X g body b) (hs : ∀ x, foldedSetIterable iter X.env x = pure x := by intro _; rfl) :
  SO X g (.For tg iter body [] pos) (U1 f t b) := SO.w (gs hp hc (gH he.pe) hg.pe hb.pe hs) fun E σ H hQ => by
 refine hQ.elim fun fa O s fl sf I q k => ?_
 refine k4 q fun d s1 h1 h2 => ?_
 refine ⟨fa, O, s, d, s1, I, h1, fun v H1 f1 O1 a1 I1 r => ?_⟩
 have k1 := k.shift a1.stp
 cases d with
 | lst ds =>
  simp only [Rep] at r
  obtain ⟨a, xs, rfl, na, q, w⟩ := r
  refine ⟨a, rfl, .inl ⟨⟨xs, SqL.of q⟩, qE (xs := xs) (N3 X.K g f1 O1 H1 t b ds fl sf) ⟨f1, O1, s1, Stp.refl, I1, h2⟩ ?_ ?_ ?_⟩⟩
  ·rintro i σ' H' _ ⟨fa', O', s', st, I', e⟩
   exact SqL.of ((I1.car st).ls a xs na q).1
  ·intro i x σ' H' hx h
   obtain ⟨d, hd, rd⟩ := Reps.get' w hx
   exact aI k1 hd (fun fa' O' st => Rep.stp I1 st rd) h
  ·intro σ' H' h
   exact bw k1 (Nat.le_of_eq w.length.symm) h
 | tup ds =>
  simp only [Rep] at r
  obtain ⟨a, xs, rfl, q, w⟩ := r
  refine ⟨a, rfl, .inr ⟨⟨xs, q⟩, kO (xs := xs) (N3 X.K g f1 O1 H1 t b ds fl sf) ⟨f1, O1, s1, Stp.refl, I1, h2⟩ ?_ ?_ ?_⟩⟩
  ·rintro i σ' H' _ ⟨fa', O', s', st, I', e⟩
   exact (I1.car st).tp a xs q
  ·intro i x σ' H' hx h
   obtain ⟨d, hd, rd⟩ := Reps.get' w hx
   exact aI k1 hd (fun fa' O' st => Rep.stp I1 st rd) h
  ·intro σ' H' h
   exact bw k1 (Nat.le_of_eq w.length.symm) h
 | _ => cases h2
noncomputable def B5 (lo : Int) (n : Nat) : List D := (List.range n).map fun (i : Nat) => D.int (lo + (i : Int))
theorem cS {lo : Int} {n i : Nat} (h : i < n) : (B5 lo n)[i]? = some (.int (lo + (i : Int))) := by simp [B5, h]
theorem V3 (lo : Int) (n : Nat) : (B5 lo n).length = n := by simp [B5]
noncomputable def O6 : List D → Option (List D)
 | [.int j] => if -(2 ^ 62) ≤ j ∧ j < 2 ^ 62 then some (B5 0 j.toNat) else none
 | [.int i, .int j] => if -(2 ^ 62) ≤ i ∧ i < 2 ^ 62 ∧ -(2 ^ 62) ≤ j ∧ j < 2 ^ 62 then some (B5 i (j - i).toNat) else none
 | _ => none
noncomputable def O9 (f : DA) (t : D → DS → Option DS) (b : DM) : DM := fun s => (f s).bind fun x => (O6 x.1).bind fun ds => A1 t b ds x.2
theorem gz {ds es : List D} {a : D} (h : O6 ds = some es) (l : ds = [a]) : ∃ j : Int, a = .int j ∧ -(2 ^ 62) ≤ j ∧ j < 2 ^ 62 ∧ es = B5 0 j.toNat := by
 subst l
 cases a with
 | int j =>
  have h : (if -(2 ^ 62) ≤ j ∧ j < 2 ^ 62 then some (B5 0 j.toNat) else none) = some es := h
  by_cases hj : -(2 ^ 62) ≤ j ∧ j < 2 ^ 62
  ·rw [if_pos hj] at h; cases h; exact ⟨j, rfl, hj.1, hj.2, rfl⟩
  ·rw [if_neg hj] at h; cases h
 | _ => cases h
theorem mU {a : Expr} {fa : DE} {p cpos : Pos} (hp : PassesOwn (model X.prog X.w) X.A X.env X.xe) (hc : X.calm = true) (hgl : Gl X "range") (hm : X.mg "range" = none) (ha : EO X g a fa) (hg : GO X g tg t) (hb : SSO X g body b)
  (hs1 : starEach [a] X.env = [(false, eval a X.env)] := by rfl) (hs : ∀ x, foldedSetIterable (.Call (.Name "range" p) [a] [] cpos) X.env x = pure x := by intro _; rfl) :
  SO X g (.For tg (.Call (.Name "range" p) [a] [] cpos) body [] pos) (O9 (a0 fa a6) t b) :=
 SO.w (gs hp hc (gN hgl hm (aW ha cL hs1).pe hs1) hg.pe hb.pe hs) fun E σ H hQ => by
  refine hQ.elim fun fa O s fl sf I q k => ?_
  refine k4 q fun ds s1 h1 h2 => ?_
  refine R9 h2 fun es h3 h4 => ?_
  obtain ⟨d, s2, rs, e1, e2, e3⟩ := W0 h1
  cases e2
  obtain ⟨j, rfl, j1, j2, rfl⟩ := gz h3 e3
  refine ⟨fa, O, s, ds, s1, I, h1, fun vs H1 f1 O1 a1 I1 r => ?_⟩
  have k1 := k.shift a1.stp
  rw [e3] at r
  simp only [Reps, Rep] at r
  obtain ⟨x, ys, rfl, rfl, rfl⟩ := r
  refine ⟨j, rfl, j1, j2, rn (lo := 0) (n := j.toNat) (N3 X.K g f1 O1 H1 t b (B5 0 j.toNat) fl sf) ⟨f1, O1, s1, Stp.refl, I1, h4⟩ ?_ ?_⟩
  ·intro i σ' H' hi h
   exact aI k1 (cS hi) (fun fa' O' st => by simp only [Rep]) h
  ·intro σ' H' h
   exact bw k1 (by rw [V3]; exact Nat.le_refl _) h
noncomputable def y9 (c : DT) (b : DM) : Nat → DS → Option (Fl × DS)
 | 0, _ => none
 | n + 1, s => (c s).bind fun x => if x.1 = true then (b x.2).bind fun y => match y.1 with
   | .next => y9 c b n y.2
   | .cont => y9 c b n y.2
   | .brk => some (.next, y.2)
   | .ret v => some (.ret v, y.2)
   | .thr c ds => some (.thr c ds, y.2)
  else some (.next, x.2)
open Classical in
noncomputable def E4 (c : DT) (b : DM) : DM := fun s => if h : ∃ n r, y9 c b n s = some r then y9 c b h.choose s else none
theorem aO {c : DT} {b : DM} : ∀ (n : Nat) {s : DS} {r : Fl × DS}, y9 c b n s = some r → y9 c b (n + 1) s = some r
 | 0, s, r, h => by cases h
 | n + 1, s, r, h => by
  rw [y9] at h ⊢
  refine k4 h fun x s1 h1 h2 => ?_
  refine Option.bind_eq_some_iff.mpr ⟨(x, s1), h1, ?_⟩
  cases x with
  | false => exact h2
  | true =>
   simp only [if_true] at h2 ⊢
   refine k4 h2 fun y s2 h3 h4 => ?_
   refine Option.bind_eq_some_iff.mpr ⟨(y, s2), h3, ?_⟩
   cases y with
   | next => exact aO n h4
   | cont => exact aO n h4
   | brk => exact h4
   | ret v => exact h4
   | thr c ds => exact h4
theorem gQ {c : DT} {b : DM} {n m : Nat} (hnm : n ≤ m) {s : DS} {r : Fl × DS} (h : y9 c b n s = some r) : y9 c b m s = some r := by
 induction hnm with
 | refl => exact h
 | step _ ih => exact aO _ ih
theorem jo {c : DT} {b : DM} {n : Nat} {s : DS} {r : Fl × DS} (h : y9 c b n s = some r) : E4 c b s = some r := by
 have hx : ∃ n r, y9 c b n s = some r := ⟨n, r, h⟩
 unfold E4
 rw [dif_pos hx]
 obtain ⟨r', h'⟩ := hx.choose_spec
 have e1 := gQ (Nat.le_max_left n hx.choose) h
 have e2 := gQ (Nat.le_max_right n hx.choose) h'
 rw [e1] at e2
 rw [h', e2]
theorem iA {c : DT} {b : DM} {s : DS} {r : Fl × DS} (h : E4 c b s = some r) : ∃ n, y9 c b n s = some r := by
 unfold E4 at h
 by_cases hx : ∃ n r, y9 c b n s = some r
 ·rw [dif_pos hx] at h; exact ⟨_, h⟩
 ·rw [dif_neg hx] at h; cases h
theorem tj {c : DT} {b : DM} {s s1 s2 : DS} {r : Fl × DS} (h1 : c s = some (true, s1)) (h2 : b s1 = some (.next, s2)) (h3 : E4 c b s2 = some r) : E4 c b s = some r := by
 obtain ⟨n, h⟩ := iA h3
 refine jo (n := n + 1) ?_
 rw [y9, h1]
 simp only [Option.bind_some, if_true, h2]
 exact h
theorem mY {c : DT} {b : DM} {s s1 : DS} (h1 : c s = some (false, s1)) : E4 c b s = some (.next, s1) := by
 refine jo (n := 1) ?_
 rw [y9, h1]
 simp
theorem ud {c : Expr} {fc : DT} (hp : PassesOwn (model X.prog X.w) X.A X.env X.xe) (hc : TO X g c fc) (hb : SSO X g body b) : SO X g (.While c body [] pos) (E4 fc b) := SO.w (tW hp hc.pe hb.pe) fun E σ H hQ => by
 refine hQ.elim fun fa O s fl sf I q k => ?_
 obtain ⟨n, h⟩ := iA q
 refine ⟨fun m σ' H' => ∃ fa' O' s', Stp fa O H fa' O' H' ∧ GI X.K g σ' H' fa' O' s' ∧ y9 fc b m s' = some (fl, sf), ⟨n, fa, O, s, Stp.refl, I, h⟩, ?_⟩
 rintro m σ1 H1 ⟨f1, O1, s1, a1, I1, h1⟩
 cases m with
 | zero => cases h1
 | succ m =>
  rw [y9] at h1
  refine k4 h1 fun x s2 h2 h3 => ?_
  refine ⟨f1, O1, s1, x, s2, I1, h2, fun H2 f2 O2 a2 I2 => ?_⟩
  cases x with
  | false => rw [if_neg Bool.false_ne_true] at h3 ⊢; cases h3; exact k σ1 H2 f2 O2 (a1.trans a2.stp) I2
  | true =>
   rw [if_pos rfl] at h3 ⊢
   refine k4 h3 fun y s3 h4 h5 => ?_
   refine ⟨fun σ' H' => ∃ fa' O' s', Stp fa O H fa' O' H' ∧ GI X.K g σ' H' fa' O' s' ∧ y9 fc b m s' = some (fl, sf), fun σ' H' z => ⟨m, Nat.lt_succ_self m, z⟩, f2, O2, s2, y, s3, I2, h4, ?_⟩
   have a12 := a1.trans a2.stp
   cases y with
   | next => exact fun σ3 H3 f3 O3 a3 I3 => ⟨f3, O3, s3, a12.trans a3, I3, h5⟩
   | cont => exact fun σ3 H3 f3 O3 a3 I3 => ⟨f3, O3, s3, a12.trans a3, I3, h5⟩
   | brk => cases h5; exact fun σ3 H3 f3 O3 a3 I3 => k σ3 H3 f3 O3 (a12.trans a3) I3
   | ret v => cases h5; exact fun σ3 v H3 f3 O3 a3 I3 r => k σ3 v H3 f3 O3 (a12.trans a3) I3 r
   | thr c es => cases h5; exact fun σ3 C dx od xs H3 f3 O3 a3 I3 => k σ3 C dx od xs H3 f3 O3 (a12.trans a3) I3
end
noncomputable abbrev a7 := List D → Option FS → Option (D × Option FS)
noncomputable def S7 (K : PySem.W.Frag) (n : Nat) (m : a7) : Sp := fun vs H Q _ => ∃ (F : Addr → Prop) (fa : Option Addr) (ds : List D) (fs : Option FS) (d : D) (fs' : Option FS),
 (∀ b, F b → H b ≠ none) ∧ (∀ a, fa = some a → F a) ∧ Reps K F fa H ds vs ∧ FeedR F H fa fs ∧ m ds fs = some (d, fs') ∧ ds.length = n ∧
  ∀ v H' fa', Stp fa [] H fa' [] H' → FeedR (fun b => F b ∨ fa' = some b) H' fa' fs' → Rep K (fun b => F b ∨ fa' = some b) fa' H' d v → Q v H'
noncomputable abbrev X2 (P : Program) (w : World) (K : PySem.W.Frag) (mg : Str → Option Value) (base : Heap) (k : Nat) (f : Addr) (fd : FuncData) (ps : List Str) (m : a7) : Prop := FnOk P w K mg base E6 k f fd ps (S7 K ps.length m)
noncomputable def n8 (n : Nat) (b : DM) : a7 := fun ds fs => (b ⟨ds.map .val ++ List.replicate (n - ds.length) .no, fs⟩).bind fun x => match x.1 with
 | .ret d => some (d, x.2.fs)
 | .next => some (.non, x.2.fs)
 | _ => none
theorem ft {K : PySem.W.Frag} {N : Addr → Prop} {fa : Option Addr} {H : Hp} : ∀ n : Nat, SlR K N fa H (List.replicate n .no) (List.replicate n none) []
 | 0 => by simp [SlR]
 | n + 1 => by
  simp only [List.replicate_succ, SlR]
  exact ⟨_, _, rfl, ft n⟩
theorem dJ {K : PySem.W.Frag} {N : Addr → Prop} {fa : Option Addr} {H : Hp} {n : Nat} : ∀ {ds : List D} {vs : List V}, Reps K N fa H ds vs → SlR K N fa H (ds.map .val ++ List.replicate n .no) (vs.map some ++ List.replicate n none) []
 | [], vs, h => by simp only [Reps] at h; subst h; simpa using ft n
 | d :: r, vs, h => by
  simp only [Reps] at h
  obtain ⟨x, ys, rfl, h1, h2⟩ := h
  simp only [List.map_cons, List.cons_append, SlR]
  exact ⟨x, _, rfl, h1, dJ h2⟩
section
variable {P : Program} {w : World} {K : PySem.W.Frag} {mg : Str → Option Value} {base : Heap}
theorem dX {x qual : Str} {st : Stmt} {f : Addr} {fd : FuncData} {N ps : List Str} {k : Nat} {b : DM} (F : Fun K x qual st f fd) (S : FnScope N ps (j4 st))
  (hbody : ∀ (cdv : Value) (A : Around) (outer : List Env) (s : Shared) (H : Hp) (E : XK) (g : Gh), Room k (A.deeper (PyProof.Rows.envOfC qual (j4 st) s.heap.objs.size f cdv)) → SSO (A9 E6 P w K mg base N qual (j4 st) f cdv A outer s H E).nox g (B1 st) b) :
  X2 P w K mg base (k + 1) f fd ps (n8 N.length b) := by
 refine F.ok S (fun vs H Q E h => ?_) (fun cdv A outer s H vs Q E hr h => ?_)
 ·obtain ⟨F, fa, ds, fs, d, fs', _, _, r, _, _, hl, _⟩ := h
  rw [r.length]; exact hl
 obtain ⟨F, fa, ds, fs, d, fs', tr, ff, r, fd, e, hl, q⟩ := h
 refine ⟨_, (hbody cdv A outer s H E ⟨F, H, fa, fun _ => E0⟩ hr).pe, ?_⟩
 refine k4 e fun fl s' h1 h2 => ?_
 have hN : ∀ b, NN F fa [] b → F b := fun b z => by
  rcases z with z | z | z
  ·exact z
  ·cases z
  ·exact ff b z
 have c : Car K F fa H (NN F fa []) fa H := ⟨fun b xs n q => ⟨q, fun z => n (hN b z)⟩, fun _ _ q => q, fun _ _ q => q, fun _ q => q⟩
 have el : (L2.start N vs) = vs.map some ++ List.replicate (N.length - ds.length) none := by rw [L2.start, r.length]
 have I : GI K ⟨F, H, fa, fun _ => E0⟩ (L2.start N vs) H fa [] ⟨ds.map .val ++ List.replicate (N.length - ds.length) .no, fs⟩ := by
  refine ⟨List.nodup_nil, ?_, fun b hb => (by cases hb), Stp.refl, tr, ff, fd.car c fun _ _ => rfl, fun _ _ z => (by cases z)⟩
  rw [el]
  exact dJ (Reps.go c ds vs r)
 have fin : ∀ {fa' : Option Addr} {O' : List Addr} {H' : Hp} {σ' : L2.St} {v : V} {dd : D}, Stp fa [] H fa' O' H' → GI K ⟨F, H, fa, fun _ => E0⟩ σ' H' fa' O' s' → Rep K (NN F fa' O') fa' H' dd v → dd = d → s'.fs = fs' → Q v H' := by
  intro fa' O' H' σ' v dd a1 I1 r1 e1 e2
  subst e1; subst e2
  have c1 : Car K (NN F fa' O') fa' H' (fun b => F b ∨ fa' = some b) fa' H' := ⟨fun b xs n q => ⟨q, fun z => n (by
   rcases z with z | z
   ·exact .inl z
   ·exact .inr (.inr z))⟩, fun _ _ q => q, fun _ _ q => q, fun _ q => q⟩
  exact q v H' fa' ⟨fun b hb => (by cases hb), a1.fe, a1.same, a1.mon⟩ (I1.fd.car c1 fun _ _ => rfl) (Rep.go c1 _ _ r1)
 refine ⟨fa, [], _, fl, s', I, h1, ?_⟩
 cases fl with
 | next =>
  simp only [Option.some.injEq, Prod.mk.injEq] at h2
  exact fun σ' H' fa' O' a1 I1 => fin a1 I1 (v := .non) (dd := .non) (by simp only [Rep]) h2.1 h2.2
 | ret dd =>
  simp only [Option.some.injEq, Prod.mk.injEq] at h2
  exact fun σ' v H' fa' O' a1 I1 r1 => fin a1 I1 r1 h2.1 h2.2
 | brk => cases h2
 | cont => cases h2
 | thr _ _ => cases h2
end
noncomputable def c6 (m : a7) (f : DA) : DE := fun s => (f s).bind fun x => (m x.1 x.2.fs).map fun y => (y.1, { x.2 with fs := y.2 })
section
variable {X : Cx} {g : Gh} {k : Nat} {f : Addr} {fd : FuncData} {ps : List Str} {m : a7} {x : Str} {p pos : Pos} {e : Expr} {es : List Expr} {t : DA}
theorem jw {n : Nat} (hn : ∀ s ds s', t s = some (ds, s') → ds.length = n) (σ : L2.St) (H : Hp) (Q : VK) (h : liftE X.K g (c6 m t) σ H Q) : eY (S7 X.K n m) [] E0 (liftA X.K g t) σ H Q := by
 obtain ⟨fa, O, s, d, s', I, q, k⟩ := h
 refine k4 q fun ds s1 h1 h2 => ?_
 refine mapP h2 fun d1 fs1 h3 h4 => ?_
 simp only [Prod.mk.injEq] at h4
 obtain ⟨e1, e2⟩ := h4
 subst e1; subst e2
 refine ⟨fa, O, s, ds, s1, I, h1, fun vs H1 f1 O1 a1 I1 r => ?_⟩
 show S7 X.K n m (vs ++ []) H1 Q E0
 rw [List.append_nil]
 refine ⟨NN g.F f1 O1, f1, ds, s1.fs, d1, fs1, fun b hb => I1.nn_tracked hb, fun a ha => .inr (.inr ha), r, I1.fd, h3, hn s ds s1 h1, fun v H2 f2 a2 fd2 r2 => ?_⟩
 have a3 : StE f1 O1 H1 f2 O1 H2 := ⟨fun b hb => hb, a2.fe, fun b u e n => a2.same b u e (by simp) n, a2.mon⟩
 have c := I1.car a3.stp
 have c2 : Car X.K (fun b => NN g.F f1 O1 b ∨ f2 = some b) f2 H2 (NN g.F f2 O1) f2 H2 := ⟨fun b xs n q => ⟨q, fun z => n (by
   rcases z with z | z | z
   ·exact .inl (.inl z)
   ·exact .inl (.inr (.inl z))
   ·exact .inr z)⟩, fun _ _ q => q, fun _ _ q => q, fun _ q => q⟩
 refine k v H2 f2 O1 (a1.trans a3) ⟨I1.nd, SlR.go c (fun b xs hb e => ?_) I1.sl, I1.fr, I1.st.trans ⟨fun b hb => (by cases hb), a2.fe, fun b u e n z => a2.same b u e n z, a2.mon⟩, I1.tr, I1.ff, fd2.car c2 fun _ _ => rfl, I1.nf_step a3.fe⟩ (Rep.go c2 _ _ r2)
 exact a3.same b _ e fun z => I1.nf b z hb
theorem qu (F : X2 X.prog X.w X.K X.mg X.base k f fd ps m) (hr : Room k X.A) (hg : Gl X x) (hm : X.mg x = some (.ref f)) (hk : PySem.W.keepIn X.K (.ref f) = true) (hb : Binds X.K fd ps [])
  (ha : AO X g (e :: es) t) (hn : ∀ s ds s', t s = some (ds, s') → ds.length = ps.length) (hdb : (x == ("__debug__" : Str)) = false := by decide) (he : starEach (e :: es) X.env = (false, eval e X.env) :: starEach es X.env := by rfl) (hpl : (backTo pos (starEach es X.env)).any (·.1) = false := by rfl) :
  EO X g (.Call (.Name x p) (e :: es) [] pos) (c6 m t) := EO.w (sW F hr hg hm hk hb .nil lK ha.pe hdb he hpl) (jw hn)
theorem X3 : ∀ s ds s', a6 s = some (ds, s') → ds.length = 0 := fun s ds s' h => by cases h; rfl
theorem V8 {a : DE} {r : DA} {n : Nat} (h : ∀ s ds s', r s = some (ds, s') → ds.length = n) : ∀ s ds s', a0 a r s = some (ds, s') → ds.length = n + 1 := fun s ds s' q => by
 obtain ⟨d, s1, es, h1, h2, h3⟩ := W0 q
 subst h3
 simp [h _ _ _ h2]
end
noncomputable def aK (K : PySem.W.Frag) (N : Addr → Prop) (fa : Option Addr) (H1 : Hp) (J : It) (ds : List D) : Prop := ∀ N' fa' H', Car K N fa H1 N' fa' H' → (∀ b u, H1 b = some u → fa ≠ some b → H' b = some u) → ∀ i : Nat,
 (∀ d, ds[i]? = some d → J.go i H' ∧ ∀ x H'', J.yld i H' x H'' → H'' = H' ∧ Rep K N' fa' H' d x) ∧ (ds.length ≤ i → J.stop i H')
noncomputable def liftI (K : PySem.W.Frag) (g : Gh) (f : DA) : TI := fun σ H R => ∃ fa O s ds s', GI K g σ H fa O s ∧ f s = some (ds, s') ∧ ds.length ≤ sizeLine ∧
 ∀ J H' fa' O', StE fa O H fa' O' H' → GI K g σ H' fa' O' s' → aK K (NN g.F fa' O') fa' H' J ds → R J H'
section
variable {K : PySem.W.Frag} {g : Gh} {σ : L2.St} {H : Hp} {G : Prop}
theorem liftI.elim {f : DA} {R : It → Hp → Prop} (h : liftI K g f σ H R) (k : ∀ fa O s ds s', GI K g σ H fa O s → f s = some (ds, s') → ds.length ≤ sizeLine → (∀ J H' fa' O', StE fa O H fa' O' H' → GI K g σ H' fa' O' s' → aK K (NN g.F fa' O') fa' H' J ds → R J H') → G) : G := by
 obtain ⟨fa, O, s, d, s', a, r, b, c⟩ := h
 exact k fa O s d s' a r b c
end
structure IO (X : Cx) (g : Gh) (tg iter : Expr) (f : DA) : Prop where
 pe : PI X tg iter (liftI X.K g f)
noncomputable def iV (f : DE) : DA := fun s => (f s).bind fun x => match x.1 with
 | .lst ds => some (ds, x.2)
 | .tup ds => some (ds, x.2)
 | _ => none
noncomputable def fM (f : DA) : DA := fun s => (f s).bind fun x => (O6 x.1).map fun ds => (ds, x.2)
section
variable {X : Cx} {g : Gh} {tg iter : Expr} {f : DE}
theorem tu {t t' : TI} (h : PI X tg iter t) (w : ∀ σ H R, t' σ H R → t σ H R) : PI X tg iter t' := fun pins s σ H R I q => h pins s σ H R I (w σ H R q)
theorem IO.w {f : DA} {t : TI} (h : PI X tg iter t) (w : ∀ σ H R, liftI X.K g f σ H R → t σ H R) : IO X g tg iter f := ⟨tu h w⟩
theorem rB (h : EO X g iter f) : IO X g tg iter (iV f) := IO.w (gH h.pe) fun σ H R hQ => by
 refine hQ.elim fun fa O s ds s' I e hz k => ?_
 refine k4 e fun d s1 h1 h2 => ?_
 refine ⟨fa, O, s, d, s1, I, h1, fun v H1 f1 O1 a1 I1 r => ?_⟩
 cases d with
 | lst es =>
  cases h2
  simp only [Rep] at r
  obtain ⟨a, xs, rfl, na, q, w⟩ := r
  refine ⟨a, rfl, .inl ⟨⟨xs, SqL.of q⟩, k _ H1 f1 O1 a1 I1 fun N' fa' H' c _ i => ⟨fun d hd => ?_, fun hl => ?_⟩⟩⟩
  ·obtain ⟨x, hx, rx⟩ := Reps.get w hd
   have q' := (c.ls a xs na q).1
   refine ⟨⟨xs, x, SqL.of q', hx⟩, fun y H'' hy => ?_⟩
   obtain ⟨e1, e2⟩ := hy
   have := e2 xs (SqL.of q')
   rw [hx] at this; cases this
   exact ⟨e1, Rep.go c d x rx⟩
  ·exact ⟨xs, SqL.of (c.ls a xs na q).1, by rw [w.length]; exact hl⟩
 | tup es =>
  cases h2
  simp only [Rep] at r
  obtain ⟨a, xs, rfl, q, w⟩ := r
  refine ⟨a, rfl, .inr ⟨⟨xs, q⟩, k _ H1 f1 O1 a1 I1 fun N' fa' H' c _ i => ⟨fun d hd => ?_, fun hl => ?_⟩⟩⟩
  ·obtain ⟨x, hx, rx⟩ := Reps.get w hd
   have q' := c.tp a xs q
   refine ⟨⟨xs, x, q', hx⟩, fun y H'' hy => ?_⟩
   obtain ⟨e1, e2⟩ := hy
   have := e2 xs q'
   rw [hx] at this; cases this
   exact ⟨e1, Rep.go c d x rx⟩
  ·exact ⟨xs, c.tp a xs q, by rw [w.length]; exact hl⟩
 | _ => cases h2
theorem uI {K : PySem.W.Frag} {N : Addr → Prop} {fa : Option Addr} {H1 : Hp} (lo : Int) (n : Nat) : aK K N fa H1 (N5 lo n) (B5 lo n) := fun N' fa' H' c _ i => ⟨fun d hd => by
 have hi : i < n := by have := (List.getElem?_eq_some_iff.mp hd).1; rwa [V3] at this
 rw [cS hi] at hd
 cases hd
 refine ⟨hi, fun x H'' hy => ?_⟩
 obtain ⟨e1, e2⟩ := hy
 subst e2
 exact ⟨e1, by simp only [Rep]⟩, fun hl => by rw [V3] at hl; exact hl⟩
theorem rb {a : Expr} {fa : DE} {p cpos : Pos} (hgl : Gl X "range") (hm : X.mg "range" = none) (ha : EO X g a fa) (hs1 : starEach [a] X.env = [(false, eval a X.env)] := by rfl) :
  IO X g tg (.Call (.Name "range" p) [a] [] cpos) (fM (a0 fa a6)) := IO.w (gN hgl hm (aW ha cL hs1).pe hs1) fun σ H R hQ => by
 refine hQ.elim fun fa O s es s' I q hz k => ?_
 refine k4 q fun ds s1 h1 h2 => ?_
 refine D8 h2 fun es' h3 h4 => ?_
 cases h4
 obtain ⟨d, s2, rs, e1, e2, e3⟩ := W0 h1
 cases e2
 obtain ⟨j, rfl, j1, j2, rfl⟩ := gz h3 e3
 refine ⟨fa, O, s, ds, _, I, h1, fun vs H1 f1 O1 a1 I1 r => ?_⟩
 rw [e3] at r
 simp only [Reps, Rep] at r
 obtain ⟨x, ys, rfl, rfl, rfl⟩ := r
 exact ⟨j, rfl, j1, j2, k _ H1 f1 O1 a1 I1 (uI 0 j.toNat)⟩
end
noncomputable def R6 (sl : List Sl) (i : Nat) : Sl := match sl[i]? with
 | some (Sl.val d) => Sl.val d
 | _ => Sl.no
noncomputable def N7 (idx : List Nat) (sl : List Sl) : List Sl := idx.map (R6 sl)
noncomputable def D9 (mk : D → Option (List Sl)) (fc : DT) (fe : DE) : List D → Option FS → Option (List D × Option FS)
 | [], fs => some ([], fs)
 | d :: r, fs => (mk d).bind fun sl => (fc ⟨sl, fs⟩).bind fun c => if c.1 = true then (fe c.2).bind fun y => (D9 mk fc fe r y.2.fs).map fun z => (y.1 :: z.1, z.2) else D9 mk fc fe r c.2.fs
noncomputable def Q4 (idx : List Nat) (fi : DA) (fc : DT) (fe : DE) : DA := fun s => (fi s).bind fun x => if x.1.length ≤ sizeLine then (D9 (fun d => some (.val d :: N7 idx x.2.sl)) fc fe x.1 x.2.fs).map fun y => (y.1, { x.2 with fs := y.2 }) else none
noncomputable def FF (g : Gh) (fa : Option Addr) (O : List Addr) (p : Addr) : Addr → Prop := fun b => NN g.F fa O b ∨ b = p
structure CI (K : PySem.W.Frag) (g : Gh) (f1 : Option Addr) (O1 : List Addr) (Hd : Hp) (p : Addr) (fa : Option Addr) (H : Hp) (ys : List V) (res : List D) (fs : Option FS) : Prop where
 st : Stp f1 [p] Hd fa [p] H
 ls : H p = some (.lst ys)
 rs : Reps K (FF g fa O1 p) fa H res ys
 fd : FeedR (FF g fa O1 p) H fa fs
 nf : fa ≠ some p
section
variable {K : PySem.W.Frag} {g : Gh} {f1 fa fa' : Option Addr} {O1 : List Addr} {Hd H H' : Hp} {p : Addr} {ys : List V} {res : List D} {fs : Option FS}
theorem CI.nofa (c : CI K g f1 O1 Hd p fa H ys res fs) : fa ≠ some p := c.nf
theorem mK (h0 : ∀ xs, fa ≠ none → ∀ a, fa = some a → ¬ Rd H a (.tup xs)) (hfz : ∀ a, fa = some a → ∀ o u, ¬ H a = some (.frz o u)) (a : StE fa [] H fa' [] H') : Car K (FF g fa O1 p) fa H (FF g fa' O1 p) fa' H' := by
 refine ⟨fun b xs n q => ⟨a.same b _ q fun z => n (.inl (.inr (.inr z))), fun z => ?_⟩, fun b xs q => ?_, fun b xs q => ?_, fun x e => a.stp.fa_keep e⟩
 ·rcases z with (z | z | z) | z
  ·exact n (.inl (.inl z))
  ·exact n (.inl (.inr (.inl z)))
  ·rcases a.fe with e | ⟨e, h⟩
   ·exact n (.inl (.inr (.inr (e ▸ z))))
   ·rw [h b z] at q; cases q
  ·exact n (.inr z)
 ·refine SqT.stp' a.stp (fun x e ys => h0 ys (by rw [e]; simp) x e) (fun x hx => by cases hx) q
 ·cases xs with
  | inl xs => exact q.imp (fun ⟨o, q⟩ => ⟨o, a.same _ _ q fun z => hfz b z _ _ q⟩) id
  | inr p => exact a.same _ _ q fun z => hfz b z _ _ q
theorem nQ {N : Addr → Prop} (h : FeedR N H fa fs) : ∀ xs, fa ≠ none → ∀ a, fa = some a → ¬ Rd H a (.tup xs) := fun xs _ a e z => h.no_tup e z
theorem CI.step (c : CI K g f1 O1 Hd p fa H ys res fs) (a : StE fa [] H fa' [] H') {g' : Gh} {σ : L2.St} {s' : DS} (hF : ∀ b, FF g fa' O1 p b → NN g'.F fa' [] b) (I : GI K g' σ H' fa' [] s') : CI K g f1 O1 Hd p fa' H' ys res s'.fs := by
 have cr : Car K (FF g fa O1 p) fa H (FF g fa' O1 p) fa' H' := mK (nQ c.fd) (fun x e o u => c.fd.no_frz e) a
 refine ⟨c.st.trans ⟨fun b hb => .inl hb, a.fe, fun b u e _ n => a.same b u e n, a.mon⟩, a.same p _ c.ls c.nofa, Reps.go cr _ _ c.rs, I.fd.car (K := K) ⟨fun b xs n q => ⟨q, fun z => n (hF b z)⟩, fun _ _ q => q, fun _ _ q => q, fun _ q => q⟩ fun _ _ => rfl, fun z => ?_⟩
 rcases a.fe with y | ⟨_, y⟩
 ·rw [y] at z; exact c.nf z
 ·have := c.ls; rw [y p z] at this; cases this
theorem CI.app (c : CI K g f1 O1 Hd p fa H ys res fs) {N : Addr → Prop} {d : D} {v : V} (hF : ∀ b, FF g fa O1 p b → N b) (r : Rep K N fa H d v) : CI K g f1 O1 Hd p fa (e7 H p (.lst (ys ++ [v]))) (ys ++ [v]) (res ++ [d]) fs := by
 have cr : Car K (FF g fa O1 p) fa H (FF g fa O1 p) fa (e7 H p (.lst (ys ++ [v]))) := by
  refine ⟨fun b xs n q => ⟨by rw [i5 (fun z => n (.inr z))]; exact q, n⟩, fun b xs q => ?_, fun b xs q => ?_, fun _ q => q⟩
  ·rcases q with (q | ⟨o, q⟩) | q
   ·exact .inl (.inl (by rw [i5 (fun z => by rw [z, c.ls] at q; cases q)]; exact q))
   ·exact .inl (.inr ⟨o, by rw [i5 (fun z => by rw [z, c.ls] at q; cases q)]; exact q⟩)
   ·exact .inr q
  ·have fz : ∀ o u, H b = some (.frz o u) → e7 H p (.lst (ys ++ [v])) b = some (.frz o u) := fun o u q => by rw [i5 (fun z => by rw [z, c.ls] at q; cases q)]; exact q
   cases xs with
   | inl xs => exact q.imp (fun ⟨o, q⟩ => ⟨o, fz _ _ q⟩) id
   | inr p => exact fz _ _ q
 have c0 : Car K N fa H (FF g fa O1 p) fa H := ⟨fun b xs n q => ⟨q, fun z => n (hF b z)⟩, fun _ _ q => q, fun _ _ q => q, fun _ q => q⟩
 refine ⟨c.st.trans ⟨fun b hb => .inl hb, .inl rfl, fun b u e n _ => by rw [i5 (fun z => n (by simp [z]))]; exact e, fun b z => ?_⟩, r8, ?_, c.fd.car cr fun a e => i5 fun z => c.nofa (z ▸ e), c.nf⟩
 ·by_cases hb : b = p
  ·subst hb; rw [r8] at z; cases z
  ·rw [i5 hb] at z; exact z
 ·exact Reps.append (Reps.go cr _ _ c.rs) (Reps.one (Rep.go cr _ _ (Rep.go c0 _ _ r)))
end
section
variable {X : Cx} {g : Gh} {scope : Scope} {cl : List (Str × Addr)} {N' : List Str} {idx : List Nat} {iter elt tg : Expr} {ifs : List Expr} {pos : Pos} {fi : DA} {fc : DT} {fe : DE}
noncomputable def gJ (X : Cx) (g : Gh) (ifs : List Expr) (f : DT) : Prop := Z1 X ifs (liftT X.K g f)
noncomputable def W3 : DT := fun s => some (true, s)
theorem gm : gJ X g [] W3 := fun pins s σ H Q I ⟨fa, O, s0, d, s', G, e, k⟩ => rg pins s σ H Q I (by cases e; exact k H fa O StE.refl G)
theorem jh {K : PySem.W.Frag} {N : Addr → Prop} {fa : Option Addr} {H : Hp} {sl : List Sl} {σ : L2.St} {O : List Addr} (h : SlR K N fa H sl σ O) : ∀ idx : List Nat, SlR K N fa H (N7 idx sl) (idx.map fun i => (σ[i]?).join) []
 | [] => by simp [N7, SlR]
 | i :: r => by
  have ih := jh h r
  have go : ∀ e : sl[i]? = none ∨ (∃ z, sl[i]? = some z ∧ ∀ d, z ≠ .val d), R6 sl i = .no := fun e => by
   unfold R6
   rcases e with e | ⟨z, e, n⟩
   ·rw [e]
   ·rw [e]
    cases z with
    | val d => exact absurd rfl (n d)
    | no => rfl
    | own ds => rfl
  show SlR K N fa H (R6 sl i :: N7 r sl) ((σ[i]?).join :: r.map fun i => (σ[i]?).join) []
  cases e : sl[i]? with
  | none =>
   rw [go (.inl e)]
   simp only [SlR]
   exact ⟨_, _, rfl, ih⟩
  | some z =>
   cases z with
   | no =>
    rw [go (.inr ⟨_, e, fun d z => by cases z⟩)]
    simp only [SlR]
    exact ⟨_, _, rfl, ih⟩
   | own ds =>
    rw [go (.inr ⟨_, e, fun d z => by cases z⟩)]
    simp only [SlR]
    exact ⟨_, _, rfl, ih⟩
   | val d =>
    obtain ⟨u, e1, q⟩ := SlR.val h e
    have ec : R6 sl i = .val d := by unfold R6; rw [e]
    rw [ec]
    simp only [SlR]
    exact ⟨u, _, by rw [e1]; rfl, q, ih⟩
noncomputable def qU (mk : List Sl → D → Option (List Sl)) (fi : DA) (fc : DT) (fe : DE) : DA := fun s => (fi s).bind fun x => if x.1.length ≤ sizeLine then (D9 (mk x.2.sl) fc fe x.1 x.2.fs).map fun y => (y.1, { x.2 with fs := y.2 }) else none
theorem pA {n : Nat} {G : TG} {mk : List Sl → D → Option (List Sl)} (hG : ∀ (N : Addr → Prop) (fa : Option Addr) (sl : List Sl) (d : D) (sl0 : List Sl) (x : V) (σ : L2.St) (H : Hp) (Q : L2.St → Hp → Prop), mk sl d = some sl0 → Rep X.K N fa H d x → SlR X.K N fa H (N7 idx sl) (idx.map fun i => (σ[i]?).join) [] →
  (∀ σ' : L2.St, (σ'.length = (w4 n idx σ).length ∧ ∀ (j : Nat) (v : V), (w4 n idx σ)[j]? = some (some v) → σ'[j]? = some (some v)) → SlR X.K N fa H sl0 σ' [] → Q σ' H) → G x (w4 n idx σ) H Q) : ∀ σ H Q, liftF X.K g (qU mk fi fc fe) σ H Q → Z7 n idx (liftI X.K g fi) G (fun σ H Q => ∃ g', liftT X.K g' fc σ H Q) (fun σ H Q => ∃ g', liftE X.K g' fe σ H Q) σ H Q := by
 intro σ H Q ⟨fa, O, s, res, s', I, e, kk⟩
 refine k4 e fun ds s1 h1 h2 => ?_
 by_cases hz : ds.length ≤ sizeLine
 ·simp only [if_pos hz] at h2
  refine mapP h2 fun out fsf h3 h4 => ?_
  simp only [Prod.mk.injEq] at h4
  obtain ⟨e1, e2⟩ := h4
  subst e1; subst e2
  refine ⟨fa, O, s, ds, s1, I, h1, hz, fun J H1 f1 O1 a1 I1 J1 p hp => ?_⟩
  have stE : ∀ {fa' : Option Addr} {H' : Hp}, Stp f1 [p] (e7 H1 p (.lst [])) fa' [p] H' → StE f1 O1 H1 fa' O1 H' := fun {fa' H'} a => by
   refine ⟨fun _ h => h, ?_, fun b u e n => ?_, fun b z => (v3 (fa := f1) (O := O1) hp).mon b (a.mon b z)⟩
   ·rcases a.fe with e | ⟨e, h⟩
    ·exact .inl e
    ·exact .inr ⟨e, fun x z => (v3 (fa := f1) (O := O1) hp).mon x (h x z)⟩
   ·have nb : b ≠ p := t7 e hp
    exact a.same b u (by rw [i5 nb]; exact e) (by simp [nb]) n
  have carP : ∀ {fa' : Option Addr} {H' : Hp}, Stp f1 [p] (e7 H1 p (.lst [])) fa' [p] H' → Car X.K (NN g.F f1 O1) f1 H1 (FF g fa' O1 p) fa' H' := fun {fa' H'} a => by
   have c := I1.car (stE a).stp
   refine ⟨fun b xs n q => ?_, c.tp, c.fz, c.fe⟩
   obtain ⟨q', n'⟩ := c.ls b xs n q
   refine ⟨q', ?_⟩
   rintro (z | z)
   ·exact n' z
   ·subst z; rw [hp] at q; cases q
  refine ⟨fun i m H' => m = ds.length - i ∧ i ≤ ds.length ∧ ∃ fa' ys res' rest fs', CI X.K g f1 O1 (e7 H1 p (.lst [])) p fa' H' ys res' fs' ∧ D9 (mk s1.sl) fc fe (ds.drop i) fs' = some (rest, fsf) ∧ res' ++ rest = out ∧ ys.length ≤ i, ?_, ?_⟩
  ·refine ⟨ds.length, by simp, Nat.zero_le _, f1, [], [], out, s1.fs, ⟨Stp.refl, r8, Reps.nil, ?_, fun z => I1.fd.tracked z hp⟩, by simpa using h3, rfl, Nat.le_refl _⟩
   exact I1.fd.car (W8 I1 hp) (I1.fd.same_new hp)
  ·rintro i m H' ⟨rfl, hil, fa', ys, res', rest, fs', c, hd, ho, hy⟩
   have Hcar := carP c.st
   obtain ⟨jgo, jstop⟩ := J1 _ _ _ Hcar (fun b u e n => (stE c.st).same b u e n) i
   by_cases hlt : i < ds.length
   ·have hdi : ds[i]? = some ds[i] := List.getElem?_eq_getElem hlt
    obtain ⟨go, yl⟩ := jgo _ hdi
    refine .inr ⟨go, fun x H'' hx => ?_⟩
    obtain ⟨e1, rx⟩ := yl x H'' hx
    subst e1
    rw [eB hdi, D9] at hd
    refine R9 hd fun sl0 hm hd => ?_
    refine k4 hd fun b sb h5 h6 => ?_
    have hNN : ∀ b, NN (FF g fa' O1 p) fa' [] b → FF g fa' O1 p b := fun b z => by
     rcases z with z | z | z
     ·exact z
     ·cases z
     ·exact .inl (.inr (.inr z))
    have cN : Car X.K (FF g fa' O1 p) fa' H'' (NN (FF g fa' O1 p) fa' []) fa' H'' := ⟨fun b xs n q => ⟨q, fun z => n (hNN b z)⟩, fun _ _ q => q, fun _ _ q => q, fun _ q => q⟩
    have Q1 : ∀ b, FF g fa' O1 p b → H'' b ≠ none := fun b z => by
     rcases z with (z | z | z) | z
     ·exact fun w => I1.trF z ((stE c.st).mon b w)
     ·obtain ⟨xs, e⟩ := I1.owned z
      exact fun w => by have := (stE c.st).mon b w; rw [e] at this; cases this
     ·exact c.fd.tracked z
     ·rw [z, c.ls]; simp
    refine hG (NN (FF g fa' O1 p) fa' []) fa' s1.sl ds[i] sl0 x σ H'' _ hm (Rep.go cN _ _ rx) (SlR.go cN (fun a xs ha => by cases ha) (jh (SlR.go Hcar (fun a xs ha e => (stE c.st).same a _ e fun z => I1.nf a z ha) I1.sl) idx)) fun σ1 hσ hsl => ⟨hσ, ?_⟩
    have G0 : GI X.K ⟨FF g fa' O1 p, H'', fa', fun _ => E0⟩ σ1 H'' fa' [] ⟨sl0, fs'⟩ := ⟨List.nodup_nil, hsl, fun b hb => (by cases hb), Stp.refl, Q1, fun a ha => .inl (.inr (.inr ha)), c.fd.car cN fun _ _ => rfl, fun _ _ z => (by cases z)⟩
    refine ⟨⟨FF g fa' O1 p, H'', fa', fun _ => E0⟩, fa', [], _, b, sb, G0, h5, fun H3 f3 O3 a3 I3 => ?_⟩
    have eO : O3 = [] := List.eq_nil_iff_forall_not_mem.mpr fun z hz => by have := a3.sub z hz; cases this
    subst eO
    have hF3 : ∀ b, FF g f3 O1 p b → NN (FF g fa' O1 p) f3 [] b := fun b z => by
     rcases z with (z | z | z) | z
     ·exact .inl (.inl (.inl z))
     ·exact .inl (.inl (.inr (.inl z)))
     ·exact .inr (.inr z)
     ·exact .inl (.inr z)
    have c3 := c.step a3 hF3 I3
    cases b with
    | false =>
     rw [if_neg Bool.false_ne_true] at h6
     refine kU ?_
     exact ⟨ds.length - (i + 1), by omega, rfl, hlt, f3, ys, res', rest, sb.fs, c3, h6, ho, Nat.le_succ_of_le hy⟩
    | true =>
     rw [if_pos rfl] at h6
     refine lj ?_
     refine k4 h6 fun dd sd h7 h8 => ?_
     refine mapP h8 fun rest2 fs2 h9 h10 => ?_
     simp only [Prod.mk.injEq] at h10
     refine ⟨⟨FF g fa' O1 p, H'', fa', fun _ => E0⟩, f3, [], sb, dd, sd, I3, h7, fun v H4 f4 O4 a4 I4 r4 => ?_⟩
     have eO : O4 = [] := List.eq_nil_iff_forall_not_mem.mpr fun z hz => by have := a4.sub z hz; cases this
     subst eO
     have hF4 : ∀ b, FF g f4 O1 p b → NN (FF g fa' O1 p) f4 [] b := fun b z => by
      rcases z with (z | z | z) | z
      ·exact .inl (.inl (.inl z))
      ·exact .inl (.inl (.inr (.inl z)))
      ·exact .inr (.inr z)
      ·exact .inl (.inr z)
     have c4 := c3.step a4 hF4 I4
     refine ⟨ys, c4.ls, by omega, ds.length - (i + 1), by omega, rfl, hlt, f4, ys ++ [v], res' ++ [dd], rest2, sd.fs, c4.app hF4 r4, by rw [h9, h10.2], ?_, by simp; omega⟩
     rw [← ho, ← h10.1]; simp
   ·refine .inl ⟨jstop (Nat.le_of_not_lt hlt), ?_⟩
    rw [List.drop_eq_nil_of_le (Nat.le_of_not_lt hlt), D9] at hd
    simp only [Option.some.injEq, Prod.mk.injEq] at hd
    obtain ⟨hd1, hd2⟩ := hd
    subst hd1; subst hd2
    rw [List.append_nil] at ho
    subst ho
    have aE := stE c.st
    have car1 := I1.car aE.stp
    have sameO : ∀ a xs, a ∈ O1 → H1 a = some (.lst xs) → H' a = some (.lst xs) := fun a xs ha e => aE.same a _ e fun z => I1.nf a z ha
    refine kk p ys H' fa' O1 (a1.trans aE) ⟨⟨I1.nd, SlR.go car1 sameO I1.sl, I1.fr, I1.st.trans ⟨fun b hb => (by cases hb), aE.fe, fun b u e _ n => aE.same b u e n, aE.mon⟩, I1.tr, I1.ff, ?_, I1.nf_step aE.fe⟩, c.ls, SlR.go Hcar sameO I1.sl, c.fd, c.rs, c.nf⟩ (a1.mon p hp)
    exact c.fd.car (K := X.K) ⟨fun b xs n q => ⟨q, fun z => n (.inl z)⟩, fun _ _ q => q, fun _ _ q => q, fun _ q => q⟩ fun _ _ => rfl
 ·simp only [if_neg hz] at h2; cases h2
theorem jP (k : CompOk X scope cl N' 1 idx) : ∀ σ H Q, liftF X.K g (Q4 idx fi fc fe) σ H Q → Z7 1 idx (liftI X.K g fi) (V6 0) (fun σ H Q => ∃ g', liftT X.K g' fc σ H Q) (fun σ H Q => ∃ g', liftE X.K g' fe σ H Q) σ H Q :=
 pA (mk := fun sl d => some (.val d :: N7 idx sl)) fun N fa sl d sl0 x σ H Q hm rx hc kk => by
  cases hm
  refine kk _ ⟨by simp, fun j v hj => ?_⟩ ?_
  ·cases j with
   | zero => simp [w4] at hj
   | succ j => rw [List.getElem?_set_ne (by simp)]; exact hj
  ·have eb : (w4 1 idx σ).set 0 (some x) = some x :: idx.map fun i => (σ[i]?).join := by simp [w4]
   rw [eb]
   simp only [SlR]
   exact ⟨x, _, rfl, rx, hc⟩
theorem fu (hc : X.calm = true) (k : CompOk X scope cl N' 1 idx) (hi : IO X g tg iter fi) (hg : ∀ C s0 H0 ex, PG (v5 X N' scope cl C s0 H0 ex) tg (V6 0))
  (ht : ∀ C s0 H0 ex g', gJ (v5 X N' scope cl C s0 H0 ex) g' ifs fc) (he : ∀ C s0 H0 ex g', EO (v5 X N' scope cl C s0 H0 ex) g' elt fe) (hs : ∀ x, foldedSetIterable iter X.env x = pure x := by intro _; rfl) :
  FO X g (.ListComp elt [⟨tg, iter, ifs, 0⟩] scope pos) (Q4 idx fi fc fe) := by
 exact FO.w (rq (tc := fun σ H Q => ∃ g', liftT X.K g' fc σ H Q) (te := fun σ H Q => ∃ g', liftE X.K g' fe σ H Q) hc k hi.pe hg (fun C s0 H0 ex pins s σ H Q I ⟨g', h⟩ => ht C s0 H0 ex g' pins s σ H Q I h) (fun C s0 H0 ex pins s σ H Q I ⟨g', h⟩ => (he C s0 H0 ex g').pe pins s σ H Q I h) hs) (jP k)
end
end DL
namespace HT2
open PySem PyProof.Rows
theorem cat_tup0 {prog : Program} {w : World} {A : Around} {E : Value → Shared → Prop} {s : Shared} {t b : Addr} {ws : List Value} {Q : Value → Shared → Prop} (ht : IsTup s.heap t ([] : List Value).toArray) (hb : IsTup s.heap b ws.toArray)
  (h : Q (.ref b) s) : wpAny (model prog w) A (binaryOp .Add (.ref t) (.ref b)) Q E s := by
 obtain ⟨⟨cls, dd, data, sl⟩, ho, hc, n, hd⟩ := id ht
 obtain ⟨⟨cls2, dd2, data2, sl2⟩, ho2, hc2, n2, hd2⟩ := id hb
 simp only at hc hd hc2 hd2
 subst hc hd hc2 hd2
 exact concat_meets ⟨_, ho, rfl⟩ ⟨_, ho2, rfl⟩ noFill_tuple_add seq_tuple_add PySem.F.slot_tuple_add PySem.F.entry_tuple_add (PySem.F.args_tuple_add_2 _ _)
  (tuple_addW0 t b _ ws.toArray n n2 dd dd2 sl sl2 (by simp)) ⟨ho, ho2, h⟩
end HT2
namespace DL
open PySem PySem.Spec L2
noncomputable def n5 (i : Int) : Bool := decide (i.natAbs.log2 < 1000000)
theorem eZ {i : Int} (h : n5 i = true) : Builtin.Int.intBits i ≤ 2 ^ 20 := by
 have h1 : i.natAbs.log2 < 1000000 := of_decide_eq_true h
 unfold Builtin.Int.intBits
 split
 ·exact Nat.zero_le _
 ·have e : (2 : Nat) ^ 20 = 1048576 := by decide
  rw [e]; omega
noncomputable def A8 (j : Int) : Bool := decide (j ≠ 0) && decide (j.natAbs.log2 < 9000)
section
variable {X : Cx}
theorem op_mulB : OpR X (binaryOp .Mult) (rI (fun i j => n5 i = true ∧ n5 j = true) fun i j => .int (i * j)) := ag fun _ _ _ _ _ _ _ hc q => PyProof.Rows.mul_int q (IntMulOk.of_bits (eZ hc.1) (eZ hc.2))
theorem tV : OpR X (binaryOp .FloorDiv) (rI (fun _ j => A8 j = true) fun i j => .int (i.fdiv j)) := ag fun i j _ _ _ _ _ hc q => by
 have hc' : A8 j = true := hc
 unfold A8 at hc'
 rw [Bool.and_eq_true] at hc'
 exact PyProof.Rows.floordiv_int (of_decide_eq_true hc'.1) q (.inl (PyProof.noPylong_of_log2 (of_decide_eq_true hc'.2)))
noncomputable def gG (K : PySem.W.Frag) : R2 := fun x y H Q => ∃ a b ys, x = .ref a ∧ y = .ref b ∧ SqT K H a [] ∧ SqT K H b ys ∧ Q (.ref b) H
theorem op_catT0 : OpR X (binaryOp .Add) (gG X.K) := by
 intro pins s σ H x y v u Q I rx ry h
 obtain ⟨a, b, ys, rfl, rfl, ha, hb, q⟩ := h
 cases rx
 cases ry
 obtain ⟨its, r1, ht, _⟩ := I.tuple ha
 obtain ⟨its2, r2, ht2, _⟩ := I.tuple hb
 cases r1
 exact HT2.cat_tup0 ht ht2 ⟨.ref b, H, I, rfl, q⟩
noncomputable def gw (K : PySem.W.Frag) : R2 := fun x y H Q => (D6 (fun i j => .int (i + j)) x y H Q ∨ (∃ i j, x = .str i ∧ y = .str j ∧ i.length + j.length ≤ sizeLine ∧ Q (.str (i ++ j)) H)) ∨ ((gG K x y H Q ∨ fD K x y H Q) ∨ eN x y H Q)
theorem mH : OpR X (binaryOp .Add) (gw X.K) := (op_add.or oi).or ((op_catT0.or tq).or nJ)
noncomputable def jf : R2 := fun x y H Q => rI (fun i j => n5 i = true ∧ n5 j = true) (fun i j => .int (i * j)) x y H Q ∨ gr x y H Q
theorem pM : OpR X (binaryOp .Mult) jf := op_mulB.or qJ
end
noncomputable def l7 : D → D → Option D
 | .int i, .int j => some (.int (i + j))
 | .str x, .str y => if x.length + y.length ≤ sizeLine then some (.str (x ++ y)) else none
 | .tup xs, .tup ys => if xs.length + ys.length ≤ sizeLine then some (.tup (xs ++ ys)) else none
 | .lst xs, .lst ys => if xs.length + ys.length ≤ sizeLine then some (.lst (xs ++ ys)) else none
 | _, _ => none
noncomputable def t6 : D → D → Option D
 | .int i, .int j => some (.int (i - j))
 | _, _ => none
noncomputable def j5 : D → D → Option D
 | .int i, .int j => if n5 i && n5 j then some (.int (i * j)) else none
 | .lst xs, .int k => if -(2 ^ 63) ≤ k ∧ k < 2 ^ 63 ∧ xs.length * k.toNat ≤ sizeLine then some (.lst (List.replicate k.toNat xs).flatten) else none
 | _, _ => none
noncomputable def A6 : D → D → Option D
 | .int i, .int j => if A8 j then some (.int (i.fdiv j)) else none
 | _, _ => none
noncomputable def v8 : D → D → Option D
 | .int i, .int j => if j ≠ 0 then some (.int (i.fmod j)) else none
 | _, _ => none
noncomputable def S4 : D → D → Option D
 | .int i, .int j => if 0 ≤ j ∧ j ≤ 1000000 ∧ i.natAbs < 2 ^ 64 then some (.int (i ^ j.toNat)) else none
 | _, _ => none
noncomputable def j8 : D → Option D
 | .int i => some (.int (-i))
 | _ => none
noncomputable def j3 (p : Int → Int → Bool) : D → D → Option D
 | .int i, .int j => some (.bl (p i j))
 | _, _ => none
theorem iG {K : PySem.W.Frag} {N : Addr → Prop} {fa : Option Addr} {H : Hp} {ds : List D} {xs : List V} (r : Reps K N fa H ds xs) : xs = [] ↔ ds = [] := by
 have := r.length
 cases xs <;> cases ds <;> simp_all
theorem Reps.flat {K : PySem.W.Frag} {N : Addr → Prop} {fa : Option Addr} {H : Hp} {ds : List D} {xs : List V} (r : Reps K N fa H ds xs) : ∀ k : Nat, Reps K N fa H (List.replicate k ds).flatten (List.replicate k xs).flatten
 | 0 => by simp [Reps]
 | k + 1 => by
  simp only [List.replicate_succ, List.flatten_cons]
  exact Reps.append r (Reps.flat r k)
section
variable {K : PySem.W.Frag}
theorem pN : w9 K (gw K) l7 := by
 intro g σ H fa O s x y d1 d2 d Q I r1 r2 e k
 cases d1 with
 | int i =>
  cases d2 with
  | int j =>
   cases e
   simp only [RepB, Rep] at r1 r2
   exact .inl (.inl ⟨i, j, r1, r2, k _ H StE.refl I (by simp only [Rep])⟩)
  | _ => cases e
 | str a =>
  cases d2 with
  | str b =>
   have e : (if a.length + b.length ≤ sizeLine then some (D.str (a ++ b)) else none) = some d := e
   by_cases h : a.length + b.length ≤ sizeLine
   ·rw [if_pos h] at e
    cases e
    simp only [RepB, Rep] at r1 r2
    refine .inl (.inr ⟨a, b, r1.1, r2.1, h, k _ H StE.refl I ?_⟩)
    simp only [Rep]
    exact ⟨trivial, by rw [strLen_append]; exact h⟩
   ·rw [if_neg h] at e; cases e
  | _ => cases e
 | tup as =>
  cases d2 with
  | tup bs =>
   have e : (if as.length + bs.length ≤ sizeLine then some (D.tup (as ++ bs)) else none) = some d := e
   by_cases h : as.length + bs.length ≤ sizeLine
   ·rw [if_pos h] at e
    cases e
    simp only [RepB, Rep] at r1 r2
    obtain ⟨a, xs, rfl, qa, wa⟩ := r1
    obtain ⟨b, ys, rfl, qb, wb⟩ := r2
    by_cases hx : xs = []
    ·have ha := (iG wa).mp hx
     subst hx; subst ha
     refine .inr (.inl (.inl ⟨a, b, ys, rfl, rfl, qa, qb, k _ H StE.refl I ?_⟩))
     simp only [Rep, List.nil_append]
     exact ⟨b, ys, rfl, qb, wb⟩
    ·refine .inr (.inl (.inr ⟨a, b, xs, ys, rfl, rfl, qa, qb, hx, by rw [wa.length, wb.length]; exact h, fun hy => ?_, fun hy p hp => ?_⟩))
     ·have hb := (iG wb).mp hy
      subst hy; subst hb
      refine k _ H StE.refl I ?_
      simp only [Rep, List.append_nil]
      exact ⟨a, xs, rfl, qa, wa⟩
     ·have a2 : StE fa O H fa O (e7 H p (.tup (xs ++ ys))) := v3 hp
      refine k _ _ a2 (I.new hp) ?_
      simp only [Rep]
      exact ⟨p, _, rfl, SqT.of r8, Reps.stp I a2.stp (Reps.append wa wb)⟩
   ·rw [if_neg h] at e; cases e
  | _ => cases e
 | lst as =>
  cases d2 with
  | lst bs =>
   have e : (if as.length + bs.length ≤ sizeLine then some (D.lst (as ++ bs)) else none) = some d := e
   by_cases h : as.length + bs.length ≤ sizeLine
   ·rw [if_pos h] at e
    cases e
    obtain ⟨a, xs, rfl, _, qa, wa⟩ := r1
    obtain ⟨b, ys, rfl, _, qb, wb⟩ := r2
    refine .inr (.inr ⟨a, b, xs, ys, rfl, rfl, qa, qb, by rw [wa.length, wb.length]; exact h, fun p hp => ?_⟩)
    have a2 : StE fa O H fa O (e7 H p (.lst (xs ++ ys))) := v3 hp
    have L := R4 I hp (Reps.append wa wb)
    refine k _ _ a2 L.gi ?_
    simp only [Rep]
    exact ⟨p, _, rfl, Y4 I a2 L.gi hp L.nf, r8, Reps.stp I a2.stp (Reps.append wa wb)⟩
   ·rw [if_neg h] at e; cases e
  | _ => cases e
 | _ => cases e
theorem cW {C : Int → Int → Prop} {f : Int → Int → D} {f' : Int → Int → V} {p : D → D → Option D} (hp : ∀ d1 d2 d, p d1 d2 = some d → ∃ i j, d1 = .int i ∧ d2 = .int j ∧ C i j ∧ d = f i j) (hf : ∀ N fa H i j, Rep K N fa H (f i j) (f' i j)) : w9 K (rI C f') p := by
 intro g σ H fa O s x y d1 d2 d Q I r1 r2 e k
 obtain ⟨i, j, rfl, rfl, c, rfl⟩ := hp d1 d2 d e
 simp only [RepB, Rep] at r1 r2
 exact ⟨i, j, r1, r2, c, k _ H StE.refl I (hf _ _ _ _ _)⟩
theorem fY {f : Int → Int → D} {f' : Int → Int → V} {p : D → D → Option D} (hp : ∀ d1 d2 d, p d1 d2 = some d → ∃ i j, d1 = .int i ∧ d2 = .int j ∧ d = f i j) (hf : ∀ N fa H i j, Rep K N fa H (f i j) (f' i j)) : w9 K (D6 f') p := by
 intro g σ H fa O s x y d1 d2 d Q I r1 r2 e k
 obtain ⟨i, j, rfl, rfl, rfl⟩ := hp d1 d2 d e
 simp only [RepB, Rep] at r1 r2
 exact ⟨i, j, r1, r2, k _ H StE.refl I (hf _ _ _ _ _)⟩
noncomputable def dq (F : Int → Int → Option D) : D → D → Option D
 | .int i, .int j => F i j
 | _, _ => none
theorem dW {F : Int → Int → Option D} {d1 d2 d : D} (e : dq F d1 d2 = some d) : ∃ i j, d1 = .int i ∧ d2 = .int j ∧ F i j = some d := by
 cases d1 with
 | int i =>
  cases d2 with
  | int j => exact ⟨i, j, rfl, rfl, e⟩
  | _ => cases e
 | _ => cases e
theorem cz {C : Int → Int → Prop} [∀ i j, Decidable (C i j)] {f : Int → Int → D} {d1 d2 d : D} (e : dq (fun i j => if C i j then some (f i j) else none) d1 d2 = some d) : ∃ i j, d1 = .int i ∧ d2 = .int j ∧ C i j ∧ d = f i j := by
 obtain ⟨i, j, h1, h2, h3⟩ := dW e
 by_cases h : C i j
 ·have h3 : (if C i j then some (f i j) else none) = some d := h3
  rw [if_pos h] at h3
  exact ⟨i, j, h1, h2, h, (Option.some.inj h3).symm⟩
 ·have h3 : (if C i j then some (f i j) else none) = some d := h3
  rw [if_neg h] at h3
  cases h3
theorem iQ {f : Int → Int → D} {d1 d2 d : D} (e : dq (fun i j => some (f i j)) d1 d2 = some d) : ∃ i j, d1 = .int i ∧ d2 = .int j ∧ d = f i j := by
 obtain ⟨i, j, h1, h2, h3⟩ := dW e
 exact ⟨i, j, h1, h2, (Option.some.inj h3).symm⟩
theorem lE : w9 K (D6 fun i j => .int (i - j)) t6 := fY (f := fun i j => .int (i - j)) (fun d1 d2 d e => iQ (f := fun i j => .int (i - j)) e) fun _ _ _ _ _ => by simp only [Rep]
theorem tH (p : Int → Int → Bool) : w9 K (D6 fun i j => .bl (p i j)) (j3 p) := fY (f := fun i j => .bl (p i j)) (fun d1 d2 d e => iQ (f := fun i j => .bl (p i j)) e) fun _ _ _ _ _ => by simp only [Rep]
theorem jx : w9 K jf j5 := by
 intro g σ H fa O s x y d1 d2 d Q I r1 r2 e k
 cases d1 with
 | int i =>
  cases d2 with
  | int j =>
   have e : (if n5 i && n5 j then some (D.int (i * j)) else none) = some d := e
   by_cases h : (n5 i && n5 j) = true
   ·rw [if_pos h] at e
    cases e
    rw [Bool.and_eq_true] at h
    simp only [RepB, Rep] at r1 r2
    exact .inl ⟨i, j, r1, r2, h, k _ H StE.refl I (by simp only [Rep])⟩
   ·rw [if_neg h] at e; cases e
  | _ => cases e
 | lst as =>
  cases d2 with
  | int j =>
   simp only [j5] at e
   by_cases h : -(2 ^ 63) ≤ j ∧ j < 2 ^ 63 ∧ as.length * j.toNat ≤ sizeLine
   ·rw [if_pos h] at e
    cases e
    obtain ⟨a, xs, rfl, _, qa, wa⟩ := r1
    simp only [RepB, Rep] at r2
    subst r2
    refine .inr ⟨a, j, xs, rfl, rfl, qa, h.1, h.2.1, by rw [wa.length]; exact h.2.2, fun p hp => ?_⟩
    have a2 : StE fa O H fa O (e7 H p (.lst (List.replicate j.toNat xs).flatten)) := v3 hp
    have L := R4 I hp (wa.flat j.toNat)
    refine k _ _ a2 L.gi ?_
    simp only [Rep]
    exact ⟨p, _, rfl, Y4 I a2 L.gi hp L.nf, r8, Reps.stp I a2.stp (wa.flat j.toNat)⟩
   ·rw [if_neg h] at e; cases e
  | _ => cases e
 | _ => cases e
theorem tG : w9 K (rI (fun _ j => A8 j = true) fun i j => .int (i.fdiv j)) A6 := cW (f := fun i j => .int (i.fdiv j)) (fun d1 d2 d e => cz (C := fun _ j => A8 j = true) (f := fun i j => .int (i.fdiv j)) e) fun _ _ _ _ _ => by simp only [Rep]
theorem lM : w9 K (rI (fun _ j => j ≠ 0) fun i j => .int (i.fmod j)) v8 := cW (f := fun i j => .int (i.fmod j)) (fun d1 d2 d e => cz (C := fun _ j => j ≠ 0) (f := fun i j => .int (i.fmod j)) e) fun _ _ _ _ _ => by simp only [Rep]
theorem mF : w9 K (rI fR fun i j => .int (i ^ j.toNat)) S4 := cW (f := fun i j => .int (i ^ j.toNat)) (fun d1 d2 d e => cz (C := fun i j => 0 ≤ j ∧ j ≤ 1000000 ∧ i.natAbs < 2 ^ 64) (f := fun i j => .int (i ^ j.toNat)) e) fun _ _ _ _ _ => by simp only [Rep]
theorem nh : gf K (rU fun i => .int (-i)) j8 := by
 intro g σ H fa O s x d1 d Q I r1 e k
 cases d1 with
 | int i => cases e; simp only [RepB, Rep] at r1; exact ⟨i, r1, k _ H StE.refl I (by simp only [Rep])⟩
 | _ => cases e
end
section
variable {X : Cx} {pins : List (Addr × Obj)} {σ : L2.St} {H : Hp} {s : Shared} {N : Addr → Prop} {fa : Option Addr}
mutual
theorem M7 (I : Inv X pins σ H s) : ∀ (d : D) (v : V) (u : Value), E8 X.K N fa H d v → RelV v u → d.plain = true → ∃ as, Reads s.heap u d.py as
 | .non, v, u, r, ru, _ => by
  simp only [E8, Rep] at r; subst r; cases ru
  simp only [D.py]; exact ⟨[], .none⟩
 | .bl b, v, u, r, ru, _ => by
  simp only [E8, Rep] at r; subst r; cases ru
  simp only [D.py]; exact ⟨[], .bool b⟩
 | .int i, v, u, r, ru, _ => by
  simp only [E8, Rep] at r; subst r
  obtain ⟨t, rfl⟩ := ru
  simp only [D.py]; exact ⟨[], .int i t⟩
 | .str x, v, u, r, ru, _ => by
  simp only [E8, Rep] at r; obtain ⟨r, _⟩ := r; subst r
  obtain ⟨t, rfl⟩ := ru
  simp only [D.py]; exact ⟨[], .str x t⟩
 | .tup ds, v, u, r, ru, hp => by
  simp only [E8, Rep] at r
  obtain ⟨a, xs, rfl, q, w⟩ := r
  cases ru
  obtain ⟨its, rv, ⟨o, h1, h2, n, h3⟩, _⟩ := I.tuple q
  obtain ⟨as, ra⟩ := cg I ds xs its w rv (by simpa only [D.plain] using hp)
  simp only [D.py]
  exact ⟨as, .tuple h1 h2 h3 (by simpa using ra)⟩
 | .lst ds, v, u, r, ru, hp => by
  obtain ⟨a, xs, rfl, q, w⟩ := r
  cases ru
  obtain ⟨its, rv, ⟨o, n, h1, h2, h3, h4⟩, _⟩ := I.list (SqL.of q)
  obtain ⟨as, ra⟩ := cg I ds xs its w rv (by simpa only [D.plain] using hp)
  simp only [D.py]
  exact ⟨_, .list h1 h2 h4 (by simpa using ra)⟩
 | .feed, v, u, r, ru, hp => by simp only [D.plain] at hp; cases hp
 | .scr _, v, u, r, ru, hp => by simp only [D.plain] at hp; cases hp
 | .fn _, v, u, r, ru, hp => by simp only [D.plain] at hp; cases hp
 | .exc _ _, v, u, r, ru, hp => by simp only [D.plain] at hp; cases hp
theorem cg (I : Inv X pins σ H s) : ∀ (ds : List D) (xs : List V) (us : List Value), Reps X.K N fa H ds xs → Vals xs us → D.plains ds = true → ∃ as, ReadsAll s.heap us (D.pys ds) as
 | [], xs, us, r, ru, _ => by
  simp only [Reps] at r; subst r; cases ru
  simp only [D.pys]; exact ⟨[], .nil⟩
 | d :: ds, xs, us, r, ru, hp => by
  simp only [Reps] at r
  obtain ⟨x, ys, rfl, r1, r2⟩ := r
  cases ru with
  | cons q qs =>
   simp only [D.plains, Bool.and_eq_true] at hp
   obtain ⟨as, h1⟩ := M7 I d x _ r1.o q hp.1
   obtain ⟨bs, h2⟩ := cg I ds ys _ r2 qs hp.2
   simp only [D.pys]; exact ⟨_, .cons h1 h2⟩
end
end
noncomputable def p9 (d : D) : Bool := d.plain && SeqAt.shaped d.py
noncomputable def B3 (d1 d2 : D) : Option D := match d1, d2 with
 | .str x, .str y => some (.bl (decide (x = y)))
 | d1, d2 => if p9 d1 && p9 d2 then some (.bl (PyData.eqv d1.py d2.py)) else none
noncomputable def w8 (d1 d2 : D) : Option D := match d1, d2 with
 | .str x, .str y => some (.bl (!decide (x = y)))
 | d1, d2 => if p9 d1 && p9 d2 then some (.bl (!PyData.eqv d1.py d2.py)) else none
noncomputable def Q6 (K : PySem.W.Frag) (f : Bool → Bool) : R2 := fun x y H Q => ∃ N fa d1 d2, RepB K N fa H d1 x ∧ RepB K N fa H d2 y ∧ p9 d1 = true ∧ p9 d2 = true ∧ Q (.bl (f (PyData.eqv d1.py d2.py))) H
section
variable {X : Cx} {K : PySem.W.Frag}
theorem qy (hu : X.A.units + 64 < cLine) : OpR X (compareOp .Eq) (Q6 X.K id) := by
 intro pins s σ H x y v u Q I rx ry h
 obtain ⟨N, fa, d1, d2, r1, r2, o1, o2, q⟩ := h
 unfold p9 at o1 o2
 rw [Bool.and_eq_true] at o1 o2
 obtain ⟨as, h1⟩ := M7 I d1 x v r1.o rx o1.1
 obtain ⟨bs, h2⟩ := M7 I d2 y u r2.o ry o2.1
 exact PyProof.Rows.eq_dataH h1 h2 o1.2 o2.2 hu ⟨.bl _, H, I, rfl, q⟩
theorem mN (hu : X.A.units + 64 < cLine) : OpR X (compareOp .NotEq) (Q6 X.K not) := by
 intro pins s σ H x y v u Q I rx ry h
 obtain ⟨N, fa, d1, d2, r1, r2, o1, o2, q⟩ := h
 unfold p9 at o1 o2
 rw [Bool.and_eq_true] at o1 o2
 obtain ⟨as, h1⟩ := M7 I d1 x v r1.o rx o1.1
 obtain ⟨bs, h2⟩ := M7 I d2 y u r2.o ry o2.1
 exact PyProof.Rows.ne_dataH h1 h2 o1.2 o2.2 hu ⟨.bl _, H, I, rfl, q⟩
theorem kS (hu : X.A.units + 64 < cLine) : OpR X (compareOp .Eq) (fun x y H Q => cA x y H Q ∨ Q6 X.K id x y H Q) := op_eq.or (qy hu)
theorem rK (hu : X.A.units + 64 < cLine) : OpR X (compareOp .NotEq) (fun x y H Q => aJ x y H Q ∨ Q6 X.K not x y H Q) := op_ne.or (mN hu)
theorem oX {d1 d2 d : D} (h : B3 d1 d2 = some d) : (∃ x y, d1 = .str x ∧ d2 = .str y ∧ d = .bl (decide (x = y))) ∨ (p9 d1 = true ∧ p9 d2 = true ∧ d = .bl (PyData.eqv d1.py d2.py)) := by
 unfold B3 at h
 split at h
 ·cases h; exact .inl ⟨_, _, rfl, rfl, rfl⟩
 ·split at h
  ·rename_i q
   rw [Bool.and_eq_true] at q
   cases h; exact .inr ⟨q.1, q.2, rfl⟩
  ·cases h
theorem pS {d1 d2 d : D} (h : w8 d1 d2 = some d) : (∃ x y, d1 = .str x ∧ d2 = .str y ∧ d = .bl (!decide (x = y))) ∨ (p9 d1 = true ∧ p9 d2 = true ∧ d = .bl (!PyData.eqv d1.py d2.py)) := by
 unfold w8 at h
 split at h
 ·cases h; exact .inl ⟨_, _, rfl, rfl, rfl⟩
 ·split at h
  ·rename_i q
   rw [Bool.and_eq_true] at q
   cases h; exact .inr ⟨q.1, q.2, rfl⟩
  ·cases h
theorem fB (x y : Str) : decide (V.str x = V.str y) = decide (x = y) := by
 by_cases h : x = y
 ·subst h; simp
 ·rw [decide_eq_false h, decide_eq_false fun z => h (V.str.inj z)]
theorem mS : w9 K (fun x y H Q => cA x y H Q ∨ Q6 K id x y H Q) B3 := by
 intro g σ H fa O s x y d1 d2 d Q I r1 r2 e k
 rcases oX e with ⟨a, b, rfl, rfl, rfl⟩ | ⟨h1, h2, rfl⟩
 ·simp only [RepB, Rep] at r1 r2
  obtain ⟨rfl, _⟩ := r1
  obtain ⟨rfl, _⟩ := r2
  exact .inl ⟨rfl, k _ H StE.refl I (by simp only [Rep, fB])⟩
 ·exact .inr ⟨_, _, d1, d2, r1, r2, h1, h2, k _ H StE.refl I (by simp only [Rep, id])⟩
theorem mi : w9 K (fun x y H Q => aJ x y H Q ∨ Q6 K not x y H Q) w8 := by
 intro g σ H fa O s x y d1 d2 d Q I r1 r2 e k
 rcases pS e with ⟨a, b, rfl, rfl, rfl⟩ | ⟨h1, h2, rfl⟩
 ·simp only [RepB, Rep] at r1 r2
  obtain ⟨rfl, _⟩ := r1
  obtain ⟨rfl, _⟩ := r2
  exact .inl ⟨rfl, k _ H StE.refl I (by simp only [Rep, fB])⟩
 ·exact .inr ⟨_, _, d1, d2, r1, r2, h1, h2, k _ H StE.refl I (by simp only [Rep])⟩
noncomputable def a9 : D → D → Option D
 | .tup ds, .int i => k9 ds i
 | .lst ds, .int i => k9 ds i
 | _, _ => none
theorem gp {N : Addr → Prop} {fa : Option Addr} {H : Hp} {ds : List D} {xs : List V} {i : Int} {d : D} (r : Reps K N fa H ds xs) (h : k9 ds i = some d) : ∃ v, k9 xs i = some v ∧ Rep K N fa H d v := by
 unfold k9 at h ⊢
 rw [r.length]
 cases e : E1 ds.length i with
 | none => rw [e] at h; cases h
 | some j =>
  rw [e] at h
  simp only [Option.bind_some] at h ⊢
  exact Reps.get r h
theorem mf : w9 K (fun x y H Q => bU K x y H Q ∨ cx K x y H Q) a9 := by
 intro g σ H fa O s x y d1 d2 d Q I r1 r2 e k
 cases d1 with
 | tup ds =>
  cases d2 with
  | int i =>
   simp only [RepB, Rep] at r1 r2
   obtain ⟨a, xs, rfl, q, w⟩ := r1
   obtain ⟨v, hv, rv⟩ := gp w (show k9 ds i = some d from e)
   exact .inr ⟨a, xs, i, v, rfl, r2, q, hv, k v H StE.refl I rv⟩
  | _ => cases e
 | lst ds =>
  cases d2 with
  | int i =>
   obtain ⟨a, xs, rfl, _, q, w⟩ := r1
   simp only [RepB, Rep] at r2
   obtain ⟨v, hv, rv⟩ := gp w (show k9 ds i = some d from e)
   exact .inl ⟨a, xs, i, v, rfl, r2, SqL.of q, hv, k v H StE.refl I rv⟩
  | _ => cases e
 | _ => cases e
theorem mB : IxR X (fun x y H Q => bU X.K x y H Q ∨ cx X.K x y H Q) := ix_list.or tw
end
noncomputable def i8 (p : List D → Option D) (f : DA) : DE := fun s => (f s).bind fun x => (p x.1).map fun d => (d, x.2)
noncomputable def bQ (p : List D → Option (List D)) (f : DA) : DA := fun s => (f s).bind fun x => (p x.1).map fun d => (d, x.2)
section
variable {X : Cx} {g : Gh} {x : Str} {p pos : Pos} {e : Expr} {es : List Expr} {t : DA} {id T : String} {r : List V → Hp → VK → Prop} {pr : List D → Option D} {pf : List D → Option (List D)}
theorem fA (hr : K6 X.K r pr) (σ : L2.St) (H : Hp) (Q : VK) (h : liftE X.K g (i8 pr t) σ H Q) : U9 r (liftBA X.K g t) σ H Q := by
 obtain ⟨f0, O, s, d, s', I, e, k⟩ := h
 refine k4 e fun ds s1 h1 h => ?_
 refine D8 h fun d' h3 h => ?_
 simp only [Prod.mk.injEq] at h
 obtain ⟨e1, e2⟩ := h
 subst e1; subst e2
 exact ⟨f0, O, s, ds, s1, I, h1, fun vs H1 f1 O1 a1 I1 r1 => hr g σ H1 f1 O1 s1 vs ds d' Q I1 r1 h3 fun z H3 a3 I3 r3 => k z H3 f1 O1 (a1.trans a3) I3 r3⟩
theorem jv (hr : aL X.K r pf) (σ : L2.St) (H : Hp) (Q : VK) (h : liftF X.K g (bQ pf t) σ H Q) : U9 r (liftBA X.K g t) σ H Q := by
 obtain ⟨f0, O, s, d, s', I, e, k⟩ := h
 refine k4 e fun ds s1 h1 h => ?_
 refine D8 h fun d' h3 h => ?_
 simp only [Prod.mk.injEq] at h
 obtain ⟨e1, e2⟩ := h
 subst e1; subst e2
 exact ⟨f0, O, s, ds, s1, I, h1, fun vs H1 f1 O1 a1 I1 r1 => hr g σ H1 f1 O1 s1 vs ds d' Q I1 r1 h3 fun q ys H3 a3 L e3 => k q ys H3 f1 O1 (a1.trans a3) L (a1.mon _ e3)⟩
theorem nr (hc : CallR X (.builtin id) r) (hr : K6 X.K r pr) (hg : Gl X x) (hm : X.mg x = none) (hv : bootBuiltins x = some (.builtin id)) (ha : BAO X g (e :: es) t) (hn : x ≠ "__name__" := by decide) (hdb : (x == ("__debug__" : Str)) = false := by decide)
  (he : starEach (e :: es) X.env = (false, eval e X.env) :: starEach es X.env := by rfl) (hpl : (backTo pos (starEach es X.env)).any (·.1) = false := by rfl) : EO X g (.Call (.Name x p) (e :: es) [] pos) (i8 pr t) :=
 EO.w (aB hc hg hm hv ha.pe hn hdb he hpl) (fA hr)
theorem aZ (hc : CallR X (.type T) r) (hr : K6 X.K r pr) (hg : Gl X x) (hm : X.mg x = none) (hv : bootBuiltins x = some (.type T)) (ha : BAO X g (e :: es) t) (hn : x ≠ "__name__" := by decide) (hdb : (x == ("__debug__" : Str)) = false := by decide)
  (he : starEach (e :: es) X.env = (false, eval e X.env) :: starEach es X.env := by rfl) (hpl : (backTo pos (starEach es X.env)).any (·.1) = false := by rfl) : EO X g (.Call (.Name x p) (e :: es) [] pos) (i8 pr t) :=
 EO.w (jl hc hg hm hv ha.pe hn hdb he hpl) (fA hr)
theorem nM (hc : CallR X (.type T) r) (hr : aL X.K r pf) (hg : Gl X x) (hm : X.mg x = none) (hv : bootBuiltins x = some (.type T)) (ha : BAO X g (e :: es) t) (hn : x ≠ "__name__" := by decide) (hdb : (x == ("__debug__" : Str)) = false := by decide)
  (he : starEach (e :: es) X.env = (false, eval e X.env) :: starEach es X.env := by rfl) (hpl : (backTo pos (starEach es X.env)).any (·.1) = false := by rfl) : FO X g (.Call (.Name x p) (e :: es) [] pos) (bQ pf t) :=
 FO.w (jl hc hg hm hv ha.pe hn hdb he hpl) (jv hr)
end
theorem iI {K : PySem.W.Frag} {N : Addr → Prop} {fa : Option Addr} {H : Hp} {d : D} {xs : List V} (r : K7 K N fa H [d] xs) : ∃ x, xs = [x] ∧ RepB K N fa H d x := by
 obtain ⟨x, ys, rfl, r1, r2⟩ := r
 simp only [K7] at r2; subst r2
 exact ⟨x, rfl, r1⟩
noncomputable def one {α : Type} (p : D → Option α) : List D → Option α
 | [d] => p d
 | _ => none
theorem ez {α : Type} {p : D → Option α} {ds : List D} {a : α} (h : one p ds = some a) : ∃ d, ds = [d] ∧ p d = some a := by
 cases ds with
 | nil => cases h
 | cons d r =>
  cases r with
  | nil => exact ⟨d, rfl, h⟩
  | cons _ _ => cases h
noncomputable def j7 : D → Option D
 | .tup ds => some (.int (ds.length : Nat))
 | .lst ds => some (.int (ds.length : Nat))
 | .str x => some (.int (x.length : Nat))
 | _ => none
noncomputable def Y8 : D → Option D
 | .int i => some (.int (if i < 0 then -i else i))
 | _ => none
noncomputable def S8 : D → Option D
 | .tup ds => some (.tup ds)
 | .lst ds => some (.tup ds)
 | _ => none
noncomputable def gI : D → Option (List D)
 | .tup ds => some ds
 | .lst ds => some ds
 | _ => none
noncomputable def E5 (d : D) : Bool := d.plain && d.py.showable && d.py.canLay0 && decide (d.py.depth ≤ 64) && decide (d.py.shown.length ≤ sizeLine)
noncomputable def L8 (d : D) : Option D := if E5 d then some (.str d.py.shown) else none
section
variable {X : Cx} {K : PySem.W.Frag}
theorem qz : CallR X (.builtin "len") (fun xs H Q => (∃ p ys, xs = [.ref p] ∧ (SqL X.K H p ys ∨ SqT X.K H p ys) ∧ Q (.int ys.length) H) ∨ (∃ z, xs = [.str z] ∧ z.length ≤ sizeLine ∧ Q (.int z.length) H)) := call_len_seq.or jV
theorem W7 {r : List V → Hp → VK → Prop} {p : D → Option D} (h : ∀ (g : Gh) (σ : L2.St) (H : Hp) (fa : Option Addr) (O : List Addr) (s : DS) (x : V) (d1 d : D) (Q : VK), GI K g σ H fa O s → RepB K (NN g.F fa O) fa H d1 x → p d1 = some d →
  (∀ v H', StE fa O H fa O H' → GI K g σ H' fa O s → Rep K (NN g.F fa O) fa H' d v → Q v H') → r [x] H Q) : K6 K r (one p) := by
 intro g σ H fa O s xs ds d Q I rs e k
 obtain ⟨d1, rfl, e1⟩ := ez e
 obtain ⟨x, rfl, rx⟩ := iI rs
 exact h g σ H fa O s x d1 d Q I rx e1 k
theorem rX : K6 K (fun xs H Q => (∃ p ys, xs = [.ref p] ∧ (SqL K H p ys ∨ SqT K H p ys) ∧ Q (.int ys.length) H) ∨ (∃ z, xs = [.str z] ∧ z.length ≤ sizeLine ∧ Q (.int z.length) H)) (one j7) := W7 fun g σ H fa O s x d1 d Q I r e k => by
 cases d1 with
 | tup es =>
  cases e
  simp only [RepB, Rep] at r
  obtain ⟨a, ys, rfl, q, w⟩ := r
  exact .inl ⟨a, ys, rfl, .inr q, k _ H StE.refl I (by rw [w.length]; simp only [Rep])⟩
 | lst es =>
  cases e
  obtain ⟨a, ys, rfl, _, q, w⟩ := r
  exact .inl ⟨a, ys, rfl, .inl (SqL.of q), k _ H StE.refl I (by rw [w.length]; simp only [Rep])⟩
 | str z =>
  cases e
  simp only [RepB, Rep] at r
  obtain ⟨rfl, l⟩ := r
  exact .inr ⟨z, rfl, l, k _ H StE.refl I (by simp only [Rep])⟩
 | _ => cases e
theorem tK : K6 K (fun xs H Q => ∃ i, xs = [.int i] ∧ Q (.int (if i < 0 then -i else i)) H) (one Y8) := W7 fun g σ H fa O s x d1 d Q I r e k => by
 cases d1 with
 | int i =>
  cases e
  simp only [RepB, Rep] at r
  subst r
  exact ⟨i, rfl, k _ H StE.refl I (by simp only [Rep])⟩
 | _ => cases e
theorem aU : K6 K (fun xs H Q => ∃ p ys, xs = [.ref p] ∧ ((SqL K H p ys ∧ ∀ l, H l = none → Q (.ref l) (e7 H l (.tup ys))) ∨ (SqT K H p ys ∧ Q (.ref p) H))) (one S8) := W7 fun g σ H fa O s x d1 d Q I r e k => by
 cases d1 with
 | tup es =>
  cases e
  simp only [RepB, Rep] at r
  obtain ⟨a, ys, rfl, q, w⟩ := r
  exact ⟨a, ys, rfl, .inr ⟨q, k _ H StE.refl I (by simp only [Rep]; exact ⟨a, ys, rfl, q, w⟩)⟩⟩
 | lst es =>
  cases e
  obtain ⟨a, ys, rfl, _, q, w⟩ := r
  refine ⟨a, ys, rfl, .inl ⟨SqL.of q, fun p hp => ?_⟩⟩
  have a2 : StE fa O H fa O (e7 H p (.tup ys)) := v3 hp
  refine k _ _ a2 (I.new hp) ?_
  simp only [Rep]
  exact ⟨p, ys, rfl, SqT.of r8, Reps.stp I a2.stp w⟩
 | _ => cases e
theorem mL : aL K (fun xs H Q => ∃ p ys, xs = [.ref p] ∧ (SqL K H p ys ∨ SqT K H p ys) ∧ ∀ l, H l = none → Q (.ref l) (e7 H l (.lst ys))) (one gI) := by
 intro g σ H fa O s xs ds es Q I rs e k
 obtain ⟨d1, rfl, e1⟩ := ez e
 obtain ⟨x, rfl, r⟩ := iI rs
 cases d1 with
 | tup es' =>
  cases e1
  simp only [RepB, Rep] at r
  obtain ⟨a, ys, rfl, q, w⟩ := r
  exact ⟨a, ys, rfl, .inr q, fun p hp => k p ys _ (v3 hp) (R4 I hp w) hp⟩
 | lst es' =>
  cases e1
  obtain ⟨a, ys, rfl, _, q, w⟩ := r
  exact ⟨a, ys, rfl, .inl (SqL.of q), fun p hp => k p ys _ (v3 hp) (R4 I hp w) hp⟩
 | _ => cases e1
noncomputable def fF (K : PySem.W.Frag) : List V → Hp → VK → Prop := fun xs H Q => ∃ N fa d x, xs = [x] ∧ RepB K N fa H d x ∧ E5 d = true ∧ Q (.str d.py.shown) H
theorem qC (hu : X.A.units + 66 < cLine) (hg : X.A.guards = some []) : CallR X (.builtin "repr") (fF X.K) := by
 intro pins s σ H xs us Q I r h
 obtain ⟨N, fa, d, x, rfl, rx, ok, q⟩ := h
 obtain ⟨u, rfl, ru⟩ := T1 r
 unfold E5 at ok
 simp only [Bool.and_eq_true, decide_eq_true_eq] at ok
 obtain ⟨⟨⟨⟨hp, hs⟩, hl⟩, hd⟩, hz⟩ := ok
 obtain ⟨as, ra⟩ := M7 I d x u rx.o ru hp
 have fin : ∀ (h' : Heap) (tk : Nat) (t : Tok), (∀ b o, s.heap.get? b = some o → h'.get? b = some o) → EP X pins σ Q (.str d.py.shown t) { s with heap := h', toks := tk } := fun h' tk t hk => ⟨.str d.py.shown, H, I.kept hk, ⟨t, rfl⟩, q⟩
 cases d with
 | non =>
  simp only [RepB, Rep] at rx; subst rx; cases ru
  exact P.repr_of_none (fin s.heap _ _ fun _ _ e => e)
 | bl b =>
  simp only [RepB, Rep] at rx; subst rx; cases ru
  have := fin s.heap (s.toks + 1) s.toks fun _ _ e => e
  refine P.repr_of_bool ?_
  cases b <;> simpa only [D.py, PyData.shown] using this
 | int i =>
  simp only [RepB, Rep] at rx; subst rx
  obtain ⟨t, rfl⟩ := ru
  have := fin s.heap (s.toks + 1) s.toks fun _ _ e => e
  simp only [D.py, PyData.showable, decide_eq_true_eq] at hs
  exact P.repr_of_int hs (by simpa only [D.py, PyData.shown] using this)
 | str z =>
  simp only [RepB, Rep] at rx; obtain ⟨rx, _⟩ := rx; subst rx
  obtain ⟨t, rfl⟩ := ru
  have := fin s.heap (s.toks + 1) s.toks fun _ _ e => e
  exact P.repr_of_str (by simpa only [D.py, PyData.shown] using this) (by simpa only [D.py, PyData.shown] using hz)
 | tup ds =>
  simp only [RepB, Rep] at rx
  obtain ⟨a, ys, rfl, _⟩ := rx
  cases ru
  exact repr_of_reads' ra hs (PyData.noDict_hsm (PyData.hasDict_of_canLay _ hl)) hg (by omega) (fun _ _ e => e) (fun h' t tk hk => fin h' tk t hk) hz
 | lst ds =>
  obtain ⟨a, ys, rfl, _⟩ := rx
  cases ru
  exact repr_of_reads' ra hs (PyData.noDict_hsm (PyData.hasDict_of_canLay _ hl)) hg (by omega) (fun _ _ e => e) (fun h' t tk hk => fin h' tk t hk) hz
 | feed => cases hp
 | scr _ => cases hp
 | fn _ => cases hp
 | exc _ _ => cases hp
theorem jt : K6 K (fF K) (one L8) := W7 fun g σ H fa O s x d1 d Q I r e k => by
 unfold L8 at e
 by_cases h : E5 d1 = true
 ·rw [if_pos h] at e
  cases e
  refine ⟨_, _, d1, x, rfl, r, h, k _ H StE.refl I ?_⟩
  simp only [Rep]
  unfold E5 at h
  simp only [Bool.and_eq_true, decide_eq_true_eq] at h
  exact ⟨trivial, h.2⟩
 ·rw [if_neg h] at e; cases e
end
end DL
namespace DL
open PySem PySem.Spec L2
noncomputable def FS.get (key : Str) (f : FS) : Option D :=
 if f.kind = 0 then if key = "cells" then some (.lst (f.cells.map .int)) else if key = "at" then some (.int f.pos) else if key = "left" then some (.int f.left) else if key = "turn" then some (.int f.turn) else none else none
noncomputable def FS.put (key : Str) (n : Int) (f : FS) : Option FS :=
 if f.kind = 0 then if key = "at" then some { f with pos := n } else if key = "left" then some { f with left := n } else if key = "turn" then some { f with turn := n } else none else none
noncomputable def uP (i : Nat) (key : Str) : DE := fun s => match s.sl[i]? with
 | some (.val .feed) => s.fs.bind fun f => (f.get key).map fun d => (d, s)
 | _ => none
section
variable {X : Cx} {g : Gh} {i : Nat} {x key : Str} {p1 p2 pos pos' : Pos} {j : Nat}
theorem jC (xs : List V) (h : xs.length ≤ 63) : C9 xs none (some 63) = xs := by
 unfold C9
 have e1 : HT.sIx xs.length 0 none = 0 := rfl
 have e2 : HT.sIx xs.length xs.length (some 63) = xs.length := by
  have := HT.sIx_nat xs.length xs.length 63
  rw [show ((63 : Nat) : Int) = 63 from rfl] at this
  rw [this]; omega
 rw [e1, e2, List.drop_zero, Nat.sub_zero, List.take_length]
end
noncomputable def FS.tget (n : Int) (f : FS) : Option D :=
 if f.kind = 0 then none else if n = 0 then some (.lst (f.cells.map .int)) else if n = 1 then some (.int f.pos) else if n = 2 then some (.int f.left) else if n = 3 ∧ f.kind ≠ 1 then some (.int f.turn) else none
noncomputable def FS.tput (n v : Int) (f : FS) : Option FS :=
 if f.kind = 0 then none else if n = 1 then some { f with pos := v } else if n = 2 then some { f with left := v } else if n = 3 ∧ f.kind ≠ 1 then some { f with turn := v } else none
noncomputable def n9 (i : Nat) (n : Int) : DE := fun s => match s.sl[i]? with
 | some (.val .feed) => s.fs.bind fun f => (f.tget n).map fun d => (d, s)
 | _ => none
noncomputable def K4 (i : Nat) (n : Int) (fe : DE) : DM := fun s => (fe s).bind fun x => match x.2.sl[i]?, x.1 with
 | some (.val .feed), .int v => x.2.fs.bind fun f => (f.tput n v).map fun f' => (.next, { x.2 with fs := some f' })
 | _, _ => none
noncomputable def ay (i : Nat) : DE := fun s => match s.sl[i]?, s.fs with
 | some (.val (.scr ns)), none => some (.feed, { s with fs := some ⟨ns, 0, 0, 0, 1⟩ })
 | _, _ => none
theorem FS.tget_val {n : Int} {f : FS} {d : D} (h : f.tget n = some d) (c : Addr) : ∃ v, k9 (A7 c f) n = some v ∧ ((v = .ref c ∧ d = .lst (f.cells.map .int)) ∨ ∃ i, v = .int i ∧ d = .int i) ∧ f.kind ≠ 0 := by
 unfold FS.tget at h
 split at h
 ·cases h
 rename_i hk
 unfold A7
 split at h
 ·rename_i e; subst e; cases h
  refine ⟨.ref c, ?_, .inl ⟨rfl, rfl⟩, hk⟩
  split <;> rfl
 split at h
 ·rename_i e; subst e; cases h
  refine ⟨.int f.pos, ?_, .inr ⟨_, rfl, rfl⟩, hk⟩
  split <;> rfl
 split at h
 ·rename_i e; subst e; cases h
  refine ⟨.int f.left, ?_, .inr ⟨_, rfl, rfl⟩, hk⟩
  split <;> rfl
 split at h
 ·rename_i e; obtain ⟨e, e2⟩ := e; subst e; cases h
  refine ⟨.int f.turn, ?_, .inr ⟨_, rfl, rfl⟩, hk⟩
  rw [if_neg e2]; rfl
 ·cases h
theorem FS.tput_val {n v : Int} {f f' : FS} (h : f.tput n v = some f') (c : Addr) : ∃ j, E1 (A7 c f).length n = some j ∧ (A7 c f).set j (.int v) = A7 c f' ∧ f'.cells = f.cells ∧ f.kind ≠ 0 ∧ f'.kind ≠ 0 := by
 unfold FS.tput at h
 split at h
 ·cases h
 rename_i hk
 split at h
 ·rename_i e; subst e; cases h
  refine ⟨1, ?_, ?_, rfl, hk, hk⟩
  ·unfold A7; split <;> rfl
  ·by_cases z : f.kind = 1
   ·simp [A7, z]
   ·simp [A7, z]
 split at h
 ·rename_i e; subst e; cases h
  refine ⟨2, ?_, ?_, rfl, hk, hk⟩
  ·unfold A7; split <;> rfl
  ·by_cases z : f.kind = 1
   ·simp [A7, z]
   ·simp [A7, z]
 split at h
 ·rename_i e; obtain ⟨e, e2⟩ := e; subst e; cases h
  refine ⟨3, ?_, ?_, rfl, hk, hk⟩
  ·unfold A7; rw [if_neg e2]; rfl
  ·simp [A7, e2]
 ·cases h
section
variable {X : Cx} {g : Gh} {i : Nat} {x : Str} {n : Int} {p1 p2 pos pos' : Pos} {j : Nat}
theorem uh (hv : PE X (.Name x p1) (M1 i)) : EO X g (.Subscript (.Name x p1) (.Constant (.int n) j p2) pos) (n9 i n) :=
 EO.w (eU ix_list hv S3 (fun _ _ => rfl)) fun σ H Q hQ => by
  refine hQ.elim fun fa O s d s' I e k => ?_
  unfold n9 at e
  cases q : s.sl[i]? with
  | none => rw [q] at e; cases e
  | some z =>
   rw [q] at e
   cases z with
   | no => cases e
   | own _ => cases e
   | val dz =>
    cases dz with
    | feed =>
     refine R9 e fun f h1 h2 => ?_
     refine D8 h2 fun d' h3 h4 => ?_
     cases h4
     obtain ⟨u, e1, r⟩ := SlR.val I.sl q
     simp only [Rep] at r
     obtain ⟨a, ha, rfl⟩ := r
     have fd := I.fd
     rw [h1, ha] at fd
     obtain ⟨_, c, hc, nc, lc⟩ := fd
     obtain ⟨v, hval, hd, hk⟩ := FS.tget_val h3 c
     rw [bj hk] at hc
     refine ⟨_, e1, a, _, n, v, rfl, rfl, SqL.of hc, hval, k v H fa O StE.refl I ?_⟩
     rcases hd with ⟨rfl, rfl⟩ | ⟨n, rfl, rfl⟩
     ·simp only [Rep]
      exact ⟨c, _, rfl, by rw [ha]; exact nc, lc, Reps.ints⟩
     ·simp only [Rep]
    | _ => cases e
theorem jK {e : Expr} {fe : DE} (hv : PE X (.Name x p1) (M1 i)) (he : EO X g e fe) (hs : swapsWithSole [.Subscript (.Name x p1) (.Constant (.int n) j p2) pos'] e pos.line X.env = pure false := by rfl) (hw : swappedStores [.Subscript (.Name x p1) (.Constant (.int n) j p2) pos'] e X.env = pure none := by rfl) :
  SO X g (.Assign [.Subscript (.Name x p1) (.Constant (.int n) j p2) pos'] e pos) (K4 i n fe) :=
 SO.w (eD he.pe (sF hv S3 pJ) hs hw) fun E σ H hQ => by
  refine hQ.elim fun fa O s fl s' I q k => ?_
  refine k4 q fun d s1 h1 h2 => ?_
  simp only [] at h2
  cases q1 : s1.sl[i]? with
  | none => rw [q1] at h2; cases h2
  | some z =>
   rw [q1] at h2
   cases z with
   | no => cases h2
   | own _ => cases h2
   | val dz =>
    cases dz with
    | feed =>
     cases d with
     | int w =>
      simp only [] at h2
      refine R9 h2 fun f h3 h4 => ?_
      refine D8 h4 fun f' h5 h6 => ?_
      cases h6
      refine ⟨fa, O, s, .int w, s1, I, h1, fun v H1 f1 O1 a1 I1 r => ?_⟩
      simp only [Rep] at r
      subst r
      obtain ⟨u, e1, ru⟩ := SlR.val I1.sl q1
      simp only [Rep] at ru
      obtain ⟨a, ha, rfl⟩ := ru
      have fd := I1.fd
      rw [h3, ha] at fd
      obtain ⟨lc63, c, hc, nc, lc⟩ := fd
      obtain ⟨m, hix, hput, hcell, hk, hk'⟩ := FS.tput_val h5 c
      rw [bj hk] at hc
      refine ⟨_, e1, a, _, n, m, rfl, rfl, hc, hix, ?_⟩
      rw [hput]
      have a2 : StE f1 O1 H1 f1 O1 (e7 H1 a (.lst (A7 c f'))) := ⟨fun _ h => h, .inl rfl, fun b w e nb => by rw [i5 (fun z => nb (by rw [z]; exact ha))]; exact e, fun b z => by
       by_cases hb : b = a
       ·subst hb; rw [r8] at z; cases z
       ·rw [i5 hb] at z; exact z⟩
      have cr := I1.car a2.stp
      refine k σ _ f1 O1 (a1.stp.trans a2.stp) ⟨I1.nd, SlR.go cr (fun b xs hb e => a2.same b _ e fun z => I1.nf b z hb) I1.sl, I1.fr, ?_, I1.tr, I1.ff, ?_, I1.nf⟩
      ·refine ⟨fun b hb => (by cases hb), I1.st.fe, fun b w e _ nb => ?_, fun b z => I1.st.mon b (a2.mon b z)⟩
       refine a2.same b w (I1.st.same b w e (by simp) nb) fun z => ?_
       rcases I1.st.fe with y | ⟨y, y2⟩
       ·rw [y] at z; exact nb z
       ·rw [y2 b z] at e; cases e
      ·rw [ha]
       refine ⟨by rw [hcell]; exact lc63, c, by rw [bj hk', r8], nc, ?_⟩
       rw [i5 (fun z => nc (.inr (.inr (by rw [z])))), hcell]
       exact lc
     | _ => cases h2
    | _ => cases h2
theorem lZ {j63 j0 j1 : Nat} {q5 q6 q7 q8 q9 : Pos} (hv : PE X (.Name x p1) (M1 i)) :
  EO X g (.List [.Subscript (.Name x p1) (.Slice none (some (.Constant (.int 63) j63 q5)) none q6) q7, .Constant (.int 0) j0 q8, .Constant (.int 0) j1 q9] pos) (ay i) :=
 EO.w (eX (B8 (iT eV hv fQ (ix S3)) (B8 S3 (B8 S3 M5)))) fun σ H Q hQ => by
  refine hQ.elim fun fa O s d s' I e k => ?_
  unfold ay at e
  cases q : s.sl[i]? with
  | none => rw [q] at e; cases e
  | some z =>
   rw [q] at e
   cases z with
   | no => cases e
   | own _ => cases e
   | val dz =>
    cases dz with
    | scr ns =>
     cases hf : s.fs with
     | some f => rw [hf] at e; cases e
     | none =>
      rw [hf] at e
      cases e
      obtain ⟨u, e1, r⟩ := SlR.val I.sl q
      simp only [Rep] at r
      obtain ⟨l63, a, rfl, sq⟩ := r
      have fd := I.fd
      rw [hf] at fd
      have fan : fa = none := by cases fa with | none => rfl | some _ => exact fd.elim
      subst fan
      refine ⟨_, e1, 63, rfl, a, _, rfl, sq.sq, fun c hcH => ?_⟩
      rw [jC _ (by rw [List.length_map]; exact l63)]
      refine ⟨by show 3 ≤ sizeLine; decide, fun p hp' => ?_⟩
      have npc : c ≠ p := fun z => by rw [← z, r8] at hp'; cases hp'
      have hp : H p = none := by rw [i5 (Ne.symm npc)] at hp'; exact hp'
      have fresh : ∀ b u, H b = some u → b ≠ p ∧ b ≠ c := fun b u e => ⟨t7 e hp, t7 e hcH⟩
      have a2 : StE none O H (some p) O (e7 (e7 H c (.lst (ns.map V.int))) p (.lst [V.ref c, V.int 0, V.int 0])) := by
       refine ⟨fun _ h => h, .inr ⟨rfl, fun b z => by cases z; exact hp⟩, fun b u e _ => ?_, fun b z => ?_⟩
       ·obtain ⟨n1, n2⟩ := fresh b u e
        rw [i5 n1, i5 n2]; exact e
       ·by_cases h1 : b = p
        ·subst h1; exact hp
        ·by_cases h2 : b = c
         ·subst h2; exact hcH
         ·rw [i5 h1, i5 h2] at z; exact z
      have cr := I.car a2.stp
      refine k _ _ (some p) O a2 ⟨I.nd, SlR.go cr (fun b xs hb e => a2.same b _ e (by simp)) I.sl, I.fr, I.st.trans ⟨fun b hb => (by cases hb), a2.fe, fun b u e _ n => a2.same b u e n, a2.mon⟩, I.tr, I.ff, ?_, I.nf_step a2.fe⟩ (by simp only [Rep]; exact ⟨p, rfl, rfl⟩)
      refine ⟨l63, c, r8, ?_, ?_⟩
      ·rintro (z | z | z)
       ·exact I.trF z hcH
       ·obtain ⟨xs, e⟩ := I.owned z
        rw [hcH] at e; cases e
       ·exact npc (Option.some.inj z).symm
      ·rw [i5 npc, r8]
    | _ => cases e
end
structure Cal (P : Program) (w : World) (K : PySem.W.Frag) (mg : Str → Option Value) (base : Heap) (k : Nat) (x : Str) (ps : List Str) (m : a7) : Prop where
 ex : ∃ (f : Addr) (fd : FuncData), X2 P w K mg base k f fd ps m ∧ mg x = some (.ref f) ∧ PySem.W.keepIn K (.ref f) = true ∧ Binds K fd ps []
structure Blt (mg : Str → Option Value) : Prop where
 len : mg "len" = none
 range : mg "range" = none
 abs : mg "abs" = none
 tuple : mg "tuple" = none
 list : mg "list" = none
 int : mg "int" = none
 bool : mg "bool" = none
 str : mg "str" = none
 repr : mg "repr" = none
 all : mg "all" = none
 isinstance : mg "isinstance" = none
 zip : mg "zip" = none
 enumerate : mg "enumerate" = none
 min : mg "min" = none
 max : mg "max" = none
 reversed : mg "reversed" = none
 any : mg "any" = none
 sum : mg "sum" = none
 sorted : mg "sorted" = none
section
variable {X : Cx} {g : Gh} {k : Nat} {ps : List Str} {m : a7} {x : Str} {p pos : Pos} {e : Expr} {es : List Expr} {t : DA}
theorem qH (C : Cal X.prog X.w X.K X.mg X.base k x ps m) (k' : Nat) (hr : Room k' X.A) (hk : k ≤ k') (hg : Gl X x)
  (ha : AO X g (e :: es) t) (hn : ∀ s ds s', t s = some (ds, s') → ds.length = ps.length) (hdb : (x == ("__debug__" : Str)) = false := by decide) (he : starEach (e :: es) X.env = (false, eval e X.env) :: starEach es X.env := by rfl) (hpl : (backTo pos (starEach es X.env)).any (·.1) = false := by rfl) :
  EO X g (.Call (.Name x p) (e :: es) [] pos) (c6 m t) := by
 obtain ⟨f, fd, F, hm, hkp, hb⟩ := C.ex
 exact qu F (hr.mono hk) hg hm hkp hb ha hn hdb he hpl
end
theorem kR {P : Program} {w : World} {K : PySem.W.Frag} {mg : Str → Option Value} {base : Heap} {x : Str} {st : Stmt} {f : Addr} {fd : FuncData} {N ps : List Str} {k : Nat} {b : DM} (F : Fun K x x st f fd) (hm : mg x = some (.ref f)) (hb : Binds K fd ps []) (S : FnScope N ps (j4 st))
  (hbody : ∀ (cdv : Value) (A : Around) (outer : List Env) (s : Shared) (H : Hp) (E : XK) (g : Gh), Room k (A.deeper (PyProof.Rows.envOfC x (j4 st) s.heap.objs.size f cdv)) → SSO (A9 E6 P w K mg base N x (j4 st) f cdv A outer s H E).nox g (B1 st) b) :
  Cal P w K mg base (k + 1) x ps (n8 N.length b) := ⟨f, fd, dX F S hbody, hm, F.kp, hb⟩
theorem cY {A : Around} {k : Nat} (hr : Room k A) : A.units + 64 < cLine := by have := hr.un; omega
theorem rP {A : Around} {k : Nat} (hr : Room k A) : A.units + 66 < cLine := by have := hr.un; omega
theorem lU : bootBuiltins ("len" : Str) = some (.builtin "len") := by decide +kernel
theorem qQ : bootBuiltins ("abs" : Str) = some (.builtin "abs") := by decide +kernel
theorem qq : bootBuiltins ("repr" : Str) = some (.builtin "repr") := by decide +kernel
theorem cK : bootBuiltins ("isinstance" : Str) = some (.builtin "isinstance") := by decide +kernel
theorem cR : bootBuiltins ("tuple" : Str) = some (.type "tuple") := by decide +kernel
theorem eu : bootBuiltins ("list" : Str) = some (.type "list") := by decide +kernel
theorem cf {κ : Type} [BEq κ] [LawfulBEq κ] {β : Type} : ∀ {l : List (κ × β)} {x : κ} {v : β}, l.lookup x = some v → (x, v) ∈ l
 | [], _, _, h => by simp at h
 | (a, b) :: r, x, v, h => by
  rw [List.lookup_cons] at h
  cases e : x == a with
  | true =>
   rw [e] at h
   cases h
   rw [eq_of_beq e]
   exact List.mem_cons_self ..
  | false =>
   rw [e] at h
   exact List.mem_cons_of_mem _ (cf h)
noncomputable def hasAll (names : List (Str × NameKind)) (cl : List (Str × Addr)) : Bool := names.all fun p => !(p.2 == .cell || p.2 == .free) || (cl.lookup p.1).isSome
theorem nV {names : List (Str × NameKind)} {cl : List (Str × Addr)} (h : hasAll names cl = true) : ∀ x, (names.lookup x = some .cell ∨ names.lookup x = some .free) → ∃ c, cl.lookup x = some c := fun x hx => by
 have key : ∀ kd, names.lookup x = some kd → (kd == NameKind.cell || kd == NameKind.free) = true → ∃ c, cl.lookup x = some c := fun kd e q => by
  have m := cf e
  have z := List.all_eq_true.mp h _ m
  simp only [q, Bool.not_true, Bool.false_or] at z
  exact Option.isSome_iff_exists.mp z
 rcases hx with e | e
 ·exact key _ e rfl
 ·exact key _ e rfl
inductive CapL (X : Cx) (scope : Scope) : List Nat → List Str → Prop where
 | nil : CapL X scope [] []
 | cons {i : Nat} {y : Str} {r : List Nat} {ys : List Str} (h1 : X.N[i]? = some y) (h2 : X.env.scope.names.lookup y = some .cell ∨ X.env.scope.names.lookup y = some .free)
   (h3 : (relabel scope X.env).names.lookup y = some .cell ∨ (relabel scope X.env).names.lookup y = some .free) (t : CapL X scope r ys) : CapL X scope (i :: r) (y :: ys)
theorem CapL.len {X : Cx} {scope : Scope} : ∀ {idx : List Nat} {ys : List Str}, CapL X scope idx ys → ys.length = idx.length
:= by
 intro idx ys h
 induction h with
 | nil => rfl
 | cons _ _ _ t ih => rw [List.length_cons, List.length_cons, ih]
theorem CapL.at {X : Cx} {scope : Scope} : ∀ {idx : List Nat} {ys : List Str}, CapL X scope idx ys → ∀ (j i : Nat) (y : Str), idx[j]? = some i → ys[j]? = some y →
  X.N[i]? = some y ∧ (X.env.scope.names.lookup y = some .cell ∨ X.env.scope.names.lookup y = some .free) ∧ ((relabel scope X.env).names.lookup y = some .cell ∨ (relabel scope X.env).names.lookup y = some .free)
:= by
 intro idx ys h
 induction h with
 | nil => intro j i y h; cases h
 | cons h1 h2 h3 t ih =>
  intro j i y e1 e2
  cases j with
  | zero =>
   cases e1
   cases e2
   exact ⟨h1, h2, h3⟩
  | succ j => exact ih j i y e1 e2
inductive SubL (cells : List (Str × Addr)) : List (Str × Addr) → Prop where
 | nil : SubL cells []
 | cons {x : Str} {c : Addr} {r : List (Str × Addr)} (h : cells.lookup x = some c) (t : SubL cells r) : SubL cells ((x, c) :: r)
theorem SubL.mem {cells : List (Str × Addr)} : ∀ {cl : List (Str × Addr)}, SubL cells cl → ∀ x c, (x, c) ∈ cl → cells.lookup x = some c
:= by
 intro cl h
 induction h with
 | nil => intro x c h; cases h
 | cons e t ih =>
  intro x c h
  rcases List.mem_cons.mp h with z | z
  ·cases z; exact e
  ·exact ih x c z
theorem eH {X : Cx} {scope : Scope} {cl : List (Str × Addr)} {x : Str} {caps : List Str} {idx : List Nat} (clos : closureFor scope X.env = pure cl) (sub : SubL X.env.cells cl) (cell : ∀ y ∈ scope.names, y.2 ≠ .cell) (kind : scope.kind = .function)
  (names : ∀ y ∈ scope.names, y.2 = .local → scope.names.lookup y.1 = some .local) (has : hasAll (relabel scope X.env).names cl = true) (cap : CapL X scope idx caps) : CompOk X scope cl (x :: caps) 1 idx :=
 ⟨clos, fun y c e => sub.mem y c (cf e), cell, kind, names, nV has, by rw [List.length_cons, cap.len, Nat.add_comm], fun j i y e1 e2 => cap.at j i y e1 (by rw [Nat.add_comm] at e2; simpa using e2)⟩
noncomputable def u3 (i j : Nat) (f : DA) : DM := fun s => (f s).bind fun x => match x.1 with
 | [a, b] => some (.next, { x.2 with sl := (x.2.sl.set i (.val a)).set j (.val b) })
 | _ => none
section
variable {X : Cx} {g : Gh}
theorem tP {i j : Nat} {x y : Str} {a b : Expr} {f : DA} {px py pt pos : Pos} {kt k2 pt2} (hc : X.calm = true) (hN : X.N.Nodup) (hi : X.N[i]? = some x) (hj : X.N[j]? = some y) (hij : i ≠ j)
  (hx : X.env.scope.names.lookup x = some .local) (hy : X.env.scope.names.lookup y = some .local) (ha : AO X g [a, b] f)
  (hw : swappedStores [.Tuple [.Name x px, .Name y py] kt pt] (.Tuple [a, b] k2 pt2) X.env = pure (some [x, y]))
  (hs : swapsWithSole [.Tuple [.Name x px, .Name y py] kt pt] (.Tuple [a, b] k2 pt2) pos.line X.env = pure false := by rfl) :
  SO X g (.Assign [.Tuple [.Name x px, .Name y py] kt pt] (.Tuple [a, b] k2 pt2) pos) (u3 i j f) := SO.w (jy hc hN hi hj hij hx hy ha.pe hw hs) fun E σ H hQ => by
 refine hQ.elim fun fa O s fl s' I q k => ?_
 refine k4 q fun ds s1 h1 h2 => ?_
 refine ⟨fa, O, s, ds, s1, I, h1, fun vs H1 f1 O1 a1 I1 r => ?_⟩
 match ds, h2, r with
 | [d1, d2], h2, r =>
  simp only [Option.some.injEq, Prod.mk.injEq] at h2
  obtain ⟨e1, e2⟩ := h2
  subst e1; subst e2
  simp only [Reps] at r
  obtain ⟨v, ys, rfl, rv, u, zs, rfl, ru, rfl⟩ := r
  refine ⟨v, u, rfl, ?_⟩
  obtain ⟨P, sub, I2⟩ := I1.put i rv
  have a2 : StE f1 O1 H1 f1 P H1 := N9 sub
  obtain ⟨P3, sub3, I3⟩ := I2.put j (Rep.stp I1 a2.stp ru)
  exact k _ H1 f1 P3 (a1.stp.trans (a2.stp.trans (N9 sub3).stp)) I3
end
theorem walkD {l : PySem.W.OpenLaw} {q : Program} {loose : List Str} {XP : (Str → Option Value) → Heap → Prop} {YP : World → Heap → Prop} {d : DefRec} {K : Params → PySem.W.Frag} {m : a7} {k : Nat} (hn : l.most = some 63) (hdf : d.params.defaults = []) (hr : Room k callerA)
  (hY : ∀ (w : World) (h : Heap), YP w h → (K w.params).In h)
  (F : ∀ (w : World) (mg : Str → Option Value) (fa : Addr) (h : Heap), (K w.params).In h → h.Ns mainGlobals mg → mg d.name = some (.ref fa) →
   ∃ fd : FuncData, (∀ (s : Shared) (u : Value), BindsTo s fd ⟨[u], []⟩ [("_law_script", u)]) ∧ ∀ base : Heap, (K w.params).In base → base.Ns mainGlobals mg → FnOk l.prog w (K w.params) mg base E6 k fa fd ["_law_script"] (S7 (K w.params) 1 m))
  (math : ∀ ns : List Int, ns.length ≤ 63 → ∃ fs', m [.scr ns] none = some (.bl true, fs')) :
  PySem.W.WalkO q loose XP YP l.row.toRowW d [] (fun f vs => PySem.call f vs) :=
 L2.walk_of (n := 63) (k := k) (x := "_law_script") (CX := fun _ => E6) (sp := fun w => S7 (K w.params) 1 m) hn (by decide) hdf hr hY F (fun w H a ns hl hO hS => by
  obtain ⟨fs', e⟩ := math ns hl
  refine ⟨fun _ => False, none, [.scr ns], none, .bl true, fs', fun b z => z.elim, fun a z => (by cases z), ?_, trivial, e, rfl, fun v H' fa' _ _ r => by simpa only [Rep] using r⟩
  simp only [Reps, Rep]
  refine ⟨_, _, rfl, ⟨hl, a, rfl, ?_⟩, rfl⟩
  rcases hS with (z | ⟨o, z⟩) | z
  ·rcases hO a with y | ⟨o, xs, y⟩ <;> · rw [z] at y; cases y
  ·exact .inl ⟨o, z⟩
  ·exact .inr z) fun _ _ _ _ _ z => z
section
variable {X : Cx} {g : Gh} {a b c : Expr} {fa fb fc : DE} {pos : Pos}
noncomputable abbrev DO := DS → Option (Option Int × DS)
noncomputable def liftO (K : PySem.W.Frag) (g : Gh) (f : DO) : L2.TO := fun σ H Q => ∃ fa O s d s', GI K g σ H fa O s ∧ f s = some (d, s') ∧ ∀ H' fa' O', StE fa O H fa' O' H' → GI K g σ H' fa' O' s' → Q d H'
theorem liftO.elim {K : PySem.W.Frag} {g : Gh} {σ : L2.St} {H : Hp} {G : Prop} {f : DO} {Q : Option Int → Hp → Prop} (h : liftO K g f σ H Q) (k : ∀ fa O s d s', GI K g σ H fa O s → f s = some (d, s') → (∀ H' fa' O', StE fa O H fa' O' H' → GI K g σ H' fa' O' s' → Q d H') → G) : G := by
 obtain ⟨fa, O, s, d, s', a, b, c⟩ := h
 exact k fa O s d s' a b c
structure OO (X : Cx) (g : Gh) (e : Option Expr) (f : DO) : Prop where
 pe : PO X e (liftO X.K g f)
noncomputable def O5 : DO := fun s => some (none, s)
noncomputable def O7 (f : DE) : DO := fun s => (f s).bind fun x => match x.1 with | .int i => some (some i, x.2) | _ => none
theorem pk {e : Option Expr} {t t' : L2.TO} (h : PO X e t) (w : ∀ σ H Q, t' σ H Q → t σ H Q) : PO X e t' := fun pins s σ H Q I q => h pins s σ H Q I (w σ H Q q)
theorem OO.w {e : Option Expr} {f : DO} {t : L2.TO} (h : PO X e t) (w : ∀ σ H Q, liftO X.K g f σ H Q → t σ H Q) : OO X g e f := ⟨pk h w⟩
theorem uG : OO X g none O5 := OO.w fQ fun σ H Q hQ => by
 refine hQ.elim fun f0 O s d s' I e k => ?_
 cases e
 exact k H f0 O StE.refl I
theorem pU (h : BO X g a fa) : OO X g (some a) (O7 fa) := OO.w (ix h.pe) fun σ H Q hQ => by
 refine hQ.elim fun f0 O s d s' I e k => ?_
 refine k4 e fun x s1 h1 e => ?_
 cases x with
 | int i =>
  simp only [Option.some.injEq, Prod.mk.injEq] at e
  obtain ⟨e1, e2⟩ := e
  subst e1; subst e2
  exact ⟨f0, O, s, .int i, s1, I, h1, fun v H1 f1 O1 a1 I1 r1 => ⟨i, by simpa only [RepB, Rep] using r1, k H1 f1 O1 a1 I1⟩⟩
 | _ => cases e
noncomputable def D5 (xs : List D) (lo hi : Option Int) : List D := (xs.drop (HT.sIx xs.length 0 lo)).take (HT.sIx xs.length xs.length hi - HT.sIx xs.length 0 lo)
theorem bA {K : PySem.W.Frag} {N : Addr → Prop} {fa : Option Addr} {H : Hp} {ds : List D} {xs : List V} (r : Reps K N fa H ds xs) (lo hi : Option Int) : Reps K N fa H (D5 ds lo hi) (C9 xs lo hi) := by
 unfold D5 C9
 rw [r.length]
 exact (r.drop _).take _
end
end DL
namespace HT2
open PySem PyProof.Rows HT
section
variable {prog : Program} {w : World} {A : Around} {E : Value → Shared → Prop} {s : Shared}
theorem getItem_tuple_whole {t sl : Addr} {items : Array Value} {vl vu : Value} {lo hi : Option Int} {Q : Value → Shared → Prop} (ht : IsTup s.heap t items) (hs : s.heap.IsSliceOf sl vl vu .none) (pl : IsPart vl lo) (pu : IsPart vu hi)
  (hw : sIx items.size 0 lo = 0 ∧ sIx items.size items.size hi = items.size) (h : Q (.ref t) s) : wpAny (model prog w) A (getItem (.ref t) (.ref sl)) Q E s := by
 obtain ⟨os, hos, hcs, hds⟩ := id hs
 have hTs : s.TypeIs (.ref sl) "slice" := ⟨os, hos, hcs⟩
 unfold getItem
 try with_reducible refine wpAny_holding ?_
 first | refine wpAny_bind (wpAny_pure ?_) | skip
 refine wpAny_bind (wpAny_sequenceKey ht.typeIs (by decide) ?_)
 refine wpAny_bind (wpAny_callSpecial?_slot (name := Str.ofString "__getitem__") ht.typeIs PyProof.Rows.slot_tuple_getitem
  (wpAny_call_entry PyProof.Rows.slot_tuple_getitem ht.typeIs entry_tuple_getitem ?_ (args_tuple_getitem _ _)))
 show wpAny _ _ (Builtin.Tuple.tupleItemsOf (.ref t) >>= _) _ _ s
 refine wpAny_bind (tupleItemsOf_ ht ?_)
 refine wpAny_bind (wpAny_typeOf hTs ?_)
 rw [if_pos (by decide)]
 refine wpAny_bind (fS hs pl pu ?_)
 have hyes : (((sIx items.size 0 lo : Nat) : Int) == 0 && (1 : Int) == 1 && (sIx items.size items.size hi - sIx items.size 0 lo) == items.size) = true := by
  rw [hw.1, hw.2]; simp
 show wpAny _ _ (if (((sIx items.size 0 lo : Nat) : Int) == 0 && (1 : Int) == 1 && (sIx items.size items.size hi - sIx items.size 0 lo) == items.size) = true then _ else _) _ _ s
 rw [if_pos hyes]
 refine wpAny_bind (m := Builtin.Tuple.tupleIsExact _) (wpAny_bind (wpAny_typeOf ht.typeIs (wpAny_pure ?_)))
 rw [if_pos (by decide)]
 first
  | exact wpAny_bind (wpAny_rule (wpAny_bind (wpAny_pure (wpAny_pure ⟨_, rfl, wpAny_pure h⟩))))
  | exact wpAny_bind (wpAny_rule (wpAny_pure ⟨_, rfl, wpAny_pure h⟩))
  | exact wpAny_bind (wpAny_rule (wpAny_bind (wpAny_pure ⟨_, rfl, wpAny_pure h⟩)))
end
end HT2
namespace DL
open PySem PySem.Spec L2
section
variable {X : Cx} {g : Gh} {a : Expr} {fa : DE} {pos : Pos}
noncomputable def kj (K : PySem.W.Frag) : V → Option Int → Option Int → Hp → VK → Prop := fun x lo hi H Q => ∃ a xs, x = .ref a ∧ SqT K H a xs ∧ (HT.sIx xs.length 0 lo = 0 ∧ HT.sIx xs.length xs.length hi = xs.length) ∧ Q (.ref a) H
theorem pC : L2.SlR X (kj X.K) := by
 intro pins s σ H x v vl vu lo hi sl Q I rx hs pl pu h
 obtain ⟨a, xs, rfl, hx, hw, q⟩ := h
 cases rx
 obtain ⟨its, r, ht, hz⟩ := I.tuple hx
 have hlen : its.toArray.size = xs.length := by rw [List.size_toArray]; exact r.length.symm
 refine ⟨"tuple", _, PyProof.Rows.slot_tuple_getitem.lookup, ht.typeIs, ?_⟩
 exact HT2.getItem_tuple_whole ht hs pl pu (by rw [hlen]; exact hw) ⟨.ref a, H, I, rfl, q⟩
theorem nO {xs : List D} {lo hi : Option Int} (h : HT.sIx xs.length 0 lo = 0 ∧ HT.sIx xs.length xs.length hi = xs.length) : D5 xs lo hi = xs := by
 unfold D5
 rw [h.1, h.2, List.drop_zero, Nat.sub_zero, List.take_length]
noncomputable def K3 (f : DE) (lo hi : DO) : DE := fun s => (f s).bind fun x => (lo x.2).bind fun l => (hi l.2).bind fun h => match x.1 with
 | .tup ds => some (.tup (D5 ds l.1 h.1), h.2)
 | .lst ds => some (.lst (D5 ds l.1 h.1), h.2)
 | _ => none
theorem sU {x r : D} {F : List D → List D} {t z : DS} (e : (match x with
 | .tup ds => some (D.tup (F ds), t)
 | .lst ds => some (D.lst (F ds), t)
 | _ => none) = some (r, z)) : t = z ∧ ((∃ ds, x = .lst ds ∧ r = .lst (F ds)) ∨ ∃ ds, x = .tup ds ∧ r = .tup (F ds)) := by
 cases x with
 | tup ds => cases e; exact ⟨rfl, .inr ⟨ds, rfl, rfl⟩⟩
 | lst ds => cases e; exact ⟨rfl, .inl ⟨ds, rfl, rfl⟩⟩
 | _ => cases e
theorem pO {lo hi : Option Expr} {fl fh : DO} {p2 : Pos} (ha : BO X g a fa) (hl : OO X g lo fl) (hh : OO X g hi fh) : EO X g (.Subscript a (.Slice lo hi none p2) pos) (K3 fa fl fh) :=
 EO.w (iT (L2.SlR.or (L2.SlR.or mE pC) eV) ha.pe hl.pe hh.pe) fun σ H Q hQ => by
  refine hQ.elim fun f0 O s d s' I e k => ?_
  refine k4 e fun x s1 h1 e => ?_
  refine k4 e fun l s2 h2 e => ?_
  refine k4 e fun h s3 h3 e => ?_
  obtain ⟨rfl, c⟩ := sU (F := fun ds => D5 ds l h) e
  refine ⟨f0, O, s, x, s1, I, h1, fun v H1 f1 O1 a1 I1 r1 => ⟨f1, O1, s1, l, s2, I1, h2, fun H2 f2 O2 a2 I2 => ⟨f2, O2, s2, h, s3, I2, h3, fun H3 f3 O3 a3 I3 => ?_⟩⟩⟩
  have r3 := RepB.stp I2 a3 (RepB.stp I1 a2 r1)
  rcases c with ⟨ds, rfl, rfl⟩ | ⟨ds, rfl, rfl⟩
  ·obtain ⟨c, xs, rfl, _, q, w⟩ := r3
   refine .inr ⟨c, xs, rfl, SqL.of q, fun p hp => ?_⟩
   have a4 : StE f3 O3 H3 f3 O3 (e7 H3 p (.lst (C9 xs l h))) := v3 hp
   have L := R4 I3 hp (bA w l h)
   refine k _ _ f3 O3 (a1.trans (a2.trans (a3.trans a4))) L.gi ?_
   simp only [Rep]
   exact ⟨p, _, rfl, Y4 I3 a4 L.gi hp L.nf, r8, Reps.stp I3 a4.stp (bA w l h)⟩
  ·simp only [RepB, Rep] at r3
   obtain ⟨c, xs, rfl, q, w⟩ := r3
   by_cases hw : HT.sIx xs.length 0 l = 0 ∧ HT.sIx xs.length xs.length h = xs.length
   ·refine .inl (.inr ⟨c, xs, rfl, q, hw, k _ H3 f3 O3 (a1.trans (a2.trans a3)) I3 ?_⟩)
    rw [w.length] at hw
    rw [nO hw]
    simp only [Rep]
    exact ⟨c, xs, rfl, q, w⟩
   ·refine .inl (.inl ⟨c, xs, rfl, q, hw, fun p hp => ?_⟩)
    have a4 : StE f3 O3 H3 f3 O3 (e7 H3 p (.tup (C9 xs l h))) := v3 hp
    refine k _ _ f3 O3 (a1.trans (a2.trans (a3.trans a4))) (I3.new hp) ?_
    simp only [Rep]
    exact ⟨p, _, rfl, SqT.of r8, Reps.stp I3 a4.stp (bA w l h)⟩
end
noncomputable def noStar : Expr → Bool
 | .Starred _ _ => false
 | _ => true
theorem fK {a : Expr} {es : List Expr} {env : Env} (h : noStar a = true) : starEach (a :: es) env = (false, eval a env) :: starEach es env := by
 cases a <;> first | rfl | (cases h)
section
variable {X : Cx} {g : Gh} {a : Expr} {es : List Expr} {fa : DE} {fr : DA}
theorem ac (ha : EO X g a fa) (hr : AO X g es fr) (hs : noStar a = true := by rfl) : AO X g (a :: es) (a0 fa fr) := aW ha hr (fK hs)
theorem bc (ha : BO X g a fa) (hr : BAO X g es fr) (hs : noStar a = true := by rfl) : BAO X g (a :: es) (a0 fa fr) := km ha hr (fK hs)
end
end DL
namespace DL
open PySem PySem.Spec L2 PyProof.Rows
noncomputable def Z5 (x : D) (ds : List D) : Bool := (D.pys ds).any fun y => PyData.eqv y x.py
noncomputable def X6 (f : Bool → Bool) (x c : D) : Option D := match c with
 | .lst ds => if p9 x && p9 (.lst ds) then some (.bl (f (Z5 x ds))) else none
 | .tup ds => if p9 x && p9 (.tup ds) then some (.bl (f (Z5 x ds))) else none
 | _ => none
noncomputable def T4 (x c : D) : Option D := X6 id x c
noncomputable def df (K : PySem.W.Frag) (f : Bool → Bool) : R2 := fun x y H Q => ∃ N fa d1 d2 ds, RepB K N fa H d1 x ∧ RepB K N fa H d2 y ∧ (d2 = .lst ds ∨ d2 = .tup ds) ∧ p9 d1 = true ∧ p9 d2 = true ∧ Q (.bl (f (Z5 d1 ds))) H
section
variable {X : Cx} {K : PySem.W.Frag}
theorem gC {u a b : Nat} (h : u + 64 < cLine) (ha : a + 1 ≤ 64) : u + 1 + min a b < cLine := by
 have : min a b ≤ a := Nat.min_le_left _ _
 omega
theorem nA (hu : X.A.units + 64 < cLine) : OpR X (compareOp .In) (df X.K id) := by
 intro pins s σ H x y v u Q I rx ry h
 obtain ⟨N, fa, d1, d2, ds, r1, r2, hd, o1, o2, q⟩ := h
 unfold p9 at o1 o2
 rw [Bool.and_eq_true] at o1 o2
 obtain ⟨as, h1⟩ := M7 I d1 x v r1.o rx o1.1
 obtain ⟨bs, h2⟩ := M7 I d2 y u r2.o ry o2.1
 have l2 := SeqAt.canLay_of_shaped o2.2
 have dp := SeqAt.depth_of_shaped o2.2
 rcases hd with rfl | rfl
 ·simp only [D.py, PyData.canLay0, PyData.depth] at h2 l2 dp
  exact SeqAt.in_list_reads h2 h1 l2 (SeqAt.canLay_of_shaped o1.2) (gC hu dp) ⟨.bl _, H, I, rfl, q⟩
 ·simp only [D.py, PyData.canLay0, PyData.depth] at h2 l2 dp
  exact SeqAt.in_tuple_reads h2 h1 l2 (SeqAt.canLay_of_shaped o1.2) (gC hu dp) ⟨.bl _, H, I, rfl, q⟩
theorem kA {f : Bool → Bool} {x c d : D} (h : X6 f x c = some d) : ∃ ds, (c = .lst ds ∨ c = .tup ds) ∧ p9 x = true ∧ p9 c = true ∧ d = .bl (f (Z5 x ds)) := by
 unfold X6 at h
 cases c with
 | lst ds =>
  simp only at h
  split at h
  ·rename_i q; rw [Bool.and_eq_true] at q; cases h; exact ⟨ds, .inl rfl, q.1, q.2, rfl⟩
  ·cases h
 | tup ds =>
  simp only at h
  split at h
  ·rename_i q; rw [Bool.and_eq_true] at q; cases h; exact ⟨ds, .inr rfl, q.1, q.2, rfl⟩
  ·cases h
 | _ => cases h
theorem uD (f : Bool → Bool) : w9 K (df K f) (X6 f) := by
 intro g σ H fa O s x y d1 d2 d Q I r1 r2 e k
 obtain ⟨ds, hc, o1, o2, rfl⟩ := kA e
 exact ⟨_, fa, d1, d2, ds, r1, r2, hc, o1, o2, k _ H StE.refl I (by simp only [Rep])⟩
theorem kN : w9 K (df K id) T4 := uD id
end
structure LitV (K : PySem.W.Frag) (d : D) (u : Value) : Prop where
 ex : ∃ v : V, RelV v u ∧ ∀ N fa H, Rep K N fa H d v
section
variable {K : PySem.W.Frag}
theorem nN (i : Int) (t : Tok) : LitV K (.int i) (.int i t) := ⟨.int i, ⟨t, rfl⟩, fun _ _ _ => by simp only [Rep]⟩
end
structure Con (K : PySem.W.Frag) (mg : Str → Option Value) (x : Str) (d : D) : Prop where
 ex : ∃ u : Value, mg x = some u ∧ LitV K d u
theorem uv {X : Cx} {g : Gh} {x : Str} {d : D} {pos : Pos} (C : Con X.K X.mg x d) (hg : Gl X x) (hd : (x == ("__debug__" : Str)) = false := by decide) : EO X g (.Name x pos) (dC d) := by
 obtain ⟨u, hm, h⟩ := C.ex
 obtain ⟨v, r, q⟩ := h.ex
 exact EO.w (aX (v := v) hg hm r hd) fun σ H Q hQ => by
  refine hQ.elim fun fa O s d' s' I e k => ?_
  simp only [dC, Option.some.injEq, Prod.mk.injEq] at e
  obtain ⟨q1, q2⟩ := e
  subst q1; subst q2
  exact k v H fa O StE.refl I (q _ _ _)
end DL
namespace DL
open PySem PySem.Spec L2
theorem Q0 {α : Type _} {P : List α → Prop} (h : ∀ a1 : α, P [a1]) : ∀ us : List α, us.length = 1 → P us := by
 intro us e
 match us, e with | [a1], _ => exact h a1
theorem on2 {α : Type _} {P : List α → Prop} (h : ∀ a1 a2 : α, P [a1, a2]) : ∀ us : List α, us.length = 2 → P us := by
 intro us e
 match us, e with | [a1, a2], _ => exact h a1 a2
theorem on3 {α : Type _} {P : List α → Prop} (h : ∀ a1 a2 a3 : α, P [a1, a2, a3]) : ∀ us : List α, us.length = 3 → P us := by
 intro us e
 match us, e with | [a1, a2, a3], _ => exact h a1 a2 a3
structure GF (K : PySem.W.Frag) (mg : Str → Option Value) (n : Str) (st : Stmt) (f : Addr) (fd : FuncData) : Prop where
 F : Fun K n n st f fd
 m : mg n = some (.ref f)
section
variable {K : PySem.W.Frag} {h : Heap} {mg : Str → Option Value} {n : Str} {st : Stmt} {f : Addr} {fd : FuncData}
theorem gf_mk (X : K.In h) (G : h.Ns mainGlobals mg) {oc : Value} {od an : Option Addr} {osl : Array (Option Value)} {kV doc pm cdv ct : Value} (a : PySem.W.nsIn K mainGlobals n = some (some (.ref f))) (l : K.lookup f = some ⟨oc, od, .func (PySem.W.fnOf n n (K0 st) (B1 st) (j4 st) .none kV doc pm an cdv ct), osl⟩)
  (c : PySem.W.codeIn K cdv n = true) (k : PySem.W.keepIn K (.ref f) = true) : GF K mg n st f (PySem.W.fnOf n n (K0 st) (B1 st) (j4 st) .none kV doc pm an cdv ct) := ⟨oO l c k, PySem.W.mg_of X G a⟩
theorem uk {x : Str} (F : Fun K n n st f fd) (q : ∀ (kV doc pm : Value) (an : Option Addr) (cdv ct : Value) (s : Shared) (v : Value), BindsTo s (PySem.W.fnOf n n (K0 st) (B1 st) (j4 st) .none kV doc pm an cdv ct) ⟨[v], []⟩ [(x, v)]) : ∀ (s : Shared) (v : Value), BindsTo s fd ⟨[v], []⟩ [(x, v)] := by
 obtain ⟨oc, od, kV, doc, pm, an, cdv, ct, osl, rfl, lk, hcd⟩ := F.ex
 exact fun s v => q kV doc pm an cdv ct s v
theorem blt_mk (X : K.In h) (G : h.Ns mainGlobals mg) (z0 : PySem.W.nsIn K mainGlobals "len" = some none) (z1 : PySem.W.nsIn K mainGlobals "range" = some none) (z2 : PySem.W.nsIn K mainGlobals "abs" = some none) (z3 : PySem.W.nsIn K mainGlobals "tuple" = some none) (z4 : PySem.W.nsIn K mainGlobals "list" = some none) (z5 : PySem.W.nsIn K mainGlobals "int" = some none) (z6 : PySem.W.nsIn K mainGlobals "bool" = some none) (z7 : PySem.W.nsIn K mainGlobals "str" = some none) (z8 : PySem.W.nsIn K mainGlobals "repr" = some none) (z9 : PySem.W.nsIn K mainGlobals "all" = some none) (z10 : PySem.W.nsIn K mainGlobals "isinstance" = some none) (z11 : PySem.W.nsIn K mainGlobals "zip" = some none) (z12 : PySem.W.nsIn K mainGlobals "enumerate" = some none) (z13 : PySem.W.nsIn K mainGlobals "min" = some none) (z14 : PySem.W.nsIn K mainGlobals "max" = some none) (z15 : PySem.W.nsIn K mainGlobals "reversed" = some none) (z16 : PySem.W.nsIn K mainGlobals "any" = some none) (z17 : PySem.W.nsIn K mainGlobals "sum" = some none) (z18 : PySem.W.nsIn K mainGlobals "sorted" = some none) : Blt mg := ⟨PySem.W.mg_none_of X G z0, PySem.W.mg_none_of X G z1, PySem.W.mg_none_of X G z2, PySem.W.mg_none_of X G z3, PySem.W.mg_none_of X G z4, PySem.W.mg_none_of X G z5, PySem.W.mg_none_of X G z6, PySem.W.mg_none_of X G z7, PySem.W.mg_none_of X G z8, PySem.W.mg_none_of X G z9, PySem.W.mg_none_of X G z10, PySem.W.mg_none_of X G z11, PySem.W.mg_none_of X G z12, PySem.W.mg_none_of X G z13, PySem.W.mg_none_of X G z14, PySem.W.mg_none_of X G z15, PySem.W.mg_none_of X G z16, PySem.W.mg_none_of X G z17, PySem.W.mg_none_of X G z18⟩
theorem t8 {P : Program} {w : World} {base : Heap} {N ps : List Str} {k : Nat} {b : DM} (F : GF K mg n st f fd) (q : ∀ (kV doc pm : Value) (an : Option Addr) (cdv ct : Value) (us : List Value), us.length = ps.length → bindArgs (PySem.W.fnOf n n (K0 st) (B1 st) (j4 st) .none kV doc pm an cdv ct) ⟨us, []⟩ = pure (ps.zip us)) (S : FnScope N ps (j4 st))
  (hbody : ∀ (cdv : Value) (A : Around) (outer : List Env) (s : Shared) (H : Hp) (E : XK) (g : Gh), Room k (A.deeper (PyProof.Rows.envOfC n (j4 st) s.heap.objs.size f cdv)) → SSO (A9 E6 P w K mg base N n (j4 st) f cdv A outer s H E).nox g (B1 st) b) :
  Cal P w K mg base (k + 1) n ps (n8 N.length b) := kR F.F F.m (F.F.binds q) S hbody
end
end DL
namespace L2
open PySem PySem.W PySem.Spec PySem.Builtin PySem.Builtin.ObjectAttr
section
variable {prog : Program} {w : World} {A : Around} {E : Value → Shared → Prop} {h : Heap} {g : Array GenState} {d : Drawn} {t : Nat} {os : OsState} {K : PySem.W.Frag} {x C dx : Addr} {o : Obj} {vs : Array Value} {mA : Str → Option Value} {name : Str} {v : Value}
theorem lG {tk : Tok} {Q : Fin → Shared → Prop} (X : K.In h) (hx : h.get? x = some o) (hc : o.cls = .ref C) (hd : o.data = .fields vs) (hdx : o.dict = some dx) (hn : h.Ns dx mA) (hv : mA name = some v) (f0 : hasDictIn K C = true)
  (f3 : findIn K (.ref C) name = some none) (hq : Q (.done (.ret v)) ⟨h, g, d, t, os⟩) :
  wpAny (model prog w) A (Builtin.«object.__getattribute__» ⟨[.ref x, .str name tk], []⟩) Q E ⟨h, g, d, t, os⟩ := by
 have L := looks_findIn (M := model prog w) X f3
 unfold Builtin.«object.__getattribute__»
 repeat (any_goals (first | assumption | (with_reducible refine wpAny_loadPart_at hx ?_; rw [hc]) | with_reducible refine L.at ?_ | wp_step))
 obtain ⟨cd, hcd, hdc⟩ := any_some f0
 have LC := looks_clsIn (M := model prog w) X hcd
 rw [hd]
 unfold instanceDict
 repeat (first | (with_reducible refine wpAny_loadPart_at hx ?_; rw [hc]) | with_reducible refine LC.at ?_ | wp_step)
 rw [hdx]
 repeat (first | (with_reducible refine wpAny_nsGet hn ?_; rw [hv]) | wp_step)
 exact hq
theorem hJ {M : Model} {nameV : Value} {Q : Unit → Shared → Prop} (X : K.In h) (f4 : subIn K (.ref C) (.type "BaseException") = some true) (hx : h.get? x = some o) (hc : o.cls = .ref C) (hq : Q () ⟨h, g, d, t, os⟩) :
  wpAny M A (checkBuiltinCall "BaseException.__getattribute__" ⟨[.ref x, nameV], []⟩) Q E ⟨h, g, d, t, os⟩ := by
 have L := looks_subIn (M := M) X f4
 have k1 : builtinKind "BaseException.__getattribute__" = some .slot := by decide +kernel
 have k2 : splitId "BaseException.__getattribute__" = some ("BaseException", "__getattribute__") := by decide +kernel
 have ha := F.args_bexc_ga (.ref x) nameV
 simp only [checkBuiltinCall, k1, k2]
 refine wpAny_bind ?_
 unfold isInstance
 repeat (first | (with_reducible refine wpAny_loadPart_at hx ?_; rw [hc]) | with_reducible refine L.at ?_ | wp_step)
 exact hq
theorem ki {tk : Tok} {R : Result → Shared → Prop} (X : K.In h) (hx : h.get? x = some o) (hc : o.cls = .ref C) (hd : o.data = .fields vs) (hdx : o.dict = some dx) (hn : h.Ns dx mA) (hv : mA name = some v) (f0 : hasDictIn K C = true)
  (f3 : findIn K (.ref C) name = some none) (f4 : subIn K (.ref C) (.type "BaseException") = some true) (hq : R (.ok (.ret v)) ⟨h, g, d, t, os⟩) :
  codeAny (model prog w) A (.call (.builtin "BaseException.__getattribute__") ⟨[.ref x, .str name tk], []⟩) R ⟨h, g, d, t, os⟩ :=
 codeAny_call_builtin PySem.F.attr_ValueError.ga.plain F.entry_bexc_ga (hJ X f4 hx hc (lG X hx hc hd hdx hn hv f0 f3 hq))
theorem uL {tk : Tok} {fill expr : Bool} {Q : Value → Shared → Prop} (X : K.In h) (hx : h.get? x = some o) (hc : o.cls = .ref C) (hd : o.data = .fields vs) (hdx : o.dict = some dx) (hn : h.Ns dx mA) (hv : mA name = some v) (f0 : hasDictIn K C = true)
  (f1 : findIn K (.ref C) "__getattribute__" = some (some (.builtin "BaseException.__getattribute__"))) (f2 : findIn K (.ref C) "__getattr__" = some none) (f3 : findIn K (.ref C) name = some none) (f4 : subIn K (.ref C) (.type "BaseException") = some true) (hh : ∀ id, v ≠ .builtin id) (hq : Q v ⟨h, g, d, t, os⟩) :
  wpAny (model prog w) A (getAttrBy (.ref x) (.str name tk) fill expr) Q E ⟨h, g, d, t, os⟩ := by
 have L1 := looks_findIn (M := model prog w) X f1
 have L2 := looks_findIn (M := model prog w) X f2
 have b3 := PySem.F.attr_ValueError.ga.bind (.ref x)
 have y0 : (expr && onTheHeap (Value.builtin "BaseException.__getattribute__")) = false := by cases expr <;> rfl
 have y2 : (Value.builtin "BaseException.__getattribute__" == Value.builtin "object.__getattribute__") = false := by decide +kernel
 have y1 : (onTheHeap (Value.ref C) && Value.builtin "BaseException.__getattribute__" == Value.builtin "object.__getattribute__") = false := by rw [y2]; rfl
 repeat (any_goals (first | assumption | (with_reducible refine wpAny_loadPart_at hx ?_; rw [hc]) | with_reducible refine L1.at ?_ | with_reducible refine L2.at ?_ | wp_step))
 refine ki X hx hc hd hdx hn hv f0 f3 f4 ?_
 repeat (any_goals (first | assumption | wp_step))
 cases v <;> first | exact wpAny_pure hq | exact absurd rfl (hh _)
theorem qi {expr : Bool} {Q : Value → Shared → Prop} (X : K.In h) (hx : h.get? x = some o) (hc : o.cls = .ref C) (hd : o.data = .fields vs) (hdx : o.dict = some dx) (hn : h.Ns dx mA) (hv : mA name = some v) (f0 : hasDictIn K C = true)
  (f1 : findIn K (.ref C) "__getattribute__" = some (some (.builtin "BaseException.__getattribute__"))) (f2 : findIn K (.ref C) "__getattr__" = some none) (f3 : findIn K (.ref C) name = some none) (f4 : subIn K (.ref C) (.type "BaseException") = some true) (hh : ∀ id, v ≠ .builtin id) (hq : Q v ⟨h, g, d, t + 1, os⟩) :
  wpAny (model prog w) A (getAttr (.ref x) name expr) Q E ⟨h, g, d, t, os⟩ := by
 unfold getAttr
 repeat (any_goals (first | assumption | with_reducible apply uL X hx hc hd hdx hn hv f0 f1 f2 f3 f4 hh | wp_step))
theorem sP {R : Result → Shared → Prop} (X : K.In h) (hx : h.get? x = some o) (hc : o.cls = .ref C) (f5 : subIn K (.ref C) (.type "object") = some true) (hq : R (.ok (.ret (.ref C))) ⟨h, g, d, t, os⟩) :
  codeAny (model prog w) A (.call (.builtin "getset_descriptor.__get__") ⟨[.builtin "object.__class__", .ref x, .ref C], []⟩) R ⟨h, g, d, t, os⟩ := by
 have b5 : (⟨h, g, d, t, os⟩ : Shared).TypeIs (.builtin "object.__class__") "getset_descriptor" := F.typeOf_object_class
 have L := looks_subIn (M := model prog w) X (show subIn K (.ref C) (.type (".".intercalate ("object.__class__".cutAt '.').dropLast)) = some true by rw [F.owner_object_class]; exact f5)
 refine codeAny_call_builtin F.slot_gs_get.plain F.entry_gs_get (F.slot_gs_get.check _ _ _ _ _ _ _ _ b5 (F.args_gs_get _ _ _) ?_)
 repeat (any_goals (first | assumption | (with_reducible refine wpAny_loadPart_at hx ?_; rw [hc]) | with_reducible refine L.at ?_ | wp_step))
 refine ⟨Code.quiet_builtin _ (by decide +kernel), codeAny_builtin F.entry_object_class ?_⟩
 repeat (any_goals (first | assumption | (with_reducible refine wpAny_loadPart_at hx ?_; rw [hc]) | wp_step))
theorem qR {tk : Tok} {Q : Fin → Shared → Prop} (X : K.In h) (hx : h.get? x = some o) (hc : o.cls = .ref C) (f5 : subIn K (.ref C) (.type "object") = some true) (f6 : findIn K (.ref C) "__class__" = some (some (.builtin "object.__class__"))) (hq : Q (.done (.ret (.ref C))) ⟨h, g, d, t, os⟩) :
  wpAny (model prog w) A (Builtin.«object.__getattribute__» ⟨[.ref x, .str "__class__" tk], []⟩) Q E ⟨h, g, d, t, os⟩ := by
 have L := looks_findIn (M := model prog w) X f6
 have b5 := F.typeOf_object_class
 have b6 := F.slot_gs_get.lookup
 have b7 := F.slot_gs_set.lookup
 have bT : (⟨h, g, d, t, os⟩ : Shared).TypeIs (.builtin "object.__class__") "getset_descriptor" := F.typeOf_object_class
 repeat (any_goals (first | assumption | (with_reducible refine wpAny_loadPart_at hx ?_; rw [hc]) | with_reducible refine L.at ?_ | wp_step))
 refine sP X hx hc f5 ?_
 repeat (any_goals (first | assumption | wp_step))
theorem tM {tk : Tok} {Q : Value → Shared → Prop} (X : K.In h) (hx : h.get? x = some o) (hc : o.cls = .ref C) (f5 : subIn K (.ref C) (.type "object") = some true) (f6 : findIn K (.ref C) "__class__" = some (some (.builtin "object.__class__")))
  (f1 : findIn K (.ref C) "__getattribute__" = some (some (.builtin "BaseException.__getattribute__"))) (f2 : findIn K (.ref C) "__getattr__" = some none) (f4 : subIn K (.ref C) (.type "BaseException") = some true) (hq : Q (.ref C) ⟨h, g, d, t, os⟩) :
  wpAny (model prog w) A (getAttrBy (.ref x) (.str "__class__" tk) false) Q E ⟨h, g, d, t, os⟩ := by
 have L1 := looks_findIn (M := model prog w) X f1
 have L2 := looks_findIn (M := model prog w) X f2
 have b3 := PySem.F.attr_ValueError.ga.bind (.ref x)
 have y2 : (Value.builtin "BaseException.__getattribute__" == Value.builtin "object.__getattribute__") = false := by decide +kernel
 have y1 : (onTheHeap (Value.ref C) && Value.builtin "BaseException.__getattribute__" == Value.builtin "object.__getattribute__") = false := by rw [y2]; rfl
 repeat (any_goals (first | assumption | (with_reducible refine wpAny_loadPart_at hx ?_; rw [hc]) | with_reducible refine L1.at ?_ | with_reducible refine L2.at ?_ | wp_step))
 refine codeAny_call_builtin PySem.F.attr_ValueError.ga.plain F.entry_bexc_ga (hJ X f4 hx hc (qR X hx hc f5 f6 ?_))
 repeat (any_goals (first | assumption | wp_step))
theorem kn {Q : Option Value → Shared → Prop} (X : K.In h) (hx : h.get? x = some o) (hc : o.cls = .ref C) (f5 : subIn K (.ref C) (.type "object") = some true) (f6 : findIn K (.ref C) "__class__" = some (some (.builtin "object.__class__")))
  (f1 : findIn K (.ref C) "__getattribute__" = some (some (.builtin "BaseException.__getattribute__"))) (f2 : findIn K (.ref C) "__getattr__" = some none) (f4 : subIn K (.ref C) (.type "BaseException") = some true) (hq : Q (some (.ref C)) ⟨h, g, d, t + 1, os⟩) :
  wpAny (model prog w) A (getAttr? (.ref x) "__class__") Q E ⟨h, g, d, t, os⟩ := by
 unfold getAttr? getAttrBy?
 repeat (any_goals (first | assumption | with_reducible apply tM X hx hc f5 f6 f1 f2 f4 | wp_step))
structure XC (K : PySem.W.Frag) (C : Addr) : Prop where
 f0 : hasDictIn K C = true
 f1 : findIn K (.ref C) "__getattribute__" = some (some (.builtin "BaseException.__getattribute__"))
 f2 : findIn K (.ref C) "__getattr__" = some none
 f4 : subIn K (.ref C) (.type "BaseException") = some true
 f5 : subIn K (.ref C) (.type "object") = some true
 f6 : findIn K (.ref C) "__class__" = some (some (.builtin "object.__class__"))
theorem XC.look (c : XC K C) : ∃ oc od cd sl, K.lookup C = some ⟨oc, od, .cls cd, sl⟩ ∧ cd.hasDict = true := by
 obtain ⟨cd, e, q⟩ := any_some c.f0
 unfold clsIn at e
 split at e
 ·rename_i oc od cd' sl z
  cases e
  exact ⟨oc, od, _, sl, z, q⟩
 ·cases e
theorem XC.kit (c : XC K C) : KitX K (.ref x) (.ref C) (fun h => ∃ o, h.get? x = some o ∧ o.cls = .ref C) where
 ty := fun M h _ hQ__ => by
  obtain ⟨o, e, q⟩ := hQ__
  intro A' Q' E' s' k z
  unfold typeOf
  refine wpAny_bind (wpAny_loadPart (k _ _ e) (wpAny_pure ?_))
  rw [q]
  exact z
 it := fun M h X _ => by
  obtain ⟨oc, od, cd, sl, e, _⟩ := c.look
  intro A' Q' E' s' k z
  unfold isType loadHead
  exact wpAny_bind (wpAny_loadPart (k _ _ (X _ _ e)) (wpAny_pure z))
 ne := fun h tp dd its n sl X e => by
  obtain ⟨oc, od, cd, sl', q, _⟩ := c.look
  refine Bool.eq_false_iff.mpr fun z => ?_
  have r : C = tp := Value.ref.inj (beq_iff_eq.mp z)
  rw [← r, X _ _ q] at e
  cases e
 ca := fun {_ _ _ _ _ s} X p k => by
  obtain ⟨h, g, d, t, os⟩ := s
  obtain ⟨o, e, q⟩ := p
  exact kn X e q c.f5 c.f6 c.f1 c.f2 c.f4 k
end
noncomputable abbrev K8 : String := "ValueError.__new__"
noncomputable abbrev bxF := PySem.F.excBase_ValueError
section
variable {M : Model} {prog : Program} {w : World} {A : Around} {E : Value → Shared → Prop} {h : Heap} {g : Array GenState} {d : Drawn} {t : Nat} {os : OsState} {K : PySem.W.Frag} {C N fI : Addr} {rest : List Value}
variable {nm q : Str} {bs bm : List Value} {hdct : Bool} {sn : List Str} {sub : List Value} {ab : Bool} {col : Option Bool} {dd : Option Addr} {k0 k1 k2 k3 k5 : Option Value}
theorem oJ {Q : Unit → Shared → Prop} (hC : h.get? C = some (excClassObj nm q C N bs bm hdct sn sub ab col dd k0 k1 k2 k3 k5 K8)) (b1 : (Value.ref C :: bm).contains (.type "ValueError") = true) (z : Q () ⟨h, g, d, t, os⟩) :
  wpAny M A (checkBuiltinCall K8 ⟨.ref C :: rest, []⟩) Q E ⟨h, g, d, t, os⟩ := by
 have st := bxF.noStar
 simp only [checkBuiltinCall, bxF.newKind, bxF.newSplit, bxF.newRow]
 repeat (first | refine wpAny_staticBase_exc hC ?_ | refine wpAny_madeBy_exc hC ?_ | (refine wpAny_isSubtype_exc hC ?_; rw [b1]) | refine wpAny_loadPart_at hC ?_ | simp only [bne_self_eq_false, Bool.false_eq_true, if_false] | wp_step)
 exact z
theorem rC {R : Result → Shared → Prop} (hC : h.get? C = some (excClassObj nm q C N bs bm hdct sn sub ab col dd k0 k1 k2 k3 k5 K8)) (b1 : (Value.ref C :: bm).contains (.type "ValueError") = true) (b2 : (Value.ref C :: bm).contains (.type "AttributeError") = false)
  (b3 : (Value.ref C :: bm).contains (.type "NameError") = false) (hr : rest.length ≤ sizeLine)
  (z : R (.ok (.ret (.ref (h.objs.size + 1)))) ⟨(h.push { cls := .type "tuple", data := .seq rest.toArray }).push { cls := .ref C, data := .fields #[.ref h.objs.size, .none, .none, .none, .bool false, .none] }, g, d, t, os⟩) :
  codeAny (model prog w) A (.builtin K8 ⟨.ref C :: rest, []⟩) R ⟨h, g, d, t, os⟩ := by
 have he := bxF.ends
 refine codeAny_builtinAt bxF.entry ?_
 unfold Builtin.«BaseException.__new__»
 refine wpAt_bind ?_
 show wpAt _ _ _ (stack >>= _) _ _ _
 refine wpAt_bind (wpAt_stack fun p below => wpAt_of_wpAny ?_)
 wp_walk
 refine wpAt_of_wpAny ?_
 rw [bxF.owner]
 repeat (first | (with_reducible refine wpAny_isSubtype_exc hC ?_; first | rw [b1] | rw [b2] | rw [b3]) | with_reducible refine wpAny_madeHere_exc bxF.canon hC ?_ | with_reducible refine wpAny_loadPart_at hC ?_ | wp_step)
 show R _ _
 rw [Heap.size_push]
 exact z
theorem tJ {oI : Obj} {Q : Fin → Shared → Prop} (X : K.In h) (lk : K.lookup C = some (excClassObj nm q C N bs bm hdct sn sub ab col dd k0 k1 k2 k3 k5 K8)) (b1 : (Value.ref C :: bm).contains (.type "ValueError") = true) (b2 : (Value.ref C :: bm).contains (.type "AttributeError") = false)
  (b3 : (Value.ref C :: bm).contains (.type "NameError") = false) (hi : findIn K (.ref C) "__init__" = some (some (.ref fI))) (lI : K.lookup fI = some oI) (cI : oI.cls = .type "function") (hr : rest.length ≤ sizeLine)
  (z : ∀ h' e, Heap.MadeExcOf h h' e (.ref C) rest → h.objs.size ≤ e → wpAny (model prog w) A (call (.ref fI) (.ref e :: rest)) (fun r s' => r = .none ∧ Q (.done (.ret (.ref e))) s') E ⟨h', g, d, t, os⟩) :
  wpAny (model prog w) A (Builtin.«type.__call__» ⟨.ref C :: rest, []⟩) Q E ⟨h, g, d, t, os⟩ := by
 have hC := X _ _ lk
 repeat (first | with_reducible refine wpAny_madeBy_exc hC ?_ | with_reducible refine wpAny_loadPart_at hC ?_ | wp_step)
 refine codeAny_call_builtin_code (Code.quiet_builtin _ bxF.quiet) (oJ hC b1 ?_)
 refine rC hC b1 b2 b3 hr ?_
 generalize eh : (h.push { cls := .type "tuple", data := .seq rest.toArray }).push { cls := .ref C, data := .fields #[.ref h.objs.size, .none, .none, .none, .bool false, .none] } = h1
 have kp : ∀ b o, h.get? b = some o → h1.get? b = some o := fun b o e => by rw [← eh]; exact Heap.get?_push_of_some _ (Heap.get?_push_of_some _ e)
 have X1 : K.In h1 := X.keeps kp
 have hC1 := X1 _ _ lk
 have ge : h1.get? (h.objs.size + 1) = some { cls := .ref C, data := .fields #[.ref h.objs.size, .none, .none, .none, .bool false, .none] } := by rw [← eh]; heap_get
 have gt : h1.get? h.objs.size = some { cls := .type "tuple", data := .seq rest.toArray } := by rw [← eh]; exact Heap.get?_push_of_some _ (Heap.get?_push_at rfl rfl)
 have bC : (Value.ref C :: bm).contains (.ref C) = true := by simp
 have L := looks_findIn (M := model prog w) X1 hi
 show wpAny _ _ _ _ _ _
 unfold isInstance
 repeat (first | with_reducible refine L.at ?_ | with_reducible refine wpAny_loadPart_at ge ?_ | (with_reducible refine wpAny_isSubtype_exc hC1 ?_; rw [bC]) | wp_step)
 unfold bindSpecial
 refine wpAny_bind (wpAny_typeOf (T := "function") ⟨_, X1 _ _ lI, cI⟩ ?_)
 rw [if_pos (by decide)]
 refine wpAny_pure (wpAny_bind (wpAny_mono (z h1 _ ⟨kp, Heap.get?_none_of_le (Nat.le_succ _), h.objs.size, ge, Heap.get?_none_of_le (Nat.le_refl _), gt⟩ (Nat.le_succ _)) (fun r s' hz => ?_) fun _ _ y => y))
 obtain ⟨rfl, hz⟩ := hz
 wp_walk
 exact hz
theorem lz {oI : Obj} {Q : Value → Shared → Prop} (X : K.In h) (lk : K.lookup C = some (excClassObj nm q C N bs bm hdct sn sub ab col dd k0 k1 k2 k3 k5 K8)) (b1 : (Value.ref C :: bm).contains (.type "ValueError") = true) (b2 : (Value.ref C :: bm).contains (.type "AttributeError") = false)
  (b3 : (Value.ref C :: bm).contains (.type "NameError") = false) (hi : findIn K (.ref C) "__init__" = some (some (.ref fI))) (lI : K.lookup fI = some oI) (cI : oI.cls = .type "function") (hr : rest.length ≤ sizeLine)
  (z : ∀ h' e, Heap.MadeExcOf h h' e (.ref C) rest → h.objs.size ≤ e → wpAny (model prog w) (A.under (.builtin "type.__call__" ⟨.ref C :: rest, []⟩)) (call (.ref fI) (.ref e :: rest)) (fun r s' => r = .none ∧ Q (.ref e) s') E ⟨h', g, d, t, os⟩) :
  wpAny (model prog w) A (call (.ref C) rest) Q E ⟨h, g, d, t, os⟩ := by
 have hC := X _ _ lk
 have y1 := tc_lookup
 have y2 := tc_bind (.ref C)
 have yT : (⟨h, g, d, t, os⟩ : Shared).TypeIs (.ref C) "type" := ⟨_, hC, rfl⟩
 refine wpAny_call (codeAny_of_tree ?_)
 show wpAny _ _ (callAny (.ref C) _) _ _ _
 repeat (any_goals (first | with_reducible refine wpAny_loadPart_at hC ?_ | assumption | wp_step))
 refine ⟨rfl, codeAny_call_builtin_at (Code.quiet_builtin _ (by decide +kernel)) entry_typeCall (wpAny_check_type_call_sub hC (tJ X lk b1 b2 b3 hi lI cI hr fun h' e m n => ?_))⟩
 exact z h' e m n
end
noncomputable def K5 : List Value := [.type "ValueError", .type "Exception", .type "BaseException", .type "object"]
theorem qN (self : Value) : refuseLoop self "__setattr__" K5 = pure () := by kernel_rfl
section
variable {prog : Program} {w : World} {A : Around} {E : Value → Shared → Prop} {h : Heap} {g : Array GenState} {d : Drawn} {t : Nat} {os : OsState} {K : PySem.W.Frag} {x C W : Addr} {o : Obj} {vs : Array Value} {mA : Str → Option Value} {name : Str} {v : Value} {cd : ClassData}
theorem mC {tk : Tok} {ns : List Str} {Q : Fin → Shared → Prop} (X : K.In h) (hc : clsIn K C = some cd) (hm : cd.mro = .ref C :: .ref W :: K5) (hk : cd.hasDict = true) (f3 : findIn K (.ref C) name = some none) (I : h.Inst x C mA)
  (hq : ∀ h' tk', h'.Inst x C (fun y => if y = name then some v else mA y) →
   (∀ b u, b ≠ x → (∀ o0 dx, h.get? x = some o0 → o0.dict = some dx → b ≠ dx) → h.get? b = some u → h'.get? b = some u) →
   (∀ o0, h.get? x = some o0 → ∃ o1, h'.get? x = some o1 ∧ o1.cls = o0.cls ∧ o1.data = o0.data ∧ o1.slots = o0.slots ∧ (∀ dx, o0.dict = some dx → o1.dict = some dx) ∧ (o0.dict = none → ∃ dx, o1.dict = some dx ∧ h.objs.size ≤ dx)) → Q (.done (.ret .none)) ⟨h', g, d, tk', os⟩)
  (hw : Within mA ns) (hz : ns.length ≤ 1000) :
  wpAny (model prog w) A (Builtin.«object.__setattr__» ⟨[.ref x, .str name tk, v], []⟩) Q E ⟨h, g, d, t, os⟩ := by
 obtain ⟨o, hx, hcl, hnc, hd⟩ := I
 have L1 := looks_findIn (M := model prog w) X f3
 have L2 := looks_clsIn (M := model prog w) X hc
 have L3 : Looks (model prog w) h (mroOf (.ref C)) cd.mro := L2.andThen .now
 have lx : Looks (model prog w) h (typeOf (.ref x)) (.ref C) := by
  intro A' Q' E' s' k z
  unfold typeOf
  refine wpAny_bind (wpAny_loadPart (k _ _ hx) (wpAny_pure ?_))
  rw [hcl]
  exact z
 have rf : refuseLoop (.ref x) "__setattr__" cd.mro = pure () := by rw [hm, refuseLoop_ref, refuseLoop_ref]; exact qN _
 rw [osa_eq, refuse_eq]
 refine wpAny_bind (wpAny_bind (lx.at (wpAny_bind (L3.at ?_))))
 rw [rf]
 refine wpAny_pure (wpAny_bind (lx.at (wpAny_bind (L1.at (wpAny_bind (wpAny_pure ?_))))))
 show wpAny _ _ (storeInOwnDict (.ref x) (.ref C) (.str name tk) name v false) _ _ _
 unfold storeInOwnDict
 repeat (first | (with_reducible refine wpAny_loadPart_at hx ?_; rw [hcl]) | with_reducible refine L2.at ?_ | wp_step)
 rcases hd with ⟨dn, mn⟩ | ⟨dx, de, ne, nd⟩
 ·rw [dn, if_neg (by simp [typeHasDict])]
  split
  ·rename_i z
   cases z
  split
  ·rename_i z
   exact absurd z (hnc _)
  ·have nx : x ≠ h.objs.size := Nat.ne_of_lt (Heap.lt_size hx)
   have gx : (h.push { cls := .type "dict", data := .dict #[] }).get? x = some o := Heap.get?_push_of_some _ hx
   refine wpAny_bind (wpAny_alloc' (wpAny_bind (wpAny_update' gx (wpAny_pure ?_))))
   generalize eh : ((h.push { cls := .type "dict", data := .dict #[] }).update x fun o => { cls := o.cls, dict := some h.objs.size, data := o.data, slots := o.slots }) = h1
   have g1 : h1.get? h.objs.size = some { cls := .type "dict", data := .dict #[] } := by rw [← eh]; exact (Heap.get?_update_ne _ _ _ _ nx.symm).trans (Heap.get?_push_at rfl rfl)
   have gx1 : h1.get? x = some { cls := o.cls, dict := some h.objs.size, data := o.data, slots := o.slots } := by
    rw [← eh]
    refine Heap.get?_update_self _ gx ?_
    have fr := (Heap.get?_some_iff.mp hx).2
    obtain ⟨oc, od, dt, sl⟩ := o
    cases dt <;> first | rfl | exact fr
   have gk : ∀ b u, b ≠ x → h.get? b = some u → h1.get? b = some u := fun b u nb e => by rw [← eh]; exact (Heap.get?_update_ne _ _ _ _ nb).trans (Heap.get?_push_of_some _ e)
   have n1 : h1.Ns h.objs.size (fun _ => none) := ⟨_, #[], _, g1, rfl, fun e he => absurd he (by simp), fun _ => rfl⟩
   show wpAny _ _ (storeInDict h.objs.size (.str name tk) name v) _ _ _
   unfold storeInDict newKeyGuard
   refine wpAny_bind (wpAny_pure (wpAny_bind (wpAny_nsSet1 (Heap.Ns1.of_empty n1) fun h' n' hs => ?_)))
   obtain ⟨oD, es, ep, go, gd, gc⟩ := n'.count (Within.cons name v Within.nil)
   refine wpAny_bind (wpAny_lookBehind go (by rw [gd]; exact pastItsLine_dict (Nat.le_trans gc (by rw [List.length_cons, List.length_nil, sizeLine_eq]; omega))) ?_)
   wp_walk
   have gx' := (hs.2 x nx).trans gx1
   refine hq h' _ ⟨_, gx', hcl, hnc, .inr ⟨h.objs.size, rfl, nx.symm, ?_⟩⟩ (fun b u nb _ e => (hs.2 b (Nat.ne_of_lt (Heap.lt_size e))).trans (gk b u nb e)) fun o0 e0 => ?_
   ·obtain ⟨o', es', ep', e1, e2, e3, e4, e5⟩ := n'
    exact ⟨o', es', ep', e1, e2, e3, e4, fun y => by rw [e5 y]; by_cases hy : y = name <;> simp [hy, mn]⟩
   ·obtain rfl : o = o0 := Option.some.inj (hx.symm.trans e0)
    exact ⟨_, gx', rfl, rfl, rfl, (fun dx e => by rw [dn] at e; cases e), fun _ => ⟨_, rfl, Nat.le_refl _⟩⟩
 ·rw [de]
  refine wpAny_pure ?_
  show wpAny _ _ (storeInDict dx (.str name tk) name v) _ _ _
  unfold storeInDict newKeyGuard
  refine wpAny_bind (wpAny_pure (wpAny_bind (wpAny_nsSet1 nd fun h' n' hs => ?_)))
  obtain ⟨oD, es, ep, go, gd, gc⟩ := n'.count (Within.cons name v hw)
  refine wpAny_bind (wpAny_lookBehind go (by rw [gd]; exact pastItsLine_dict (Nat.le_trans gc (by rw [List.length_cons, sizeLine_eq]; omega))) ?_)
  wp_walk
  exact hq h' _ ⟨o, (hs.2 x ne.symm).trans hx, hcl, hnc, .inr ⟨dx, de, ne, n'⟩⟩ (fun b u _ nb e => (hs.2 b (nb o dx hx de)).trans e) fun o0 e0 => ⟨o0, (hs.2 x ne.symm).trans e0, rfl, rfl, rfl, (fun _ e => e), fun z => by rw [hx] at e0; cases e0; rw [de] at z; cases z⟩
theorem pB {ns : List Str} {Q : Unit → Shared → Prop} (X : K.In h) (hc : clsIn K C = some cd) (hm : cd.mro = .ref C :: .ref W :: K5) (hk : cd.hasDict = true) (f3 : findIn K (.ref C) name = some none)
  (f7 : findIn K (.ref C) "__setattr__" = some (some (.builtin "object.__setattr__"))) (I : h.Inst x C mA)
  (hq : ∀ h' tk', h'.Inst x C (fun y => if y = name then some v else mA y) →
   (∀ b u, b ≠ x → (∀ o0 dx, h.get? x = some o0 → o0.dict = some dx → b ≠ dx) → h.get? b = some u → h'.get? b = some u) →
   (∀ o0, h.get? x = some o0 → ∃ o1, h'.get? x = some o1 ∧ o1.cls = o0.cls ∧ o1.data = o0.data ∧ o1.slots = o0.slots ∧ (∀ dx, o0.dict = some dx → o1.dict = some dx) ∧ (o0.dict = none → ∃ dx, o1.dict = some dx ∧ h.objs.size ≤ dx)) → Q () ⟨h', g, d, tk', os⟩)
  (hw : Within mA ns) (hz : ns.length ≤ 1000) : wpAny (model prog w) A (setAttr (.ref x) name v) Q E ⟨h, g, d, t, os⟩ := by
 obtain ⟨o, hx, hcl, hnc, hd⟩ := id I
 have lx : Looks (model prog w) h (typeOf (.ref x)) (.ref C) := by
  intro A' Q' E' s' k z
  unfold typeOf
  refine wpAny_bind (wpAny_loadPart (k _ _ hx) (wpAny_pure ?_))
  rw [hcl]
  exact z
 have L7 := looks_findIn (M := model prog w) X f7
 have SF := PySem.F.store_object
 refine wpAny_bind (wpAny_mkText (wpAny_bind (wpAny_bind (wpAny_bind (lx.at (L7.at (wpAny_holding ?_)))))))
 rw [SF.slot.bind]
 have sub : Looks (model prog w) h (isInstance (.ref x) (.type "object")) true := lx.andThen (looks_mroIn X (by unfold mroIn; rw [hc, Option.bind_some, hm]; rfl))
 refine wpAny_bind (wpAny_pure (wpAny_bind (wpAny_call ?_)))
 refine codeAny_call_builtin SF.slot.plain SF.entry (@check_slot (model prog w) _ _ ⟨h, g, d, t + 1, os⟩ "object.__setattr__" "object" "__setattr__" (.ref x) [.str name t, v] [] _ SF.kind SF.split sub (SF.args (.ref x) (.str name t) v) ?_)
 refine mC X hc hm hk f3 I (fun h' tk' I' k1 k2 => ?_) hw hz
 exact wpAny_pure (wpAny_pure (hq h' tk' I' k1 k2))
end
end L2
namespace L2
open PySem PySem.W PySem.Spec PySem.Builtin PySem.Builtin.ObjectAttr PyProof.Rows
structure XK1 (K : PySem.W.Frag) (C W : Addr) : Prop where
 xc : XC K C
 ob : ∃ nm q N bs hdct sn sub ab col dd k0 k1 k2 k3 k5, K.lookup C = some (excClassObj nm q C N bs (.ref W :: K5) hdct sn sub ab col dd k0 k1 k2 k3 k5 K8)
 sa : findIn K (.ref C) "__setattr__" = some (some (.builtin "object.__setattr__"))
theorem XK1.cls {K : PySem.W.Frag} {C W : Addr} (c : XK1 K C W) : ∃ cd, clsIn K C = some cd ∧ cd.mro = .ref C :: .ref W :: K5 ∧ cd.hasDict = true := by
 obtain ⟨nm, q, N, bs, hdct, sn, sub, ab, col, dd, k0, k1, k2, k3, k5, e⟩ := c.ob
 obtain ⟨oc, od, cd, sl, e2, hd⟩ := c.xc.look
 rw [e] at e2
 cases e2
 exact ⟨_, by unfold clsIn; rw [e], rfl, hd⟩
section
variable {P : Program} {w : World} {A : Around} {s : Shared} {K : PySem.W.Frag} {e C W fI : Addr} {u0 u1 : Value} {R : Result → Shared → Prop}
variable {name qual : Str} {params : Arguments} {body : List Stmt} {scope : Scope} {kV doc pm cdv ct oc : Value} {an od : Option Addr} {osl : Array (Option Value)}
theorem kc {ps : List Str} {us : List Value} (hr : A.depth < recursionLimit) (X : K.In s.heap) (lim : s.heap.NoLimit) (lk : K.lookup fI = some ⟨oc, od, .func (PySem.W.fnOf name qual params body scope .none kV doc pm an cdv ct), osl⟩)
  (hcd : PySem.W.codeIn K cdv qual = true) (k1 : scope.kind = .function) (k2 : scope.isCoroutine = false) (k3 : scope.isGenerator = false) (hp : ∀ x ∈ ps, scope.names.lookup x = some .local)
  (hb : bindArgs (PySem.W.fnOf name qual params body scope .none kV doc pm an cdv ct) ⟨us, []⟩ = pure (ps.zip us))
  (z : ∀ h' tk, (∀ b o, s.heap.get? b = some o → h'.get? b = some o) → h'.Ns s.heap.objs.size (bindL (envOfC qual scope s.heap.objs.size fI cdv).kindOf (ps.zip us) fun _ => none) →
   wpAny (model P w) (A.deeper (envOfC qual scope s.heap.objs.size fI cdv)) (execs body (envOfC qual scope s.heap.objs.size fI cdv)) (fun fl s' => match fl with | .ret v => R (.ok (.ret v)) s' | .next => R (.ok (.ret .none)) s' | _ => False)
    (fun _ _ => False) { s with heap := h', toks := tk }) :
  codeAny (model P w) A (.call (.ref fI) ⟨us, []⟩) R s := by
 refine codeAny_call_function hr (X _ _ lk) rfl k2 k3 rfl (PySem.W.codeRec_of X hcd) (wpAny_of_eq hb ?_)
 refine wpAny_newFunctionEnv_cells k1 (fun y hy => .inl (hp y.1 (List.of_mem_zip (a := y.1) (b := y.2) hy).1)) fun env he s1 x => ?_
 subst he
 obtain ⟨h1, tk, rfl, hk⟩ := x.done
 refine ⟨lim.keeps hk, codeAny_func ?_⟩
 refine wpAny_mono (z h1 tk hk x.toInCall.ns) (fun fl s' q => ?_) fun _ _ q => q.elim
 cases fl <;> first | exact q | exact q.elim
structure Mdx (K : PySem.W.Frag) (h h' : Heap) (e dx C : Addr) (vs : Array Value) (mA : Str → Option Value) : Prop where
 kp : ∀ b u, b ≠ e → h.get? b = some u → h'.get? b = some u
 at_ : ∃ o, h'.get? e = some o ∧ o.cls = .ref C ∧ o.data = .fields vs ∧ o.dict = some dx
 ne : dx ≠ e
 nw : h.objs.size ≤ dx
 ns : h'.Ns1 dx mA
theorem X4 {qual : Str} {scope : Scope} {L f : Addr} {cdv : Value} {x : Str} (h : scope.names.lookup x = some .local) : (envOfC qual scope L f cdv).kindOf x = some .local := h
theorem nB {vs : Array Value} {p1 p2 p3 p4 : Pos} (c : XK1 K C W) (hw : findIn K (.ref C) "word" = some none) (hr : A.depth < recursionLimit) (X : K.In s.heap) (lim : s.heap.NoLimit)
  (lk : K.lookup fI = some ⟨oc, od, .func (PySem.W.fnOf name qual params [.Assign [.Attribute (.Name "self" p1) "word" p2] (.Name "word" p3) p4] scope .none kV doc pm an cdv ct), osl⟩) (hcd : PySem.W.codeIn K cdv qual = true)
  (k1 : scope.kind = .function) (k2 : scope.isCoroutine = false) (k3 : scope.isGenerator = false) (hp : ∀ x ∈ (["self", "word"] : List Str), scope.names.lookup x = some .local)
  (hb : bindArgs (PySem.W.fnOf name qual params [.Assign [.Attribute (.Name "self" p1) "word" p2] (.Name "word" p3) p4] scope .none kV doc pm an cdv ct) ⟨[.ref e, u0], []⟩ = pure ((["self", "word"] : List Str).zip [.ref e, u0]))
  (hx : s.heap.get? e = some { cls := .ref C, data := .fields vs }) (hK : K.lookup e = none)
  (z : ∀ h' tk dx, Mdx K s.heap h' e dx C vs (fun y => if y = "word" then some u0 else none) → R (.ok (.ret .none)) { s with heap := h', toks := tk }) :
  codeAny (model P w) A (.call (.ref fI) ⟨[.ref e, u0], []⟩) R s := by
 obtain ⟨cd, c1, c2, c3⟩ := c.cls
 have ks := hp "self" (by simp)
 have kw := hp "word" (by simp)
 refine kc hr X lim lk hcd k1 k2 k3 hp hb fun h1 tk hk hn => ?_
 have q1 : (bindL (envOfC qual scope s.heap.objs.size fI cdv).kindOf ((["self", "word"] : List Str).zip [Value.ref e, u0]) fun _ => none) "self" = some (.ref e) := Y9 (i := 0) (by decide) rfl rfl (X4 ks)
 have q2 : (bindL (envOfC qual scope s.heap.objs.size fI cdv).kindOf ((["self", "word"] : List Str).zip [Value.ref e, u0]) fun _ => none) "word" = some u0 := Y9 (i := 1) (by decide) rfl rfl (X4 kw)
 have I0 : h1.Inst e C (fun _ => none) := ⟨_, hk _ _ hx, rfl, (fun c z => by cases z), .inl ⟨rfl, fun _ => rfl⟩⟩
 refine wpAny_execs_cons (plainObj_wpAny_Assign_Attribute (wpAny_Name (wpAny_loadName_local k1 (X4 kw) hn q2 (wpAny_Name (wpAny_loadName_local k1 (X4 ks) hn q1 (pB (X.keeps hk) c1 c2 c3 hw c.sa I0 (fun h2 tk2 I2 kp2 st2 => ?_) Within.nil (by decide))) (by decide))) (by decide)))
 refine wpAny_execs_nil ?_
 obtain ⟨o1, g1, g2, g3, _, _, g6⟩ := st2 _ (hk _ _ hx)
 obtain ⟨dx, g7, g8⟩ := g6 rfl
 obtain ⟨o2, r1, r2, r3, r4⟩ := I2
 rw [g1] at r1
 cases r1
 rcases r4 with ⟨r4, _⟩ | ⟨d2, r4, r5, r6⟩
 ·rw [g7] at r4; cases r4
 ·rw [g7] at r4
  cases r4
  refine z _ _ dx ⟨fun b u nb eb => kp2 b u nb (fun o0 d0 e0 f0 => ?_) (hk _ _ eb), ⟨_, g1, r2, g3, g7⟩, r5, ?_, r6⟩
  ·rw [hk _ _ hx] at e0; cases e0; cases f0
  ·exact Nat.le_trans (Nat.le_of_lt hn.lt) g8
end
noncomputable def eP (p1 p2 p3 p4 : Pos) : List Stmt := [.Assign [.Attribute (.Name "self" p1) "word" p2] (.Name "word" p3) p4]
structure XD (K : PySem.W.Frag) (C W fI : Addr) (ps : List Str) (body : List Stmt) : Prop where
 k1 : XK1 K C W
 hi : PySem.W.findIn K (.ref C) "__init__" = some (some (.ref fI))
 fn : ∃ (oc : Value) (od : Option Addr) (name qual : Str) (params : Arguments) (scope : Scope) (kV doc pm : Value) (an : Option Addr) (cdv ct : Value) (osl : Array (Option Value)),
  K.lookup fI = some ⟨oc, od, .func (PySem.W.fnOf name qual params body scope .none kV doc pm an cdv ct), osl⟩ ∧ oc = .type "function" ∧ PySem.W.codeIn K cdv qual = true ∧ scope.kind = .function ∧ scope.isCoroutine = false ∧ scope.isGenerator = false ∧
  (∀ x ∈ ("self" :: ps : List Str), scope.names.lookup x = some .local) ∧ ∀ us : List Value, us.length = ps.length + 1 → bindArgs (PySem.W.fnOf name qual params body scope .none kV doc pm an cdv ct) ⟨us, []⟩ = pure (("self" :: ps : List Str).zip us)
 no : ∀ x ∈ ps, PySem.W.findIn K (.ref C) x = some none
structure Mdn (h h' : Heap) (e dx C : Addr) (mA : Str → Option Value) : Prop where
 kp : ∀ b u, h.get? b = some u → h'.get? b = some u
 ne : dx ≠ e
 n1 : h.objs.size ≤ e
 n2 : h.objs.size ≤ dx
 at_ : ∃ o, h'.get? e = some o ∧ o.cls = .ref C ∧ (∃ t0, o.data = .fields #[.ref t0, .none, .none, .none, .bool false, .none]) ∧ o.dict = some dx
 ns : h'.Ns1 dx mA
theorem kv (C W : Addr) : (Value.ref C :: .ref W :: K5).contains (.type "ValueError") = true ∧ (Value.ref C :: .ref W :: K5).contains (.type "AttributeError") = false ∧ (Value.ref C :: .ref W :: K5).contains (.type "NameError") = false := ⟨rfl, rfl, rfl⟩
theorem tF {K : PySem.W.Frag} {h : Heap} {e : Addr} (X : K.In h) (n : h.objs.size ≤ e) : K.lookup e = none := by
 cases q : K.lookup e with
 | none => rfl
 | some o => exact absurd (Nat.lt_of_lt_of_le (Heap.lt_size (X _ _ q)) n) (Nat.lt_irrefl _)
theorem jn {h : Heap} {b e : Addr} {u : Obj} (q : h.get? b = some u) (n : h.objs.size ≤ e) : b ≠ e := fun z => by rw [z] at q; exact absurd (Nat.lt_of_lt_of_le (Heap.lt_size q) n) (Nat.lt_irrefl _)
section
variable {P : Program} {w : World} {A : Around} {E : Value → Shared → Prop} {s : Shared} {K : PySem.W.Frag} {C W fI : Addr} {u0 u1 : Value} {Q : Value → Shared → Prop} {k : Nat}
theorem mr {ps : List Str} {body : List Stmt} {us : List Value} (c : XD K C W fI ps body) (hl : us.length ≤ sizeLine) (X : K.In s.heap)
  (z : ∀ h1 e, (∀ b u, s.heap.get? b = some u → h1.get? b = some u) → s.heap.objs.size ≤ e → s.heap.objs.size ≤ h1.objs.size → (∃ t0, h1.get? e = some { cls := .ref C, data := .fields #[.ref t0, .none, .none, .none, .bool false, .none] }) →
   wpAny (model P w) (A.under (.builtin "type.__call__" ⟨.ref C :: us, []⟩)) (call (.ref fI) (.ref e :: us)) (fun r s' => r = .none ∧ Q (.ref e) s') E { s with heap := h1 }) : wpAny (model P w) A (call (.ref C) us) Q E s := by
 obtain ⟨nm, q, N, bs, hdct, sn, sub, ab, col, dd, k0, k1, k2, k3, k5, lk⟩ := c.k1.ob
 obtain ⟨oc, od, name, qual, params, scope, kV, doc, pm, an, cdv, ct, osl, lf, rfl, _⟩ := c.fn
 obtain ⟨b1, b2, b3⟩ := kv C W
 obtain ⟨h, g, d, t, os⟩ := s
 refine lz X lk b1 b2 b3 c.hi lf rfl hl fun h1 e m n => ?_
 obtain ⟨t0, e1, _⟩ := m.there
 exact z h1 e m.keeps n (Nat.le_of_lt (Nat.lt_of_le_of_lt n (Heap.lt_size e1))) ⟨t0, e1⟩
theorem mk1 {p1 p2 p3 p4 : Pos} (c : XD K C W fI ["word"] (eP p1 p2 p3 p4)) (hr : Room (k + 1) A) (X : K.In s.heap) (lim : s.heap.NoLimit)
  (z : ∀ h' tk e dx, Mdn s.heap h' e dx C (fun y => if y = "word" then some u0 else none) → Q (.ref e) { s with heap := h', toks := tk }) : wpAny (model P w) A (call (.ref C) [u0]) Q E s := by
 refine mr c (show 1 ≤ sizeLine by decide) X fun h1 e kp ne sz ⟨t0, hx⟩ => ?_
 obtain ⟨oc, od, name, qual, params, scope, kV, doc, pm, an, cdv, ct, osl, lf, _, f1, f2, f3, f4, f5, f6⟩ := c.fn
 refine wpAny_call (nB (s := { s with heap := h1 }) c.k1 (c.no _ (by simp)) (hr.make C _ _).depth (X.keeps kp) (lim.keeps kp) lf f1 f2 f3 f4 f5 (f6 _ rfl) hx ?_ fun h2 tk dx m => ?_)
 ·exact tF X ne
 ·exact ⟨rfl, z h2 tk e dx ⟨fun b u eb => m.kp b u (jn eb ne) (kp b u eb), m.ne, ne, Nat.le_trans sz m.nw, let ⟨o, y1, y2, y3, y4⟩ := m.at_; ⟨o, y1, y2, ⟨t0, y3⟩, y4⟩, m.ns⟩⟩
end
end L2
namespace DL
open PySem PySem.Spec L2
structure Rf1 (K : PySem.W.Frag) (mg : Str → Option Value) (c : Str) : Prop where
 ex : ∃ C W fI p1 p2 p3 p4, mg c = some (.ref C) ∧ PySem.W.nsIn K mainGlobals c = some (some (.ref C)) ∧ PySem.W.keepIn K (.ref C) = true ∧ XD K C W fI ["word"] (eP p1 p2 p3 p4)
section
variable {X : Cx} {g : Gh} {c : Str} {p pos : Pos} {a b : Expr} {es : List Expr} {fa fb : DE} {t : DA} {k : Nat}
theorem rQ {x0 : V} {u0 : Value} (rv : Vals [x0] [u0]) (f : Str) : T5 ((fnm.zip [x0]).lookup f) (if f = "word" then some u0 else none) := by
 have r0 : RelV x0 u0 := by cases rv with | cons r _ => exact r
 show T5 (([(("word" : Str), x0)] : List (Str × V)).lookup f) _
 by_cases hf : f = "word"
 ·subst hf
  exact r0
 ·rw [List.lookup_cons, beq_eq_false_iff_ne.mpr hf]
  simp only [if_neg hf]
  trivial
end
noncomputable def cQ (f : Str) : Option Nat := if f = "word" then some 0 else if f = "at" then some 1 else none
noncomputable def Y6 (cs : List Str) (f : Str) : D → Option D
 | .exc c ds => if cs.contains c = true then (cQ f).bind fun i => ds[i]? else none
 | _ => none
noncomputable def E3 (c c' : Str) : Bool := c == c' || c' == "WideError"
noncomputable def Q8 (cs : List Str) (c' : Str) : D → Option D
 | .exc c _ => if cs.contains c = true then some (.bl (E3 c c')) else none
 | _ => none
noncomputable def W4 (cs : List Str) : D → Option D
 | .exc c _ => if cs.contains c = true then some (.bl true) else none
 | _ => none
structure RfX (K : PySem.W.Frag) (mg : Str → Option Value) (cs' : List Str) (c : Str) : Prop where
 ex : ∃ C, PySem.W.nsIn K mainGlobals c = some (some (.ref C)) ∧ XC K C ∧ PySem.W.kitOne K (.ref C) (.type "ValueError") = some true ∧ (∀ x ∈ fnm, PySem.W.findIn K (.ref C) x = some none) ∧
  ∀ c' ∈ cs', ∃ C', mg c' = some (.ref C') ∧ PySem.W.kitOne K (.ref C) (.ref C') = some (E3 c c')
section
variable {X : Cx} {g : Gh} {a : Expr} {fa : DE} {pos : Pos} {cs cs' : List Str}
theorem dy {pins : List (Addr × Obj)} {σ : L2.St} {H : Hp} {s : Shared} {e C : Addr} {xs : List V} (I : Inv X pins σ H s) (h : ExO H e C xs) :
  ∃ o, s.heap.get? e = some o ∧ o.cls = .ref C ∧ (∃ vs, o.data = .fields vs) ∧ (xs = [] ∨ ∃ dx mA, o.dict = some dx ∧ s.heap.Ns1 dx mA ∧ ∀ f, T5 ((fnm.zip xs).lookup f) (mA f)) := by
 obtain ⟨o, e1, e2, e3, _, e4⟩ := h
 refine ⟨o, (I.hok _ _ e1).1, e2, e3, e4.imp id ?_⟩
 rintro ⟨dx, od, d1, d2⟩
 obtain ⟨_, mA, n1, n2⟩ := I.hok _ _ d2
 exact ⟨dx, mA, d1, n1, n2⟩
theorem qI {f : Str} (R : ∀ c ∈ cs, RfX X.K X.mg cs' c) (ha : EO X g a fa) (hb : attributeBase a f X.env (eval a X.env) = eval a X.env) : EO X g (.Attribute a f pos) (i0 (Y6 cs f) fa) := by
 refine ⟨fun pins s σ H Q I h => ?_⟩
 refine h.elim fun fa0 O s0 d s1 G0 e0 q => ?_
 refine k4 e0 fun x s2 h1 h2 => ?_
 refine D8 h2 fun d' h3 h4 => ?_
 cases h4
 refine ou hb (i7 (ha.pe pins s σ H (fun v H1 => ∃ f1 O1, StE fa0 O H f1 O1 H1 ∧ GI X.K g σ H1 f1 O1 s2 ∧ Rep X.K (NN g.F f1 O1) f1 H1 x v) I ⟨fa0, O, s0, x, s2, G0, h1, fun v H1 f1 O1 a1 a2 a3 => ⟨f1, O1, a1, a2, a3⟩⟩) fun u s3 ⟨v, H1, I1, rv, f1, O1, b1, b2, b3⟩ => ?_)
 cases x with
 | exc c ds =>
  have h3 : (if cs.contains c = true then (cQ f).bind fun i => ds[i]? else none) = some d := h3
  by_cases hc : cs.contains c = true
  ·rw [if_pos hc] at h3
   obtain ⟨i, i1, i2⟩ := Option.bind_eq_some_iff.mp h3
   simp only [Rep] at b3
   obtain ⟨e, C, xs, rfl, n1, eo, rs⟩ := b3
   cases rv
   obtain ⟨C2, m1, m2, m3, m4, m5⟩ := (R c (by simpa using hc)).ex
   rw [n1] at m1
   cases m1
   obtain ⟨o, o1, o2, ⟨vs, o3⟩, o4⟩ := dy I1 eo
   obtain ⟨x0, y1, y2⟩ := Reps.get rs i2
   rcases o4 with rfl | ⟨dx, mA, z1, z2, z3⟩
   ·cases y1
   have fi : f ∈ fnm ∧ ((fnm.zip xs).lookup f) = some x0 := by
    unfold cQ at i1
    by_cases w1 : f = "word"
    ·subst w1
     rw [if_pos rfl] at i1
     cases i1
     cases xs with
     | nil => cases y1
     | cons x1 r => cases y1; exact ⟨by simp [fnm], rfl⟩
    ·rw [if_neg w1] at i1
     by_cases w2 : f = "at"
     ·subst w2
      rw [if_pos rfl] at i1
      cases i1
      cases xs with
      | nil => cases y1
      | cons x1 r =>
       cases r with
       | nil => cases y1
       | cons x2 r => cases y1; exact ⟨by simp [fnm], rfl⟩
     ·rw [if_neg w2] at i1; cases i1
   have z4 := z3 f
   rw [fi.2] at z4
   cases mv : mA f with
   | none => rw [mv] at z4; exact z4.elim
   | some u0 =>
    rw [mv] at z4
    have z4 : RelV x0 u0 := z4
    obtain ⟨hh, gg, dd, tt, oo⟩ := s3
    refine qi I1.kIn o1 o2 o3 z1 z2.ns mv m2.f0 m2.f1 m2.f2 (m4 f fi.1) m2.f4 (fun id z => ?_) ⟨x0, H1, I1.tok _, z4, q x0 H1 f1 O1 b1 b2 y2⟩
    subst z
    cases x0 <;> first | (obtain ⟨_, z⟩ := z4; cases z) | cases z4
  ·rw [if_neg hc] at h3; cases h3
 | _ => cases h3
theorem tZ {pins : List (Addr × Obj)} {σ : L2.St} {H : Hp} {s : Shared} {e C : Addr} {xs : List V} {c : Value} {b : Bool} {Q : VK} (I : Inv X pins σ H s) (h : ExO H e C xs) (xc : XC X.K C) (k : PySem.W.kitOne X.K (.ref C) c = some b) (q : Q (.bl b) H) :
  wpAny (model X.prog X.w) X.A (call (.builtin "isinstance") [.ref e, c]) (EP X pins σ Q) X.xe s := by
 obtain ⟨o, o1, o2, _⟩ := dy I h
 exact PySem.W.kia_one xc.kit I.kIn ⟨o, o1, o2⟩ k (fun z => nomatch z) fun tk => ⟨.bl b, H, I.tok tk, rfl, q⟩
theorem eC {c : Value} {v : V} (hv : ∀ u, RelV v u → u = c) : CallR X (.builtin "isinstance") (fun xs H Q => ∃ e C b ys, xs = [.ref e, v] ∧ ExO H e C ys ∧ XC X.K C ∧ PySem.W.kitOne X.K (.ref C) c = some b ∧ Q (.bl b) H) := by
 intro pins s σ H xs us Q I r h
 obtain ⟨e, C, b, ys, rfl, h1, h2, h3, q⟩ := h
 obtain ⟨u, c0, rfl, ru, rc⟩ := ib r
 cases ru
 cases hv _ rc
 exact tZ I h1 h2 h3 q
theorem fx {p : D → Option D} {c : Value} {v : V} {f : Str → Bool} (hp : ∀ d b, p d = some b → ∃ c0 ds, d = .exc c0 ds ∧ c0 ∈ cs ∧ b = .bl (f c0)) (R : ∀ c0 ∈ cs, ∃ C, PySem.W.nsIn X.K mainGlobals c0 = some (some (.ref C)) ∧ XC X.K C ∧ PySem.W.kitOne X.K (.ref C) c = some (f c0))
  (σ : L2.St) (H : Hp) (Q : VK) (hQ : liftE X.K g (i0 p fa) σ H Q) : U9 (fun xs H Q => ∃ e C b ys, xs = [.ref e, v] ∧ ExO H e C ys ∧ XC X.K C ∧ PySem.W.kitOne X.K (.ref C) c = some b ∧ Q (.bl b) H) (bP (liftE X.K g fa) (bP (tC v) gj)) σ H Q := by
 refine hQ.elim fun f0 O s d s' I e k => ?_
 refine k4 e fun x s1 h1 h => ?_
 refine D8 h fun d' h3 h => ?_
 cases h
 obtain ⟨c0, ds, rfl, m, rfl⟩ := hp _ _ h3
 refine ⟨f0, O, s, _, s1, I, h1, fun y H1 f1 O1 a1 I1 r1 => ?_⟩
 simp only [Rep] at r1
 obtain ⟨a, C, xs, rfl, n1, eo, rs⟩ := r1
 obtain ⟨C2, m1, m2, m3⟩ := R c0 m
 rw [n1] at m1
 cases m1
 exact ⟨a, C, _, xs, rfl, eo, m2, m3, k _ H1 f1 O1 a1 I1 (by simp only [Rep])⟩
theorem uK {c' : Str} (d b : D) (h : Q8 cs c' d = some b) : ∃ c0 ds, d = .exc c0 ds ∧ c0 ∈ cs ∧ b = .bl (E3 c0 c') := by
 cases d with
 | exc c ds =>
  have h : (if cs.contains c = true then some (.bl (E3 c c')) else none) = some b := h
  by_cases z : cs.contains c = true
  ·rw [if_pos z] at h; cases h; exact ⟨c, ds, rfl, by simpa using z, rfl⟩
  ·rw [if_neg z] at h; cases h
 | _ => cases h
theorem oQ (d b : D) (h : W4 cs d = some b) : ∃ c0 ds, d = .exc c0 ds ∧ c0 ∈ cs ∧ b = .bl ((fun _ => true) c0) := by
 cases d with
 | exc c ds =>
  have h : (if cs.contains c = true then some (.bl true) else none) = some b := h
  by_cases z : cs.contains c = true
  ·rw [if_pos z] at h; cases h; exact ⟨c, ds, rfl, by simpa using z, rfl⟩
  ·rw [if_neg z] at h; cases h
 | _ => cases h
theorem pQ {c' : Str} {C' : Addr} {p p2 : Pos} (R : ∀ c ∈ cs, RfX X.K X.mg cs' c) (hc : c' ∈ cs') (hg : Gl X "isinstance") (hm : X.mg "isinstance" = none) (hgc : Gl X c') (hmc : X.mg c' = some (.ref C')) (ha : EO X g a fa)
  (hd : (c' == ("__debug__" : Str)) = false := by decide) (hs1 : starEach [.Name c' p2] X.env = (false, eval (.Name c' p2) X.env) :: starEach [] X.env := by rfl)
  (he : starEach [a, .Name c' p2] X.env = (false, eval a X.env) :: starEach [.Name c' p2] X.env := by rfl) (hpl : (backTo pos (starEach [.Name c' p2] X.env)).any (·.1) = false := by rfl) :
  EO X g (.Call (.Name "isinstance" p) [a, .Name c' p2] [] pos) (i0 (Q8 cs c') fa) :=
 EO.w (aB (eC (c := .ref C') (v := .ref C') fun u r => r) hg hm cK (B8 ha.pe (B8 (aX (v := .ref C') hgc hmc rfl hd) M5 hs1) he) (by decide) (by decide) he hpl)
  (fx (f := fun c0 => E3 c0 c') uK fun c0 m => by
   obtain ⟨C, m1, m2, m3, m4, m5⟩ := (R c0 m).ex
   obtain ⟨C2, z1, z2⟩ := m5 c' hc
   rw [hmc] at z1
   cases z1
   exact ⟨C, m1, m2, z2⟩)
theorem uJ {p p2 : Pos} (R : ∀ c ∈ cs, RfX X.K X.mg cs' c) (hg : Gl X "isinstance") (hm : X.mg "isinstance" = none) (hgc : Gl X "ValueError") (hmc : X.mg "ValueError" = none) (ha : EO X g a fa)
  (hs1 : starEach [.Name "ValueError" p2] X.env = (false, eval (.Name "ValueError" p2) X.env) :: starEach [] X.env := by rfl)
  (he : starEach [a, .Name "ValueError" p2] X.env = (false, eval a X.env) :: starEach [.Name "ValueError" p2] X.env := by rfl) (hpl : (backTo pos (starEach [.Name "ValueError" p2] X.env)).any (·.1) = false := by rfl) :
  EO X g (.Call (.Name "isinstance" p) [a, .Name "ValueError" p2] [] pos) (i0 (W4 cs) fa) :=
 EO.w (aB (eC (c := .type "ValueError") (v := .ty "ValueError") fun u r => r) hg hm cK (B8 ha.pe (B8 (nG (v := .ty "ValueError") hgc hmc (by rfl) rfl (by decide) (by decide)) M5 hs1) he) (by decide) (by decide) he hpl)
  (fx (f := fun _ => true) oQ fun c0 m => by
   obtain ⟨C, m1, m2, m3, _⟩ := (R c0 m).ex
   exact ⟨C, m1, m2, m3⟩)
end
structure RfA (K : PySem.W.Frag) (mg : Str → Option Value) (cs cs' : List Str) : Prop where
 rx : ∀ c ∈ cs, RfX K mg cs' c
 mm : ∀ c ∈ cs', ∃ C, mg c = some (.ref C)
 ve : mg "ValueError" = none
section
variable {X : Cx} {g : Gh} {c : Str} {p pos : Pos} {a : Expr} {t : DA} {fa : DE} {cs cs' : List Str}
theorem nH {c' : Str} {p p2 : Pos} (R : RfA X.K X.mg cs cs') (hc : cs'.contains c' = true) (hg : Gl X "isinstance") (hm : X.mg "isinstance" = none) (hgc : Gl X c') (ha : EO X g a fa)
  (hd : (c' == ("__debug__" : Str)) = false := by decide) (hs1 : starEach [.Name c' p2] X.env = (false, eval (.Name c' p2) X.env) :: starEach [] X.env := by rfl)
  (he : starEach [a, .Name c' p2] X.env = (false, eval a X.env) :: starEach [.Name c' p2] X.env := by rfl) (hpl : (backTo pos (starEach [.Name c' p2] X.env)).any (·.1) = false := by rfl) :
  EO X g (.Call (.Name "isinstance" p) [a, .Name c' p2] [] pos) (i0 (Q8 cs c') fa) := by
 have hc : c' ∈ cs' := by simpa using hc
 obtain ⟨C, e⟩ := R.mm c' hc
 exact pQ R.rx hc hg hm hgc e ha hd hs1 he hpl
end
section
variable {K : PySem.W.Frag} {mg : Str → Option Value} {h : Heap} {c : Str} {C W fI : Addr} {cs cs' : List Str}
theorem xc_mk (f0 : PySem.W.hasDictIn K C = true) (f1 : PySem.W.findIn K (.ref C) "__getattribute__" = some (some (.builtin "BaseException.__getattribute__"))) (f2 : PySem.W.findIn K (.ref C) "__getattr__" = some none)
  (f4 : PySem.W.subIn K (.ref C) (.type "BaseException") = some true) (f5 : PySem.W.subIn K (.ref C) (.type "object") = some true) (f6 : PySem.W.findIn K (.ref C) "__class__" = some (some (.builtin "object.__class__"))) : XC K C := ⟨f0, f1, f2, f4, f5, f6⟩
theorem xk1_mk {nm q : Str} {N : Addr} {bs : List Value} {hdct : Bool} {sn : List Str} {sub : List Value} {ab : Bool} {col : Option Bool} {dd : Option Addr} {k0 k1 k2 k3 k5 : Option Value} (x : XC K C) (lk : K.lookup C = some (excClassObj nm q C N bs (.ref W :: K5) hdct sn sub ab col dd k0 k1 k2 k3 k5 K8))
  (sa : PySem.W.findIn K (.ref C) "__setattr__" = some (some (.builtin "object.__setattr__"))) : XK1 K C W := ⟨x, ⟨nm, q, N, bs, hdct, sn, sub, ab, col, dd, k0, k1, k2, k3, k5, lk⟩, sa⟩
theorem rf1_mk (X : K.In h) (G : h.Ns mainGlobals mg) {p1 p2 p3 p4 : Pos} {od : Option Addr} {name qual : Str} {params : Arguments} {scope : Scope} {kV doc pm : Value} {an : Option Addr} {cdv ct : Value} {osl : Array (Option Value)} (a : PySem.W.nsIn K mainGlobals c = some (some (.ref C))) (kp : PySem.W.keepIn K (.ref C) = true)
  (x : XK1 K C W) (hi : PySem.W.findIn K (.ref C) "__init__" = some (some (.ref fI))) (w1 : PySem.W.findIn K (.ref C) "word" = some none)
  (lf : K.lookup fI = some ⟨.type "function", od, .func (PySem.W.fnOf name qual params [.Assign [.Attribute (.Name "self" p1) "word" p2] (.Name "word" p3) p4] scope .none kV doc pm an cdv ct), osl⟩) (cd : PySem.W.codeIn K cdv qual = true)
  (s1 : scope.kind = .function ∧ scope.isCoroutine = false ∧ scope.isGenerator = false ∧ ∀ x ∈ (["self", "word"] : List Str), scope.names.lookup x = some .local)
  (s2 : ∀ us : List Value, us.length = 2 → bindArgs (PySem.W.fnOf name qual params [.Assign [.Attribute (.Name "self" p1) "word" p2] (.Name "word" p3) p4] scope .none kV doc pm an cdv ct) ⟨us, []⟩ = pure ((["self", "word"] : List Str).zip us)) : Rf1 K mg c :=
 ⟨C, W, fI, p1, p2, p3, p4, PySem.W.mg_of X G a, a, kp, x, hi, ⟨_, od, name, qual, params, scope, kV, doc, pm, an, cdv, ct, osl, lf, rfl, cd, s1.1, s1.2.1, s1.2.2.1, s1.2.2.2, s2⟩, fun y hy => by
  rcases List.mem_singleton.mp hy with rfl
  exact w1⟩
theorem rfx_mk (a : PySem.W.nsIn K mainGlobals c = some (some (.ref C))) (x : XC K C) (v : PySem.W.kitOne K (.ref C) (.type "ValueError") = some true) (w1 : PySem.W.findIn K (.ref C) "word" = some none) (w2 : PySem.W.findIn K (.ref C) "at" = some none)
  (m : ∀ c' ∈ cs', ∃ C', mg c' = some (.ref C') ∧ PySem.W.kitOne K (.ref C) (.ref C') = some (E3 c c')) : RfX K mg cs' c := ⟨C, a, x, v, fun y hy => by
  rcases List.mem_cons.mp hy with rfl | hy
  ·exact w1
  ·rcases List.mem_singleton.mp hy with rfl
   exact w2, m⟩
theorem mem0 {P : Str → Prop} : ∀ c ∈ ([] : List Str), P c := fun _ h => by cases h
theorem memC {P : Str → Prop} {c : Str} {l : List Str} (h : P c) (r : ∀ c ∈ l, P c) : ∀ x ∈ c :: l, P x := fun x hx => by
 rcases List.mem_cons.mp hx with rfl | hx
 ·exact h
 ·exact r x hx
theorem kit_mk (X : K.In h) (G : h.Ns mainGlobals mg) {c' : Str} {C' : Addr} {b : Bool} (a : PySem.W.nsIn K mainGlobals c' = some (some (.ref C'))) (k : PySem.W.kitOne K (.ref C) (.ref C') = some b) : ∃ C', mg c' = some (.ref C') ∧ PySem.W.kitOne K (.ref C) (.ref C') = some b := ⟨C', PySem.W.mg_of X G a, k⟩
theorem cls_mk (X : K.In h) (G : h.Ns mainGlobals mg) (a : PySem.W.nsIn K mainGlobals c = some (some (.ref C))) : ∃ C, mg c = some (.ref C) := ⟨C, PySem.W.mg_of X G a⟩
theorem rfa_mk (X : K.In h) (G : h.Ns mainGlobals mg) (v : PySem.W.nsIn K mainGlobals "ValueError" = some none) (a : ∀ c ∈ cs, RfX K mg cs' c) (b : ∀ c ∈ cs', ∃ C, mg c = some (.ref C)) : RfA K mg cs cs' := ⟨a, b, PySem.W.mg_none_of X G v⟩
end
end DL
namespace L2
open PySem PySem.W PySem.Spec PySem.Builtin PyProof.Rows
structure Fly (n : Nat) (H : Hp) (h : Heap) (e C dx : Addr) : Prop where
 en : n ≤ e
 eh : H e = none
 ob : ∃ oe vs, h.get? e = some oe ∧ oe.cls = .ref C ∧ oe.dict = some dx ∧ oe.data = .fields vs ∧ 1 < vs.size ∧
  (vs[1]? = some .none ∨ ∃ T oT ts, vs[1]? = some (.ref T) ∧ n ≤ T ∧ H T = none ∧ T ≠ e ∧ h.get? T = some oT ∧ oT.data = .fields ts ∧ ts[3]? = some .none)
structure Noted (n : Nat) (H : Hp) (l : List Env) (h h' : Heap) (e C dx : Addr) : Prop where
 fl : Fly n H h' e C dx
 kl : ∃ ch : List Addr, (∀ b ∈ ch, n ≤ b ∧ H b = none) ∧ ∀ b o, b ∉ ch → b ∉ t9 l → h.get? b = some o → h'.get? b = some o
 sl : ∀ b o, b ∈ t9 l → h.get? b = some o → ∃ sl, h'.get? b = some { o with slots := sl }
 th : ∀ b o, h.get? b = some o → ∃ o', h'.get? b = some o'
theorem Noted.kp {n : Nat} {H : Hp} {l : List Env} {h h' : Heap} {e C dx : Addr} (z : Noted n H l h h' e C dx) (b : Addr) (o : Obj) (c : b < n ∨ H b ≠ none) (nf : b ∉ t9 l) (q : h.get? b = some o) : h'.get? b = some o := by
 obtain ⟨ch, c1, c2⟩ := z.kl
 refine c2 b o (fun m => ?_) nf q
 obtain ⟨d1, d2⟩ := c1 b m
 rcases c with c | c
 ·exact absurd c (Nat.not_lt.mpr d1)
 ·exact c d2
theorem sv (f : Array Value → Array Value) (o : Obj) : (Obj.mapFields f o).dict = o.dict := by
 unfold Obj.mapFields
 split <;> rfl
section
variable {M : Model} {A : Around} {E : Value → Shared → Prop} {s : Shared} {base : Heap} {H : Hp} {env : Env} {outer : List Env} {L e C dx : Addr} {n0 : Nat} {Q : Unit → Shared → Prop}
theorem fG {oe : Obj} {vs : Array Value} {head : Value} {hadNext : Bool} (hfr : A.frames = some (env :: outer)) (hl : s.heap.FunFrames base (env :: outer)) (hf : env.frame = some L) (hb : n0 ≤ s.heap.objs.size) (hH : ∀ a, s.heap.objs.size ≤ a → H a = none)
  (en : n0 ≤ e) (eh : H e = none) (he : s.heap.get? e = some oe) (hc : oe.cls = .ref C) (hx : oe.dict = some dx) (hd : oe.data = .fields vs) (hs : 1 < vs.size)
  (h : ∀ h', Noted n0 H (env :: outer) s.heap h' e C dx → (∀ b o, b ∉ t9 (env :: outer) → b ≠ e → s.heap.get? b = some o → h'.get? b = some o) → Q () { s with heap := h' }) :
  wpAny M A (do let a ← frameOf env; let pl ← entryPlaceOf L hadNext; let b ← EntryCells.newEntry head a .none (rawInt L) .none pl; setField (.ref e) 1 b) (fun _ s' => wpAny M A (setFlight (.ref e) none) Q E s') E s := by
 have ne : e ∉ t9 (env :: outer) := fun m => by
  obtain ⟨_, o, ho, nf⟩ := hl.mem m
  rw [he] at ho
  cases ho
  exact nf vs hd
 refine wpAny_bind (wpAny_frameOf_fun hfr hl hf fun h1 k1 => ?_)
 refine wpAny_bind (wpAny_entryPlaceOf fun pl hp => ?_)
 unfold EntryCells.newEntry newFields
 refine wpAny_bind (wpAny_newObj_type ?_ (hp.sizeOk5 _ _ _ _ _))
 generalize eT : ({ cls := .type "traceback", dict := none, data := .fields ([head, .ref L, .none, rawInt L, .none] ++ (if pl.isEmpty then List.replicate 6 Value.none else pl)).toArray } : Obj) = oT
 have dT : oT.data = .fields ([head, .ref L, .none, rawInt L, .none] ++ (if pl.isEmpty then List.replicate 6 Value.none else pl)).toArray := by rw [← eT]
 have e1 : h1.get? e = some oe := (k1.2.1 e ne).trans he
 have n1 : h1.objs.size ≠ e := Nat.ne_of_gt (Heap.lt_size e1)
 have e2 := Heap.get?_push_of_some oT e1
 refine wpAny_setField e2 hd hs ?_
 have d3 := Obj.data_mapFields hd (·.setIfInBounds 1 (Value.ref h1.objs.size))
 have e3 := Heap.get?_update_self (Obj.mapFields (·.setIfInBounds 1 (Value.ref h1.objs.size))) e2 (Obj.isFreed_of_fields d3)
 have t3 := (Heap.get?_update_other (h1.push oT) (Obj.mapFields (·.setIfInBounds 1 (Value.ref h1.objs.size))) n1.symm).trans (Heap.get?_push_size h1 (by rw [← eT]; rfl))
 unfold setFlight
 refine wpAny_bind (wpAny_field e3 d3 (x := .ref h1.objs.size) (by simp [hs]) ?_)
 rw [if_pos (show (Value.ref h1.objs.size != Value.none) = true from by simp)]
 refine wpAny_setField t3 dT (by simp only [List.size_toArray, List.length_append, List.length_cons, List.length_nil]; omega) ?_
 generalize eh4 : (((h1.push oT).update e (Obj.mapFields (·.setIfInBounds 1 (Value.ref h1.objs.size)))).update h1.objs.size (Obj.mapFields (·.setIfInBounds 3 ((none : Option Addr).elim Value.none fun f => rawInt f)))) = h4
 have kp : ∀ b o, b ≠ e → h1.get? b = some o → h4.get? b = some o := fun b o nb q => by
  rw [← eh4, Heap.get?_update_other _ _ (Nat.ne_of_gt (Heap.lt_size q)), Heap.get?_update_other _ _ (Ne.symm nb)]
  exact Heap.get?_push_of_some _ q
 have kq : ∀ b o, b ∉ t9 (env :: outer) → b ≠ e → s.heap.get? b = some o → h4.get? b = some o := fun b o nf nb q => kp b o nb ((k1.2.1 b nf).trans q)
 have sT : h1.objs.size = s.heap.objs.size := k1.1.symm ▸ rfl
 have d5 := Obj.data_mapFields dT (·.setIfInBounds 3 ((none : Option Addr).elim Value.none fun f => rawInt f))
 refine h h4 ⟨⟨en, eh, _, _, ?_, ?_, ?_, d3, by simpa using hs, .inr ⟨h1.objs.size, _, _, by simp [hs], (by rw [sT]; exact hb), hH _ (by rw [sT]; exact Nat.le_refl _), n1, ?_, d5, ?_⟩⟩, ⟨[e], fun b m => by rw [List.mem_singleton.mp m]; exact ⟨en, eh⟩, fun b o m nf q => kq b o nf (fun y => m (by simp [y])) q⟩, fun b o m q => ?_, fun b o q => ?_⟩ kq
 ·rw [← eh4, Heap.get?_update_other _ _ n1]; exact e3
 ·rw [Obj.cls_mapFields]; exact hc
 ·rw [sv]; exact hx
 ·rw [← eh4]; exact Heap.get?_update_self _ t3 (Obj.isFreed_of_fields d5)
 ·rcases hp with rfl | ⟨_, _, _, _, _, _, _, rfl⟩ <;> simp
 ·obtain ⟨sl, q1⟩ := k1.2.2 b o q
  exact ⟨sl, kp b _ (fun y => ne (y ▸ m)) q1⟩
 ·by_cases y : b = e
  ·subst y
   have ge : h4.get? b = some (Obj.mapFields (·.setIfInBounds 1 (Value.ref h1.objs.size)) oe) := by rw [← eh4, Heap.get?_update_other _ _ n1]; exact e3
   exact ⟨_, ge⟩
  ·obtain ⟨sl, q1⟩ := k1.2.2 b o q
   exact ⟨_, kp b _ y q1⟩
theorem fJ (hfr : A.frames = some (env :: outer)) (hl : s.heap.FunFrames base (env :: outer)) (hf : env.frame = some L) (hb : n0 ≤ s.heap.objs.size) (hH : ∀ a, s.heap.objs.size ≤ a → H a = none) (f : Fly n0 H s.heap e C dx)
  (h : ∀ h', Noted n0 H (env :: outer) s.heap h' e C dx → Q () { s with heap := h' }) : wpAny M A (noteFrame (.ref e) env) (fun _ s' => wpAny M A (setFlight (.ref e) none) Q E s') E s := by
 obtain ⟨en, eh, oe, vs, e1, e2, e3, e4, e5, z⟩ := f
 unfold noteFrame
 simp only [hf]
 rcases z with z | ⟨T, oT, ts, z1, z2, z3, z4, z5, z6, z7⟩
 ·refine wpAny_bind (wpAny_field e1 e4 z ?_)
  rw [if_neg (by decide)]
  exact fG hfr hl hf hb hH en eh e1 e2 e3 e4 e5 fun h' n _ => h h' n
 ·refine wpAny_bind (wpAny_field e1 e4 z1 ?_)
  rw [if_pos (show (Value.ref T != Value.none) = true from by simp)]
  refine wpAny_bind (wpAny_field z5 z6 z7 ?_)
  rw [if_neg (show ¬ ((Value.none == rawInt L) = true) from by simp [rawInt])]
  refine wpAny_bind (wpAny_setField z5 z6 (Array.getElem?_eq_some_iff.mp z7).1 ?_)
  have ot : ∀ b, b ≠ T → (s.heap.update T (Obj.mapFields (·.setIfInBounds 3 Value.none))).get? b = s.heap.get? b := fun b nb => Heap.get?_update_other _ _ (Ne.symm nb)
  have nT : T ∉ t9 (env :: outer) := fun m => by
   obtain ⟨_, o, ho, nf⟩ := hl.mem m
   rw [z5] at ho
   cases ho
   exact nf ts z6
  have tT := Heap.get?_update_self (Obj.mapFields (·.setIfInBounds 3 Value.none)) z5 (Obj.isFreed_of_fields (Obj.data_mapFields z6 _))
  have sz : (s.heap.update T (Obj.mapFields (·.setIfInBounds 3 Value.none))).objs.size = s.heap.objs.size := Heap.size_update _ _ _
  refine fG (s := { s with heap := s.heap.update T (Obj.mapFields (·.setIfInBounds 3 Value.none)) }) hfr (hl.of_keeps fun b o q nf => ⟨o, (ot b fun y => ?_).trans q, rfl⟩) hf (by rw [sz]; exact hb) (fun a q => hH a (by rw [sz] at q; exact q)) en eh ((ot e (Ne.symm z4)).trans e1) e2 e3 e4 e5 fun h' n kq => h h' ⟨n.fl, ⟨[e, T], fun b m => ?_, fun b o m nf q => kq b o nf (fun y => m (by simp [y])) ((ot b fun y => m (by simp [y])).trans q)⟩, fun b o m q => n.sl b o m ((ot b fun y => nT (y ▸ m)).trans q), fun b o q => ?_⟩
  ·rw [y, z5] at q; cases q; exact nf ts z6
  ·rcases List.mem_cons.mp m with rfl | m
   ·exact ⟨en, eh⟩
   ·rw [List.mem_singleton.mp m]; exact ⟨z2, z3⟩
  ·by_cases y : b = T
   ·subst y; exact n.th _ _ tT
   ·exact n.th b o ((ot b y).trans q)
end
end L2
namespace L2
open PySem PySem.W PySem.Spec PyProof.Rows
noncomputable def F7 (P : Program) (w : World) : C5 := fun outer H0 s0 E ev s' => ∃ e C dx H', ev = .ref e ∧ Fly s0.heap.objs.size H' s'.heap e C dx ∧ s'.os = s0.os ∧ AllBare s'.gens ∧ Un (t9 outer) [] H0 H' s0.heap s'.heap ∧ HOk P w H' s'.heap ∧ E (.ref C) (some dx) H'
theorem Fly.less {n m : Nat} {H : Hp} {h : Heap} {e C dx : Addr} (f : Fly n H h e C dx) (l : m ≤ n) : Fly m H h e C dx := by
 obtain ⟨en, eh, oe, vs, e1, e2, e3, e4, e5, z⟩ := f
 refine ⟨Nat.le_trans l en, eh, oe, vs, e1, e2, e3, e4, e5, z.imp id ?_⟩
 rintro ⟨T, oT, ts, z1, z2, z⟩
 exact ⟨T, oT, ts, z1, Nat.le_trans l z2, z⟩
section
variable {X : Cx} {pins : List (Addr × Obj)} {σ : St} {H : Hp} {s : Shared} {h' : Heap} {e C dx : Addr} {n : Nat}
theorem Noted.hok {l : List Env} (I : Inv X pins σ H s) (hl : ∀ b ∈ t9 l, H b = none) (z : Noted n H l s.heap h' e C dx) : HOk X.prog X.w H h' := fun b u q => by
 refine (I.hok b u q).stay (fun c v hc r => z.kp c v (.inr ?_) (fun m => ?_) r) (fun _ r => r) fun _ _ r => r
 ·rcases hc with rfl | hc
  ·rw [q]; simp
  ·rw [hc]; simp
 ·have := hl c m
  rcases hc with rfl | hc
  ·rw [q] at this; cases this
  ·rw [hc] at this; cases this
theorem my (I : Inv X pins σ H s) (hx : X.ex = []) (hs : X.stack = X.env :: X.outer) (z : Noted X.s₀.heap.objs.size H X.stack s.heap h' e C dx) : Un X.fs [] X.H₀ H X.s₀.heap h' := by
 have I0 := I.base
 rw [hx] at I0
 have sub : ∀ b ∈ X.fs, b ∈ t9 X.stack := fun b m => by
  rw [hs]
  unfold t9
  rw [List.filterMap_cons]
  split
  ·exact m
  ·exact List.mem_cons_of_mem _ m
 have nst : ∀ b o, X.s₀.heap.get? b = some o → b ∉ X.fs → b ∉ t9 X.stack := fun b o q nf m => by
  rcases List.mem_cons.mp (I.stkSub b m) with y | y
  ·exact absurd (Nat.lt_of_lt_of_le (Heap.lt_size q) (by rw [y]; exact I.ok.above)) (Nat.lt_irrefl _)
  ·exact nf y
 refine ⟨fun b o q m nf ne => z.kp b o (.inl (Heap.lt_size q)) (nst b o q nf) (I0.keep b o q m nf ne), fun b o q m nf ne => ?_, fun b o q m ne => I0.free b o q m ne, fun b o q ne => ?_, I0.tups, I0.frzs, I0.tbls⟩
 ·obtain ⟨sl, r⟩ := I0.slot b o q m nf ne
  obtain ⟨sl2, r2⟩ := z.sl b _ (sub b nf) r
  exact ⟨sl2, r2⟩
 ·obtain ⟨o1, r⟩ := I0.there b o q ne
  exact z.th b o1 r
end
section
variable {P : Program} {w : World} {K : PySem.W.Frag} {mg : Str → Option Value} {base : Heap} {N : List Str} {qual : Str} {scope : Scope} {f : Addr} {cd : Value} {A : Around} {outer : List Env} {s0 s : Shared} {H0 H : Hp} {E : XK} {pins : List (Addr × Obj)} {σ : St} {e C dx : Addr}
theorem nX (I : Inv (A9 (F7 P w) P w K mg base N qual scope f cd A outer s0 H0 E) pins σ H s) (z : Fly s0.heap.objs.size H s.heap e C dx) (q : E (.ref C) (some dx) H) : (A9 (F7 P w) P w K mg base N qual scope f cd A outer s0 H0 E).xe (.ref e) s := by
 show wpAny (model P w) (A.deeper (envOfC qual scope s0.heap.objs.size f cd)) (leaving (envOfC qual scope s0.heap.objs.size f cd) (.ref e)) _ _ s
 unfold leaving
 refine wpAny_bind (fJ (H := H) (base := base) (n0 := s0.heap.objs.size) I.ok.frames I.stack rfl I.sz (fun a l => I.hok.fresh l) z fun h' y => ?_)
 exact ⟨e, C, dx, H, rfl, y.fl, I.os, I.bare, my I rfl rfl y, y.hok I I.stkFree, q⟩
end
section
variable {X : Cx} {pins : List (Addr × Obj)} {σ : St} {H H' : Hp} {s s' : Shared} {E : XK} {ev : Value} {e C dx : Addr} {n : Nat}
theorem Inv.noted {s1 : Shared} {H1 : Hp} {h' : Heap} {t' : Nat} (I1 : Inv X pins σ H1 s1) (I : Inv X pins σ H s) (z : Noted s1.heap.objs.size H X.stack s.heap h' e C dx) : Inv X pins σ H { s with heap := h', toks := t' } := by
 obtain ⟨ch, c1, c2⟩ := z.kl
 refine I.call (g' := s.gens) (d' := s.drawn) (t' := t') (ch := ch) ⟨fun b o q _ nf nc => c2 b o nc nf q, fun b o q _ m _ => z.sl b o m q, fun _ _ _ m _ => m, fun b o q _ => z.th b o q, fun _ _ q => q, fun _ _ _ q => q, fun b ps q => ⟨#[], by simpa using q⟩⟩ (z.hok I I.stkFree) I.bare fun b m => ?_
 obtain ⟨_, f2, _, f4, f5, f6⟩ := I1.fpOk (H' := H) (c1 b m).1 (c1 b m).2
 exact ⟨f4, f2, f5, f6⟩
theorem Inv.thrown (I : Inv X pins σ H s) (h : F7 X.prog X.w X.stack H s E ev s') : ∃ e C dx H', ev = .ref e ∧ Inv X pins σ H' s' ∧ Fly s.heap.objs.size H' s'.heap e C dx ∧ E (.ref C) (some dx) H' := by
 obtain ⟨e, C, dx, H', rfl, fl, os, ba, un, hok, q⟩ := h
 obtain ⟨hh, g, d, t, os'⟩ := s'
 obtain rfl : os' = s.os := os
 exact ⟨e, C, dx, H', rfl, I.call (h' := hh) (g' := g) (d' := d) (t' := t) (ch := []) un hok ba (fun b z => absurd z (by simp)), fl, q⟩
end
section
variable {prog : Program} {w : World} {A : Around} {E : Value → Shared → Prop} {s : Shared} {env : Env} {K : PySem.W.Frag} {C : Addr}
theorem sJ {x : Sem Value} {Q : Flow → Shared → Prop} {oC : Obj} (lk : K.lookup C = some oC) (cC : oC.cls = .type "type") (f4 : subIn K (.ref C) (.type "BaseException") = some true) (hh : A.handled = none)
  (h : wpAny (model prog w) A x (fun v s1 => ∃ e oe, v = .ref e ∧ K.In s1.heap ∧ s1.heap.get? e = some oe ∧ oe.cls = .ref C ∧ (∃ t0, oe.data = .fields #[.ref t0, .none, .none, .none, .bool false, .none]) ∧ E (.ref e) s1) E s) : wpAny (model prog w) A (raiseStmt env (some x) none) Q E s := by
 unfold raiseStmt
 refine wpAny_bind (wpAny_mono h (fun v s1 z => ?_) fun _ _ y => y)
 obtain ⟨e, ⟨oc, od, dt, sl⟩, rfl, X, he, hc, ⟨t0, hd⟩, hE⟩ := z
 cases hc
 cases hd
 obtain ⟨hp, g, d, tk, os⟩ := s1
 have hC := X _ _ lk
 have L := looks_subIn (M := model prog w) X f4
 repeat (first | with_reducible refine wpAny_loadPart_at he ?_ | with_reducible refine L.at ?_ | (with_reducible refine wpAny_loadPart_at hC ?_; rw [cC]) | wp_step)
 exact wpAny_raiseNew_none hh hE
theorem sG {x : Expr} {pos : Pos} {Q : Flow → Shared → Prop} {oC : Obj} (lk : K.lookup C = some oC) (cC : oC.cls = .type "type") (f4 : subIn K (.ref C) (.type "BaseException") = some true) (hh : A.handled = none)
  (h : wpAny (model prog w) A (eval x env) (fun v s1 => ∃ e oe, v = .ref e ∧ K.In s1.heap ∧ s1.heap.get? e = some oe ∧ oe.cls = .ref C ∧ (∃ t0, oe.data = .fields #[.ref t0, .none, .none, .none, .bool false, .none]) ∧ E (.ref e) s1) E s) : wpAny (model prog w) A (exec (.Raise (some x) none pos) env) Q E s := by
 rw [arm_exec_Raise]
 simp only [evalOpt, Option.map]
 refine wpAny_bind (wpAny_standAt (sJ (K := K) (C := C) lk cC f4 hh ?_))
 refine wpAny_bind (wpAny_mono h (fun v s3 z => ?_) fun _ _ y => y)
 exact wpAny_bind (wpAny_standAt (wpAny_pure z))
end
end L2
namespace DL
open PySem PySem.Spec L2
noncomputable abbrev Rx := Sum D (Str × List D)
noncomputable abbrev D3 := List D → Option FS → Option (Rx × Option FS)
noncomputable def gT (K : PySem.W.Frag) (N : Addr → Prop) (fa : Option Addr) (H : Hp) (c : Str) (es : List D) (G : Addr → Addr → Prop) : Prop := ∀ C dx od xs, PySem.W.nsIn K mainGlobals c = some (some (.ref C)) → H dx = some (.frz od (.xd (fnm.zip xs))) → Reps K N fa H es xs → G C dx
noncomputable def tL (K : PySem.W.Frag) (n : Nat) (m : D3) : Sp := fun vs H Q E => ∃ (F : Addr → Prop) (fa : Option Addr) (ds : List D) (fs : Option FS) (r : Rx) (fs' : Option FS),
 (∀ b, F b → H b ≠ none) ∧ (∀ a, fa = some a → F a) ∧ Reps K F fa H ds vs ∧ FeedR F H fa fs ∧ m ds fs = some (r, fs') ∧ ds.length = n ∧
  (∀ d, r = .inl d → ∀ v H' fa', Stp fa [] H fa' [] H' → FeedR (fun b => F b ∨ fa' = some b) H' fa' fs' → Rep K (fun b => F b ∨ fa' = some b) fa' H' d v → Q v H') ∧
  (∀ c es, r = .inr (c, es) → ∀ H' fa', Stp fa [] H fa' [] H' → FeedR (fun b => F b ∨ fa' = some b) H' fa' fs' → gT K (fun b => F b ∨ fa' = some b) fa' H' c es fun C dx => E (.ref C) (some dx) H')
noncomputable abbrev gP (P : Program) (w : World) (K : PySem.W.Frag) (mg : Str → Option Value) (base : Heap) (k : Nat) (f : Addr) (fd : FuncData) (ps : List Str) (m : D3) : Prop := FnOk P w K mg base (F7 P w) k f fd ps (tL K ps.length m)
structure CalX (P : Program) (w : World) (K : PySem.W.Frag) (mg : Str → Option Value) (base : Heap) (k : Nat) (x : Str) (ps : List Str) (m : D3) : Prop where
 ex : ∃ (f : Addr) (fd : FuncData), gP P w K mg base k f fd ps m ∧ mg x = some (.ref f) ∧ PySem.W.keepIn K (.ref f) = true ∧ Binds K fd ps []
noncomputable def P0 (n : Nat) (b : DM) : D3 := fun ds fs => (b ⟨ds.map .val ++ List.replicate (n - ds.length) .no, fs⟩).bind fun x => match x.1 with
 | .ret d => some (.inl d, x.2.fs)
 | .next => some (.inl .non, x.2.fs)
 | .thr c es => some (.inr (c, es), x.2.fs)
 | _ => none
structure Rz (X : Cx) (g : Gh) : Prop where
 go : ∀ (pins : List (Addr × Obj)) (σ : L2.St) (H H1 : Hp) (s s1 : Shared) (e C dx : Addr), Inv X pins σ H1 s1 → Inv X pins σ H s → Fly s1.heap.objs.size H s.heap e C dx → g.xq σ (.ref C) (some dx) H → X.xe (.ref e) s
theorem Rz.pass {X : Cx} {g : Gh} (R : Rz X g) (pins : List (Addr × Obj)) (σ : L2.St) (H : Hp) (s : Shared) (ev : Value) (s' : Shared) (I : Inv X pins σ H s) (h : F7 X.prog X.w X.stack H s (g.xq σ) ev s') : X.xe ev s' := by
 obtain ⟨e, C, dx, H', rfl, J, fl, q⟩ := I.thrown h
 exact R.go pins σ H' H s' s e C dx I J fl q
section
variable {P : Program} {w : World} {K : PySem.W.Frag} {mg : Str → Option Value} {base : Heap}
theorem oV {x qual : Str} {st : Stmt} {f : Addr} {fd : FuncData} {N ps : List Str} {k : Nat} {b : DM} (F : Fun K x qual st f fd) (S : FnScope N ps (j4 st))
  (hbody : ∀ (cdv : Value) (A : Around) (outer : List Env) (s : Shared) (H : Hp) (E : XK) (g : Gh), Rz (A9 (F7 P w) P w K mg base N qual (j4 st) f cdv A outer s H E) g → Room k (A.deeper (PyProof.Rows.envOfC qual (j4 st) s.heap.objs.size f cdv)) →
   SSO (A9 (F7 P w) P w K mg base N qual (j4 st) f cdv A outer s H E) g (B1 st) b) : gP P w K mg base (k + 1) f fd ps (P0 N.length b) := by
 obtain ⟨oc, od, kV, doc, pm, an, cdv, ct, osl, rfl, lk, hcd⟩ := F.ex
 refine hR lk hcd S (fun vs H Q E h => ?_) (fun A outer s H vs Q E hr h => ?_)
 ·obtain ⟨F, fa, ds, fs, d, fs', _, _, r, _, _, hl, _⟩ := h
  rw [r.length]; exact hl
 obtain ⟨F, fa, ds, fs, rr, fs', tr, ff, r, fd, e, hl, q, qx⟩ := h
 refine ⟨_, (hbody cdv A outer s H E ⟨F, H, fa, fun _ => E⟩ ⟨fun pins σ H H1 s s1 e C dx I1 I z y => nX I (z.less I1.sz) y⟩ hr).pe, ?_⟩
 refine k4 e fun fl s' h1 h2 => ?_
 have hN : ∀ b, NN F fa [] b → F b := fun b z => by
  rcases z with z | z | z
  ·exact z
  ·cases z
  ·exact ff b z
 have c : Car K F fa H (NN F fa []) fa H := ⟨fun b xs n q => ⟨q, fun z => n (hN b z)⟩, fun _ _ q => q, fun _ _ q => q, fun _ q => q⟩
 have el : (L2.start N vs) = vs.map some ++ List.replicate (N.length - ds.length) none := by rw [L2.start, r.length]
 have I : GI K ⟨F, H, fa, fun _ => E⟩ (L2.start N vs) H fa [] ⟨ds.map .val ++ List.replicate (N.length - ds.length) .no, fs⟩ := by
  refine ⟨List.nodup_nil, ?_, fun b hb => (by cases hb), Stp.refl, tr, ff, fd.car c fun _ _ => rfl, fun _ _ z => (by cases z)⟩
  rw [el]
  exact dJ (Reps.go c ds vs r)
 have cc : ∀ {fa' : Option Addr} {O' : List Addr} {H' : Hp}, Car K (NN F fa' O') fa' H' (fun b => F b ∨ fa' = some b) fa' H' := fun {fa' O' H'} => ⟨fun b xs n q => ⟨q, fun z => n (by
   rcases z with z | z
   ·exact .inl z
   ·exact .inr (.inr z))⟩, fun _ _ q => q, fun _ _ q => q, fun _ q => q⟩
 have sc : ∀ {fa' : Option Addr} {O' : List Addr} {H' : Hp}, Stp fa [] H fa' O' H' → Stp fa [] H fa' [] H' := fun a1 => ⟨fun b hb => (by cases hb), a1.fe, a1.same, a1.mon⟩
 refine ⟨fa, [], _, fl, s', I, h1, ?_⟩
 cases fl with
 | next =>
  simp only [Option.some.injEq, Prod.mk.injEq] at h2
  exact fun σ' H' fa' O' a1 I1 => q _ h2.1.symm .non H' fa' (sc a1) (h2.2 ▸ I1.fd.car cc fun _ _ => rfl) (by simp only [Rep])
 | ret dd =>
  simp only [Option.some.injEq, Prod.mk.injEq] at h2
  exact fun σ' v H' fa' O' a1 I1 r1 => q _ h2.1.symm v H' fa' (sc a1) (h2.2 ▸ I1.fd.car cc fun _ _ => rfl) (Rep.go cc _ _ r1)
 | thr c es =>
  simp only [Option.some.injEq, Prod.mk.injEq] at h2
  exact fun σ' C dx od xs H' fa' O' a1 I1 n1 n2 r1 => qx _ _ h2.1.symm H' fa' (sc a1) (h2.2 ▸ I1.fd.car cc fun _ _ => rfl) C dx od xs n1 n2 (Reps.go cc _ _ r1)
 | brk => cases h2
 | cont => cases h2
end
noncomputable def R3 (c : Str) (t : DA) : DM := fun s => (t s).map fun x => (.thr c x.1, x.2)
section
variable {X : Cx} {g : Gh} {c : Str} {p pos pos' : Pos} {a b : Expr} {es : List Expr} {t : DA} {k : Nat}
theorem jZ {pins : List (Addr × Obj)} {σ : L2.St} {H : Hp} {s : Shared} {h' : Heap} {e dx C W fI : Addr} {mA : Str → Option Value} {xs : List V} {tk : Nat} {ds : List D} {s0 : DS} {fa : Option Addr} {O : List Addr} {ps : List Str} {body : List Stmt} (R : Rz X g) (xd : XD X.K C W fI ps body) (I : Inv X pins σ H s) (m : Mdn s.heap h' e dx C mA) (r : ∀ f, T5 ((fnm.zip xs).lookup f) (mA f))
  (hn : PySem.W.nsIn X.K mainGlobals c = some (some (.ref C))) (G : GI X.K g σ H fa O s0) (rs : Reps X.K (NN g.F fa O) fa H ds xs)
  (q : ∀ C dx od xs H', StE fa O H fa O H' → GI X.K g σ H' fa O s0 → PySem.W.nsIn X.K mainGlobals c = some (some (.ref C)) → H' dx = some (.frz od (.xd (fnm.zip xs))) → Reps X.K (NN g.F fa O) fa H' ds xs → g.xq σ (.ref C) (some dx) H') :
  ∃ e' oe, (Value.ref e : Value) = .ref e' ∧ X.K.In h' ∧ h'.get? e' = some oe ∧ oe.cls = .ref C ∧ (∃ t0, oe.data = .fields #[.ref t0, .none, .none, .none, .bool false, .none]) ∧ X.xe (.ref e') { s with heap := h', toks := tk } := by
 obtain ⟨o, e1, e2, ⟨t0, e3⟩, e4⟩ := m.at_
 obtain ⟨od, es, ep, d1, d2⟩ := id m.ns
 have n1 : H e = none := I.hok.fresh m.n1
 have n2 : H dx = none := I.hok.fresh m.n2
 have J : Inv X pins σ (e7 H dx (.frz od (.xd (fnm.zip xs)))) { s with heap := h', toks := tk } := by
  refine I.un ⟨fun b u q _ _ _ => m.kp b u q, fun b u q _ _ _ => ⟨u.slots, m.kp b u q⟩, fun b u q n _ => ?_, fun b u q _ => ⟨u, m.kp b u q⟩, fun b ys q => ?_, fun b u v q => ?_, fun b ps q => ⟨#[], ?_⟩⟩ fun b u q => ?_
  ·rw [i5 (jn q m.n2)]; exact n
  ·rw [i5 (t7 q n2)]; exact q
  ·rw [i5 (t7 q n2)]; exact q
  ·rw [i5 (t7 q n2)]; simpa using q
  ·by_cases h2 : b = dx
   ·subst h2
    rw [r8] at q
    cases q
    exact ⟨d1, mA, m.ns, r⟩
   ·rw [i5 h2] at q
    exact (I.hok b u q).stay (fun c v _ z => m.kp c v z) (fun c z => by rw [i5 (t7 z n2)]; exact z) fun c ys z => by rw [i5 (t7 z n2)]; exact z
 refine ⟨e, o, rfl, I.kIn.keeps m.kp, e1, e2, ⟨t0, e3⟩, R.go pins σ _ _ _ _ e C dx I J ⟨m.n1, ?_, o, _, e1, e2, e4, e3, (show 1 < 6 by decide), .inl rfl⟩ (q C dx od xs _ (v3 n2) (G.new n2) hn r8 (rs.stp G (v3 n2).stp))⟩
 rw [i5 m.ne.symm]; exact n1
theorem gu (R : Rz X g) (Rc : Rf1 X.K X.mg c) (hr : Room (k + 1) X.A) (hc : X.calm = true) (hg : Gl X c) (ha : AO X g [a] t) (hl : ∀ s ds s', t s = some (ds, s') → ds.length = 1) (hdb : (c == ("__debug__" : Str)) = false := by decide)
  (he : starEach [a] X.env = [(false, eval a X.env)] := by rfl) : SO X g (.Raise (some (.Call (.Name c p) [a] [] pos)) none pos') (R3 c t) := by
 refine ⟨fun pins s σ H Dd I h => ?_⟩
 obtain ⟨C, W, fI, p1, p2, p3, p4, hm, hn, hk, xd⟩ := Rc.ex
 refine h.elim fun fa0 O s0 fl s1 G0 e0 q => ?_
 obtain ⟨⟨ds, s2⟩, t1, t2⟩ := Option.map_eq_some_iff.mp e0
 cases t2
 obtain ⟨nm, q', N, bs, hdct, sn, sub, ab, col, dd, k0, k1, k2, k3, k5, lk⟩ := xd.k1.ob
 refine sG (K := X.K) (C := C) lk rfl xd.k1.xc.f4 (I.ok.hd hc) ?_
 refine wpAny_Call_Name_kw (T7 I hg hm ?_ hdb)
 refine PySem.W.callWith_K (h₀ := X.base) I.ok.mod.kin hk (i7 (ha.pe pos pins s σ H (fun vs H1 => ∃ f1 O1, StE fa0 O H f1 O1 H1 ∧ GI X.K g σ H1 f1 O1 s2 ∧ Reps X.K (NN g.F f1 O1) f1 H1 ds vs) I ⟨fa0, O, s0, ds, s2, G0, t1, fun vs H1 f1 O1 a1 a2 a3 => ⟨f1, O1, a1, a2, a3⟩⟩) fun us s3 ⟨vs, H1, I1, rv, f1, O1, b1, b2, b3⟩ => ⟨I1.kIn, ?_⟩) he rfl
 have l1 := hl _ _ _ t1
 have l2 := b3.length
 have l3 := rv.length
 obtain ⟨x0, rfl⟩ : ∃ x0, vs = [x0] := List.length_eq_one_iff.mp (by rw [l2, l1])
 obtain ⟨u0, rfl⟩ : ∃ u0, us = [u0] := List.length_eq_one_iff.mp (by rw [← l3]; rfl)
 refine L2.mk1 xd hr I1.kIn I1.nolimit fun h' tk e dx m => ?_
 exact jZ (c := c) R xd I1 m (rQ rv) hn b2 b3 fun C dx od xs H' c1 c2 c3 c4 c5 => q σ C dx od xs H' f1 O1 (b1.trans c1).stp c2 c3 c4 c5
end
noncomputable abbrev L0 := DS → Option (Rx × DS)
noncomputable def eM (K : PySem.W.Frag) (g : Gh) (f : L0) : TE := fun σ H Q => ∃ fa O s r s', GI K g σ H fa O s ∧ f s = some (r, s') ∧
 (∀ d, r = .inl d → ∀ v H' fa' O', StE fa O H fa' O' H' → GI K g σ H' fa' O' s' → Rep K (NN g.F fa' O') fa' H' d v → Q v H') ∧
 (∀ c es, r = .inr (c, es) → ∀ H' fa' O', StE fa O H fa' O' H' → GI K g σ H' fa' O' s' → gT K (NN g.F fa' O') fa' H' c es fun C dx => g.xq σ (.ref C) (some dx) H')
structure XO (X : Cx) (g : Gh) (e : Expr) (f : L0) : Prop where
 pe : PE X e (eM X.K g f)
theorem XO.w {X : Cx} {g : Gh} {e : Expr} {f : L0} {t : TE} (h : PE X e t) (k : ∀ σ H Q, eM X.K g f σ H Q → t σ H Q) : XO X g e f := ⟨fun pins s σ H Q I q => h pins s σ H Q I (k σ H Q q)⟩
noncomputable def P9 (m : D3) (t : DA) : L0 := fun s => (t s).bind fun x => (m x.1 x.2.fs).map fun y => (y.1, { x.2 with fs := y.2 })
section
variable {X : Cx} {g : Gh} {k : Nat} {ps : List Str} {m : D3} {x : Str} {p pos : Pos} {e : Expr} {es : List Expr} {t : DA}
theorem mx {E : L2.St → XK} {CX : C5} {f : Addr} {fd : FuncData} {sp : Sp} {ta : TA} (F : FnOk X.prog X.w X.K X.mg X.base CX k f fd ps sp) (hr : Room k X.A) (hg : Gl X x) (hm : X.mg x = some (.ref f)) (hk : PySem.W.keepIn X.K (.ref f) = true) (hb : Binds X.K fd ps [])
  (hx : ∀ (pins : List (Addr × Obj)) (σ : L2.St) (H : Hp) (s : Shared) (e : Value) (s' : Shared), Inv X pins σ H s → CX X.stack H s (E σ) e s' → X.xe e s')
  (ha : PA X (e :: es) ta) (hdb : (x == ("__debug__" : Str)) = false := by decide) (he : starEach (e :: es) X.env = (false, eval e X.env) :: starEach es X.env := by rfl) (hpl : (backTo pos (starEach es X.env)).any (·.1) = false := by rfl) :
  PE X (.Call (.Name x p) (e :: es) [] pos) (fun σ H Q => ta σ H fun vs H1 => sp vs H1 Q (E σ)) := by
 intro pins s σ H Q I h
 refine wpAny_Call_Name_kw (T7 I hg hm ?_ hdb)
 refine PySem.W.callWith_K (h₀ := X.base) I.ok.mod.kin hk (i7 (ha pos pins s σ H _ I h) fun us s1 ⟨vs, H1, I1, r, q⟩ => ⟨I1.kIn, ?_⟩) he hpl
 have hl : (us ++ []).length = ps.length := by rw [List.append_nil, ← r.length]; exact F.len _ _ _ _ q
 have hb' := hb s1 us I1.kIn hl
 rw [List.append_nil] at hb'
 refine wpAny_call (codeAny_mono (F.run X.A X.stack s1 H1 ⟨us, []⟩ us vs Q (E σ) hr I1.env0 hb' r q) fun rr s' hq => ?_)
 cases rr with
 | error ev => exact hx pins σ H1 s1 ev s' I1 hq
 | ok fl =>
  cases fl with
  | ret u => exact I1.after hq
  | next => exact False.elim hq
  | brk => exact False.elim hq
  | cont => exact False.elim hq
theorem ql (C : CalX X.prog X.w X.K X.mg X.base k x ps m) (R : Rz X g) (k' : Nat) (hr : Room k' X.A) (hk : k ≤ k') (hg : Gl X x) (ha : AO X g (e :: es) t) (hn : ∀ s ds s', t s = some (ds, s') → ds.length = ps.length)
  (hdb : (x == ("__debug__" : Str)) = false := by decide) (he : starEach (e :: es) X.env = (false, eval e X.env) :: starEach es X.env := by rfl) (hpl : (backTo pos (starEach es X.env)).any (·.1) = false := by rfl) : XO X g (.Call (.Name x p) (e :: es) [] pos) (P9 m t) := by
 obtain ⟨f, fd, F, hm, hkp, hb⟩ := C.ex
 refine XO.w (mx F (hr.mono hk) hg hm hkp hb R.pass ha.pe hdb he hpl) fun σ H Q h => ?_
 obtain ⟨fa, O, s, r, s', I, q, k1, k2⟩ := h
 refine k4 q fun ds s1 h1 h2 => ?_
 refine mapP h2 fun r1 fs1 h3 h4 => ?_
 simp only [Prod.mk.injEq] at h4
 obtain ⟨e1, e2⟩ := h4
 subst e1; subst e2
 refine ⟨fa, O, s, ds, s1, I, h1, fun vs H1 f1 O1 a1 I1 r => ?_⟩
 have st : ∀ {f2 : Option Addr} {H2 : Hp}, Stp f1 [] H1 f2 [] H2 → StE f1 O1 H1 f2 O1 H2 := fun a2 => ⟨fun b hb => hb, a2.fe, fun b u e n => a2.same b u e (by simp) n, a2.mon⟩
 have c2 : ∀ {f2 : Option Addr} {H2 : Hp}, Car X.K (fun b => NN g.F f1 O1 b ∨ f2 = some b) f2 H2 (NN g.F f2 O1) f2 H2 := fun {f2 H2} => ⟨fun b xs n q => ⟨q, fun z => n (by
   rcases z with z | z | z
   ·exact .inl (.inl z)
   ·exact .inl (.inr (.inl z))
   ·exact .inr z)⟩, fun _ _ q => q, fun _ _ q => q, fun _ q => q⟩
 have gi : ∀ {f2 : Option Addr} {H2 : Hp}, Stp f1 [] H1 f2 [] H2 → FeedR (fun b => NN g.F f1 O1 b ∨ f2 = some b) H2 f2 fs1 → GI X.K g σ H2 f2 O1 { s1 with fs := fs1 } := fun {f2 H2} a2 fd2 => by
  have a3 := st a2
  refine ⟨I1.nd, SlR.go (I1.car a3.stp) (fun b xs hb e => ?_) I1.sl, I1.fr, I1.st.trans ⟨fun b hb => (by cases hb), a2.fe, fun b u e n z => a2.same b u e n z, a2.mon⟩, I1.tr, I1.ff, fd2.car c2 fun _ _ => rfl, I1.nf_step a3.fe⟩
  exact a3.same b _ e fun z => I1.nf b z hb
 exact ⟨NN g.F f1 O1, f1, ds, s1.fs, r1, fs1, fun b hb => I1.nn_tracked hb, fun a ha => .inr (.inr ha), r, I1.fd, h3, hn s ds s1 h1, fun d ed v H2 f2 a2 fd2 r2 => k1 d ed v H2 f2 O1 (a1.trans (st a2)) (gi a2 fd2) (Rep.go c2 _ _ r2),
  fun c es ec H2 f2 a2 fd2 C dx od xs n1 n2 r2 => k2 c es ec H2 f2 O1 (a1.trans (st a2)) (gi a2 fd2) C dx od xs n1 n2 (Reps.go c2 _ _ r2)⟩
noncomputable def M0 (f : L0) (t : D → DS → Option DS) : DM := fun s => (f s).bind fun x => match x.1 with
 | .inl d => (t d x.2).map fun s' => (.next, s')
 | .inr (c, es) => some (.thr c es, x.2)
theorem nq {f : L0} {i : Nat} {x : Str} {pos' : Pos} (hN : X.N.Nodup) (hi : X.N[i]? = some x) (hx : N0 X.env.scope x) (he : XO X g e f) (hs : swapsWith e (some (.Name x pos')) pos.line X.env = pure false := by rfl) (hf : X.fn x = true ∨ X.env.scope.names.lookup x = some .local := by first | exact .inl rfl | exact .inr rfl | assumption) :
  SO X g (.Assign [.Name x pos'] e pos) (M0 f (c8 i)) := SO.w (bg hN hi hx he.pe hs hf) fun E σ H hQ => by
 refine hQ.elim fun fa O s fl s' I q k => ?_
 refine k4 q fun r s1 h1 h2 => ?_
 refine ⟨fa, O, s, r, s1, I, h1, fun d ed v H' f1 O1 a1 I1 rr => ?_, fun c es ec H' f1 O1 a1 I1 C dx od xs n1 n2 rr => ?_⟩
 ·subst ed
  cases h2
  obtain ⟨P, sub, I'⟩ := I1.put i rr
  exact k _ H' f1 P (a1.stp.trans (N9 sub).stp) I'
 ·subst ec
  cases h2
  exact k σ C dx od xs H' f1 O1 a1.stp I1 n1 n2 rr
end
end DL
namespace L2
open PySem PySem.W PySem.Spec PyProof.Rows
section
variable {prog : Program} {w : World} {A : Around} {E : Value → Shared → Prop} {h : Heap} {g : Array GenState} {d : Drawn} {t : Nat} {os : OsState} {K : PySem.W.Frag} {e C C' : Addr} {oe : Obj} {b : Bool} {Q : Bool → Shared → Prop}
theorem nC {od : Option Addr} {cd : ClassData} {sl : Array (Option Value)} (X : K.In h) (he : h.get? e = some oe) (hc : oe.cls = .ref C) (lk : K.lookup C' = some ⟨.type "type", od, .cls cd, sl⟩) (f4 : subIn K (.ref C') (.type "BaseException") = some true) (sb : subIn K (.ref C) (.ref C') = some b) (z : Q b ⟨h, g, d, t, os⟩) :
  wpAny (model prog w) A (excMatches (.ref e) (.ref C')) Q E ⟨h, g, d, t, os⟩ := by
 have hC := X _ _ lk
 have L2 := looks_subIn (M := model prog w) X f4
 have L3 := looks_subIn (M := model prog w) X sb
 have hnt : isSubtype (.type "type") (.type "tuple") = pure false := tc_notTuple
 unfold excMatches isInstance
 repeat (any_goals (first | assumption | with_reducible refine wpAny_loadPart_at hC ?_ | with_reducible refine L2.at ?_ | with_reducible refine L3.at ?_ | (with_reducible refine wpAny_loadPart_at he ?_; rw [hc]) | wp_step))
 cases b <;> (repeat (any_goals (first | assumption | wp_step)))
end
section
variable {prog : Program} {w : World} {A : Around} {s : Shared} {env : Env} {R : Result → Shared → Prop}
theorem sg {e : Value} {n : Str} {b0 : Stmt} {body : List Stmt} {pos : Pos}
  (h : wpAny (model prog w) A (setFlight e none) (fun _ s1 => wpAny (model prog w) A (storeName env n e) (fun _ s2 => wpAny (model prog w) A (execs (b0 :: body) env) (fun f s3 => R (.ok f) s3) (fun _ _ => False) s2) (fun _ _ => False) s1) (fun _ _ => False) s) :
  codeAny (model prog w) A (.handlers e [.ExceptHandler none (some n) (b0 :: body) pos] env) R s := by
 refine codeAny_of_tree ?_
 show wpAny _ A (do return Fin.done (← (handleWith e env [.ExceptHandler none (some n) (b0 :: body) pos]).onRaise (fun x => do noteFrame x env; theTreesLotGoes x))) _ _ s
 refine wpAny_bind (wpAny_noted ?_)
 unfold handleWith
 refine wpAny_bind (wpAny_standAt (wpAny_bind (wpAny_mono h (fun _ s1 h1 => wpAny_bind (wpAny_bindName (wpAny_mono h1 (fun _ s2 h2 => ?_) fun _ _ x => x.elim))) fun _ _ x => x.elim)))
 refine wpAny_bind (wpAny_attempt (wpAny_mono h2 (fun f s3 h3 => wpAny_pure (wpAny_pure h3)) fun _ _ x => x.elim))
end
section
variable {M : Model} {A : Around} {E : Value → Shared → Prop} {X : Cx} {pins : List (Addr × Obj)} {σ : St} {H H1 : Hp} {s s1 : Shared} {e C dx : Addr} {Q : Unit → Shared → Prop}
theorem uC (I1 : Inv X pins σ H1 s1) (I : Inv X pins σ H s) (f : Fly s1.heap.objs.size H s.heap e C dx) (z : ∀ h', Inv X pins σ H { s with heap := h' } → (∀ o, s.heap.get? e = some o → h'.get? e = some o) → Q () { s with heap := h' }) : wpAny M A (setFlight (.ref e) none) Q E s := by
 obtain ⟨en, eh, oe, vs, e1, e2, e3, e4, e5, y⟩ := f
 unfold setFlight
 rcases y with y | ⟨T, oT, ts, z1, z2, z3, z4, z5, z6, z7⟩
 ·refine wpAny_bind (wpAny_field e1 e4 y ?_)
  rw [if_neg (by decide)]
  exact wpAny_pure (z s.heap I fun o q => q)
 ·refine wpAny_bind (wpAny_field e1 e4 z1 ?_)
  rw [if_pos (show (Value.ref T != Value.none) = true from by simp)]
  refine wpAny_setField z5 z6 (Array.getElem?_eq_some_iff.mp z7).1 (z _ ?_ fun o q => (Heap.get?_update_other _ _ z4).trans q)
  obtain ⟨f1, f2, f3, f4, f5, f6⟩ := I1.fpOk (H' := H) z2 z3
  exact I.turned (t' := s.toks) (it := T) (fun b o nb q => (Heap.get?_update_other _ _ (Ne.symm nb)).trans q) z3 f2 f4 f5 f6
end
noncomputable abbrev Cx.tr (X : Cx) (pn : List (Addr × Obj)) (xe : Value → Shared → Prop) : Cx := { X with pn := pn, xe := xe }
noncomputable abbrev Cx.hd (X : Cx) (e : Addr) : Cx := { X with A := X.A.mark (some (.ref e)), calm := false, xe := fun _ _ => False }
section
variable {X : Cx} {pins pins' : List (Addr × Obj)} {σ : St} {H : Hp} {s : Shared} {xe : Value → Shared → Prop} {e : Addr}
theorem Cx.Ok.tr {pn : List (Addr × Obj)} (ok : X.Ok) : (X.tr pn xe).Ok := ⟨ok.mod, ok.kind, ok.glob, ok.blt, ok.above, ok.inj, ok.has, ok.cab, ok.hd, ok.frames, ok.stk, ok.exf, ok.bs, ok.bsz, ok.noex, ok.exfs, ok.funs, ok.frf⟩
theorem Cx.Ok.untr {pn : List (Addr × Obj)} (ok : (X.tr pn xe).Ok) : X.Ok := ⟨ok.mod, ok.kind, ok.glob, ok.blt, ok.above, ok.inj, ok.has, ok.cab, ok.hd, ok.frames, ok.stk, ok.exf, ok.bs, ok.bsz, ok.noex, ok.exfs, ok.funs, ok.frf⟩
theorem Inv.tr (I : Inv X pins σ H s) : Inv (X.tr (X.pn ++ pins) xe) [] σ H s := ⟨I.ok.tr, I.os, I.bare, I.base, I.loc, I.cell, I.free, I.freeC, fun p hp => I.pin p (by simpa using hp), I.hok, I.len⟩
theorem Inv.untr (I : Inv (X.tr (X.pn ++ pins) xe) pins' σ H s) : Inv X pins σ H s := ⟨I.ok.untr, I.os, I.bare, I.base, I.loc, I.cell, I.free, I.freeC, fun p hp => I.pin p (List.mem_append_left _ hp), I.hok, I.len⟩
theorem Cx.Ok.hd' (ok : X.Ok) : (X.hd e).Ok := ⟨ok.mod, ok.kind, ok.glob, ok.blt, ok.above, ok.inj, ok.has, ok.cab, (fun z => by cases z), ok.frames, ok.stk, ok.exf, ok.bs, ok.bsz, ok.noex, ok.exfs, ok.funs, ok.frf⟩
theorem Inv.hd (I : Inv X pins σ H s) : Inv (X.hd e) pins σ H s := ⟨I.ok.hd', I.os, I.bare, I.base, I.loc, I.cell, I.free, I.freeC, I.pin, I.hok, I.len⟩
theorem Inv.unhd (ok : X.Ok) (I : Inv (X.hd e) pins σ H s) : Inv X pins σ H s := ⟨ok, I.os, I.bare, I.base, I.loc, I.cell, I.free, I.freeC, I.pin, I.hok, I.len⟩
theorem SP.untr {D : Ends} {f : Flow} {s' : Shared} (h : SP (X.tr (X.pn ++ pins) xe) pins' D f s') : SP X pins D f s' := by
 cases f with
 | next => obtain ⟨σ', H', I, q⟩ := h; exact ⟨σ', H', I.untr, q⟩
 | brk => obtain ⟨σ', H', I, q⟩ := h; exact ⟨σ', H', I.untr, q⟩
 | cont => obtain ⟨σ', H', I, q⟩ := h; exact ⟨σ', H', I.untr, q⟩
 | ret u => obtain ⟨v, σ', H', I, r, q⟩ := h; exact ⟨v, σ', H', I.untr, r, q⟩
end
section
variable {X : Cx} {pins : List (Addr × Obj)} {σ : St} {H H1 : Hp} {s s1 : Shared}
theorem mG {M : Model} {A : Around} {E : Value → Shared → Prop} {i : Nat} {x : Str} {v : V} {Q : Unit → Shared → Prop} (I : Inv X pins σ H s) (hN : X.N.Nodup) (hi : X.N[i]? = some x) (hx : X.env.scope.names.lookup x = some .local) (hv : σ[i]? = some (some v))
  (z : ∀ s', Inv X pins (σ.set i none) H s' → Q () s') : wpAny M A (unbindName X.env x) Q E s := by
 obtain ⟨m, hn, hl⟩ := id I.loc
 obtain ⟨u, r, l⟩ := hl i x v hi hv (.inl hx)
 have mv : m x = some u := by
  rcases l with ⟨_, q⟩ | ⟨q, _⟩
  ·exact q
  ·have q : X.env.scope.names.lookup x = some .cell ∨ X.env.scope.names.lookup x = some .free := q
   rw [hx] at q
   rcases q with q | q <;> cases q
 obtain ⟨oL, _, _, hoL, _⟩ := id hn
 have nl : ∀ b o, X.s₀.heap.get? b = some o → b ≠ X.env.locals := fun b o q => Nat.ne_of_lt (Nat.lt_of_lt_of_le (Heap.lt_size q) I.ok.above)
 refine wpAny_unbindName_local hx hn mv (by rw [I.ok.kind]; rfl) fun h' u' hn' hs => ?_
 refine z _ ⟨I.ok, I.os, I.bare, ⟨fun b o q n nf ne => (hs.2 b (nl b o q)).trans (I.base.keep b o q n nf ne), fun b o q n nf ne => ?_, I.base.free, fun b o q ne => ?_, I.base.tups, I.base.frzs, I.base.tbls⟩, ⟨_, hn', fun j y v' e1 e2 e3 => ?_⟩, fun y c q => ?_, I.free, I.freeC, fun p hp => ?_, fun b ob q => ?_, by simpa using I.len⟩
 ·obtain ⟨sl, e1⟩ := I.base.slot b o q n nf ne
  exact ⟨sl, (hs.2 b (nl b o q)).trans e1⟩
 ·obtain ⟨o', e1⟩ := I.base.there b o q ne
  exact ⟨o', (hs.2 b (nl b o q)).trans e1⟩
 ·by_cases hj : j = i
  ·subst hj
   rw [List.getElem?_set_self (by rw [I.len]; exact (List.getElem?_eq_some_iff.mp hi).1)] at e2
   cases e2
  ·rw [List.getElem?_set_ne (Ne.symm hj)] at e2
   obtain ⟨u2, r2, q⟩ := hl j y v' e1 e2 e3
   refine ⟨u2, r2, ?_⟩
   rcases q with ⟨k, q⟩ | ⟨k, c, q, w⟩
   ·have ny : y ≠ x := fun e => hj (aY hN e1 (e ▸ hi))
    exact .inl ⟨k, by simp [ny, q]⟩
   ·exact .inr ⟨k, c, q, w.sameBut hs (I.cne y c q)⟩
 ·obtain ⟨w, q2⟩ := I.cell y c q
  exact ⟨w, q2.sameBut hs (I.cne y c q)⟩
 ·obtain ⟨e, n, ne, nf, d⟩ := I.pin p hp
  exact ⟨(hs.2 p.1 ne).trans e, n, ne, nf, d⟩
 ·refine (I.hok b ob q).stay (fun c w hc y => (hs.2 c ?_).trans y) (fun _ y => y) fun _ _ y => y
  rintro rfl
  have fr := I.free
  rcases hc with rfl | hc
  ·rw [fr] at q; cases q
  ·rw [fr] at hc; cases hc
theorem Inv.freeze {e : Addr} {oe : Obj} (I1 : Inv X pins σ H1 s1) (I : Inv X pins σ H s) (en : s1.heap.objs.size ≤ e) (eh : H e = none) (ge : s.heap.get? e = some oe) : Inv X pins σ (e7 H e (.frz oe (.own e))) s := by
 obtain ⟨f1, f2, f3, f4, f5, f6⟩ := I1.fpOk (H' := H) en eh
 refine I.call' (ch := [e]) rfl ⟨fun b o q _ _ _ => q, fun b o q _ _ _ => ⟨o.slots, q⟩, fun b o q n ne => ?_, fun b o q _ => ⟨o, q⟩, fun b ys q => ?_, fun b u v q => ?_, fun b ps q => ⟨#[], ?_⟩⟩ (fun b u q => ?_) I.bare fun b m => ?_
 ·rw [i5 (fun z => ne (by simp [z]))]; exact n
 ·rw [i5 (t7 q eh)]; exact q
 ·rw [i5 (t7 q eh)]; exact q
 ·rw [i5 (t7 q eh)]; simpa using q
 ·by_cases hb : b = e
  ·subst hb
   rw [r8] at q
   cases q
   exact ⟨ge, oe, ge⟩
  ·rw [i5 hb] at q
   exact (I.hok b u q).stay (fun c v _ y => y) (fun c y => by rw [i5 (t7 y eh)]; exact y) fun c ys y => by rw [i5 (t7 y eh)]; exact y
 ·rw [List.mem_singleton.mp m]
  exact ⟨f4, f2, f5, f6⟩
end
end L2
namespace DL
open PySem PySem.Spec L2
structure Ck (K : PySem.W.Frag) (mg : Str → Option Value) (cs : List Str) (cn : Str) : Prop where
 ex : ∃ C' od cd sl, mg cn = some (.ref C') ∧ K.lookup C' = some ⟨.type "type", od, .cls cd, sl⟩ ∧ PySem.W.subIn K (.ref C') (.type "BaseException") = some true ∧ ∀ c ∈ cs, ∃ C, PySem.W.nsIn K mainGlobals c = some (some (.ref C)) ∧ PySem.W.subIn K (.ref C) (.ref C') = some true
noncomputable def L6 (cs : List Str) (i : Nat) (b h : DM) : DM := fun s => (b s).bind fun x => match x.1 with
 | .thr c ds => if cs.contains c = true ∧ ds.length ≤ 2 then (h { x.2 with sl := x.2.sl.set i (.val (.exc c ds)) }).bind fun y => match y.1 with
   | .next => some (.next, { y.2 with sl := y.2.sl.set i .no })
   | _ => none
  else none
 | fl => some (fl, x.2)
theorem SlR.toNo {K : PySem.W.Frag} {N : Addr → Prop} {fa : Option Addr} {H : Hp} (v : Option V) : ∀ {sl : List Sl} {σ : List (Option V)} {O : List Addr} {i : Nat} {d : D}, SlR K N fa H sl σ O → sl[i]? = some (.val d) → SlR K N fa H (sl.set i .no) (σ.set i v) O
 | [], σ, O, i, d, h, e => by simp at e
 | .no :: r, σ, O, i, d, h, e => by
  simp only [SlR] at h
  obtain ⟨u, τ, rfl, h⟩ := h
  cases i with
  | zero => simp at e
  | succ i => simp only [List.set_cons_succ, SlR]; exact ⟨u, _, rfl, SlR.toNo v h (by simpa using e)⟩
 | .val d' :: r, σ, O, i, d, h, e => by
  simp only [SlR] at h
  obtain ⟨u, τ, rfl, q, h⟩ := h
  cases i with
  | zero => simp only [List.set_cons_zero, SlR]; exact ⟨v, τ, rfl, h⟩
  | succ i => simp only [List.set_cons_succ, SlR]; exact ⟨u, _, rfl, q, SlR.toNo v h (by simpa using e)⟩
 | .own ds :: r, σ, O, i, d, h, e => by
  simp only [SlR] at h
  obtain ⟨a, xs, τ, P, rfl, rfl, ha, q, h⟩ := h
  cases i with
  | zero => simp at e
  | succ i => simp only [List.set_cons_succ, SlR]; exact ⟨a, xs, _, P, rfl, rfl, ha, q, SlR.toNo v h (by simpa using e)⟩
theorem DI.drop {K : PySem.W.Frag} {g : Gh} {σ : L2.St} {H : Hp} {fa : Option Addr} {O : List Addr} {s : DS} (I : GI K g σ H fa O s) {i : Nat} (hi : i < s.sl.length) (v : Option V) : ∃ P, (∀ b ∈ P, b ∈ O) ∧ GI K g (σ.set i v) H fa P { s with sl := s.sl.set i .no } := by
 obtain ⟨P, sub, J⟩ := I.put i (d := .non) (v := .non) (by simp only [Rep])
 refine ⟨P, sub, J.nd, ?_, J.fr, J.st, J.tr, J.ff, J.fd, J.nf⟩
 have := SlR.toNo v J.sl (i := i) (d := .non) (List.getElem?_set_self hi)
 rw [List.set_set, List.set_set] at this
 exact this
section
variable {X : Cx} {g : Gh} {cs : List Str} {cn : Str} {p pos pos' : Pos} {body : List Stmt} {b0 : Stmt} {suite : List Stmt} {b h : DM}
theorem rJ {pins : List (Addr × Obj)} {s : Shared} {σ : L2.St} {H : Hp} {Dn : Ends} {fa : Option Addr} {O : List Addr} {s0 s1 : DS} {fl : Fl} {hs : ExceptHandler} (hb : ∀ (pn : List (Addr × Obj)) (xe : Value → Shared → Prop) (g1 : Gh), Rz (X.tr pn xe) g1 → g1.F = g.F → g1.H0 = g.H0 → g1.fa0 = g.fa0 → SSO (X.tr pn xe) g1 body b) (I : Inv X pins σ H s) (G : GI X.K g σ H fa O s0)
  (e : b s0 = some (fl, s1)) (nt : ∀ c ds, fl ≠ .thr c ds) (k : FlK X.K g Dn fa O H fl s1) : wpAny (model X.prog X.w) X.A (exec (.Try body [hs] [] [] pos) X.env) (SP X pins Dn) X.xe s := by
 have R1 : Rz (X.tr (X.pn ++ pins) fun _ _ => False) ⟨g.F, g.H0, g.fa0, fun _ => E0⟩ := ⟨fun pins' σ' H' H1 s' s1 e C dx J1 J fl q => q⟩
 have B := (hb (X.pn ++ pins) (fun _ _ => False) ⟨g.F, g.H0, g.fa0, fun _ => E0⟩ R1 rfl rfl rfl).pe [] s σ H Dn I.tr ⟨fa, O, s0, fl, s1, G, e, by
  cases fl with
  | thr c ds => exact absurd rfl (nt c ds)
  | next => exact k
  | brk => exact k
  | cont => exact k
  | ret d => exact k⟩
 refine wpAny_Try_except (wpAny_mono B (fun f s' z => ?_) fun ev s' z => z.elim)
 have z := z.untr
 cases f with
 | next => exact wpAny_execs_nil z
 | brk => exact z
 | cont => exact z
 | ret u => exact z
theorem qD {pins : List (Addr × Obj)} {s : Shared} {σ : L2.St} {H : Hp} {Dn : Ends} {fa : Option Addr} {O : List Addr} {s0 s1 : DS} {c : Str} {ds : List D} {hn : ExceptHandler} (hb : ∀ (pn : List (Addr × Obj)) (xe : Value → Shared → Prop) (g1 : Gh), Rz (X.tr pn xe) g1 → g1.F = g.F → g1.H0 = g.H0 → g1.fa0 = g.fa0 → SSO (X.tr pn xe) g1 body b) (hs : X.stack = X.env :: X.outer) (hf : X.env.frame = some X.env.locals)
  (I : Inv X pins σ H s) (G : GI X.K g σ H fa O s0) (e : b s0 = some (.thr c ds, s1))
  (z : ∀ (e C dx : Addr) (σ' : L2.St) (H' H1 : Hp) (sa sb : Shared) (od : Obj) (xs : List V) (fa' : Option Addr) (O' : List Addr), Inv X pins σ' H1 sa → Inv X pins σ' H' sb → Fly sa.heap.objs.size H' sb.heap e C dx → Stp fa O H fa' O' H' → GI X.K g σ' H' fa' O' s1 → PySem.W.nsIn X.K mainGlobals c = some (some (.ref C)) →
   H' dx = some (.frz od (.xd (fnm.zip xs))) → Reps X.K (NN g.F fa' O') fa' H' ds xs → wpAny (model X.prog X.w) X.A (handleBy (.ref e) X.env [hn]) (SP X pins Dn) X.xe sb) :
  wpAny (model X.prog X.w) X.A (exec (.Try body [hn] [] [] pos) X.env) (SP X pins Dn) X.xe s := by
 generalize eq1 : (fun (σ' : L2.St) (cv : Value) (odx : Option Addr) (H' : Hp) => ∃ C dx od xs fa' O', cv = .ref C ∧ odx = some dx ∧ Stp fa O H fa' O' H' ∧ GI X.K g σ' H' fa' O' s1 ∧ PySem.W.nsIn X.K mainGlobals c = some (some (.ref C)) ∧ H' dx = some (.frz od (.xd (fnm.zip xs))) ∧ Reps X.K (NN g.F fa' O') fa' H' ds xs) = xq
 generalize eq2 : (fun (ev : Value) (s' : Shared) => ∃ e C dx σ' H' H1 sa, ev = .ref e ∧ Inv X pins σ' H1 sa ∧ Inv X pins σ' H' s' ∧ Fly sa.heap.objs.size H' s'.heap e C dx ∧ xq σ' (.ref C) (some dx) H') = xe
 have R1 : Rz (X.tr (X.pn ++ pins) xe) ⟨g.F, g.H0, g.fa0, xq⟩ := ⟨fun pins' σ' H' H1 s' sa e C dx J1 J fl q => by
  show xe _ _
  rw [← eq2]
  exact ⟨e, C, dx, σ', H', H1, sa, rfl, J1.untr, J.untr, fl, q⟩⟩
 have B := (hb (X.pn ++ pins) xe ⟨g.F, g.H0, g.fa0, xq⟩ R1 rfl rfl rfl).pe [] s σ H ⟨fun _ _ => False, fun _ _ => False, fun _ _ => False, fun _ _ => False⟩ I.tr ⟨fa, O, s0, _, s1, G, e, fun σ' C dx od xs H' fa' O' a1 I1 n1 n2 r1 => by
  show xq _ _ _ _
  rw [← eq1]
  exact ⟨C, dx, od, xs, fa', O', rfl, rfl, a1, I1, n1, n2, r1⟩⟩
 refine wpAny_Try_except (wpAny_mono B (fun f s' y => ?_) fun ev s' y => ?_)
 ·cases f with
  | next => obtain ⟨_, _, _, q⟩ := y; exact q.elim
  | brk => obtain ⟨_, _, _, q⟩ := y; exact q.elim
  | cont => obtain ⟨_, _, _, q⟩ := y; exact q.elim
  | ret u => obtain ⟨_, _, _, _, _, q⟩ := y; exact q.elim
 ·have y : xe ev s' := y
  rw [← eq2] at y
  obtain ⟨e, C, dx, σ', H', H1, sa, rfl, J1, J, fl, q⟩ := y
  rw [← eq1] at q
  obtain ⟨C2, dx2, od, xs, fa', O', q1, q2, a1, I1, n1, n2, r1⟩ := q
  cases q1
  cases q2
  obtain ⟨oe, vs, g1, _⟩ := id fl.ob
  have sz : sa.heap.objs.size ≤ s'.heap.objs.size := Nat.le_trans fl.en (Nat.le_of_lt (Heap.lt_size g1))
  refine fJ (H := H') (base := X.base) (n0 := sa.heap.objs.size) (outer := X.outer) (by rw [J.ok.frames, hs]) (by have := J.stack; rw [hs] at this; exact this) hf sz (fun a l => J.hok.fresh l) fl fun h' y => ?_
  have y' : Noted sa.heap.objs.size H' X.stack s'.heap h' e C dx := by rw [hs]; exact y
  exact z e C dx σ' H' H1 sa { s' with heap := h' } od xs fa' O' J1 (J1.noted (t' := s'.toks) J y') y.fl a1 I1 n1 n2 r1
theorem tE {nm : Option Str} {pins : List (Addr × Obj)} {σ : L2.St} {H : Hp} {s : Shared} {e C dx : Addr} {c : Str} {n : Nat} {Q : Flow → Shared → Prop} (K1 : Ck X.K X.mg cs cn) (hc : c ∈ cs) (hg : Gl X cn) (I : Inv X pins σ H s) (f : Fly n H s.heap e C dx) (hn : PySem.W.nsIn X.K mainGlobals c = some (some (.ref C)))
  (z : codeAny (model X.prog X.w) (X.A.mark (some (.ref e))) (.handlers (.ref e) [.ExceptHandler none nm (b0 :: suite) pos'] X.env) (fun r s2 => match r with
     | .ok fl => (match nm with
      | none => Q fl s2
      | some x => wpAny (model X.prog X.w) X.A (do bindName X.env x .none; unbindBehindTheSuite X.env x pos') (fun _ s3 => Q fl s3) X.xe s2)
     | .error _ => False) s) (hd : (cn == ("__debug__" : Str)) = false := by decide) :
  wpAny (model X.prog X.w) X.A (handleBy (.ref e) X.env [.ExceptHandler (some (.Name cn p)) nm (b0 :: suite) pos']) Q X.xe s := by
 obtain ⟨C', od, cd, sl, hm, lk, f4, all⟩ := K1.ex
 obtain ⟨C2, m1, m2⟩ := all c hc
 rw [hn] at m1
 cases m1
 obtain ⟨oe, vs, g1, g2, _⟩ := id f.ob
 refine wpAny_handleBy_cons (codeAny_handlers_test ?_) (by intro q; cases q)
 refine T7 (X := X.hd e) (I.hd (e := e)) hg hm ?_ hd
 obtain ⟨hh, gg, d0, tt, oo⟩ := s
 refine nC I.kIn g1 g2 lk f4 m2 ?_
 refine codeAny_mono z fun r s2 y => ?_
 cases r with
 | error x => exact y.elim
 | ok fl => exact y
theorem jz {i : Nat} {x : Str} (hb : ∀ (pn : List (Addr × Obj)) (xe : Value → Shared → Prop) (g1 : Gh), Rz (X.tr pn xe) g1 → g1.F = g.F → g1.H0 = g.H0 → g1.fa0 = g.fa0 → SSO (X.tr pn xe) g1 body b) (hh : ∀ e : Addr, SSO (X.hd e) g (b0 :: suite) h) (K1 : Ck X.K X.mg cs cn) (hg : Gl X cn)
  (hN : X.N.Nodup) (hi : X.N[i]? = some x) (hx : X.env.scope.names.lookup x = some .local) (hs : X.stack = X.env :: X.outer := by rfl) (hf : X.env.frame = some X.env.locals := by rfl)
  (hd : (cn == ("__debug__" : Str)) = false := by decide) : SO X g (.Try body [.ExceptHandler (some (.Name cn p)) (some x) (b0 :: suite) pos'] [] [] pos) (L6 cs i b h) := by
 refine ⟨fun pins s σ H Dn I q => ?_⟩
 refine q.elim fun fa O s0 fl s1 G e0 k => ?_
 refine k4 e0 fun flb sb h1 h2 => ?_
 by_cases nt : ∀ c ds, flb ≠ .thr c ds
 ·refine rJ hb I G h1 nt ?_
  cases flb with
  | thr c ds => exact absurd rfl (nt c ds)
  | next => cases h2; exact k
  | brk => cases h2; exact k
  | cont => cases h2; exact k
  | ret d => cases h2; exact k
 ·cases flb with
  | thr c ds =>
   have h2 : (if cs.contains c = true ∧ ds.length ≤ 2 then (h { sb with sl := sb.sl.set i (.val (.exc c ds)) }).bind fun y => match y.1 with
    | .next => some (.next, { y.2 with sl := y.2.sl.set i .no })
    | _ => none else none) = some (fl, s1) := h2
   by_cases hc : cs.contains c = true ∧ ds.length ≤ 2
   ·rw [if_pos hc] at h2
    refine k4 h2 fun fy sy h3 h4 => ?_
    obtain ⟨rfl, h5⟩ : fy = .next ∧ (Fl.next, ({ sy with sl := sy.sl.set i .no } : DS)) = (fl, s1) := by
     cases fy with
     | next => exact ⟨rfl, Option.some.inj h4⟩
     | brk => cases h4
     | cont => cases h4
     | ret d => cases h4
     | thr c ds => cases h4
    cases h5
    refine qD hb hs hf I G h1 fun e C dx σ' H' H1 sa sb' od xs fa' O' J1 J fl a1 I1 n1 n2 r1 => ?_
    refine tE (cs := cs) K1 (by simpa using hc.1) hg J fl n1 (sg (wpAny_mono (uC (E := fun _ _ => False) J1 J fl fun h' J2 ke => ?_) (fun _ _ y => y) fun _ _ y => y)) hd
    obtain ⟨oe, vs, g1, g2, g3, g4, _⟩ := id fl.ob
    have J3 := J1.freeze J2 fl.en fl.eh (ke _ g1)
    have G3 := I1.new (o := .frz oe (.own e)) fl.eh
    have nd : dx ≠ e := fun y => by rw [y, fl.eh] at n2; cases n2
    have rx : Rep X.K (NN g.F fa' O') fa' (e7 H' e (.frz oe (.own e))) (.exc c ds) (.ref e) := by
     simp only [Rep]
     have rr := r1.stp I1 (v3 (O := O') (fa := fa') (o := .frz oe (.own e)) fl.eh).stp
     exact ⟨e, C, xs, rfl, n1, ⟨oe, r8, g2, ⟨_, g4⟩, by rw [r1.length]; exact hc.2, .inr ⟨dx, od, g3, by rw [i5 nd]; exact n2⟩⟩, rr⟩
    obtain ⟨P, sub, G4⟩ := G3.put i rx
    have A4 : Stp fa O H fa' P (e7 H' e (.frz oe (.own e))) := a1.trans ((v3 (O := O') (fa := fa') (o := .frz oe (.own e)) fl.eh).stp.trans (N9 sub).stp)
    refine Q7 (X := X.hd e) (v := .ref e) (J3.hd (e := e)) hN hi (.inl hx) rfl (fun s4 J4 => ?_) (.inr hx)
    refine wpAny_mono ((hh e).pe pins s4 _ _ ⟨fun σ3 H3 => ∃ f3 O3, Stp fa O H f3 O3 H3 ∧ GI X.K g σ3 H3 f3 O3 sy, fun _ _ => False, fun _ _ => False, fun _ _ => False⟩ J4 ⟨fa', P, _, .next, sy, G4, h3, fun σ3 H3 f3 O3 a3 I3 => ⟨f3, O3, A4.trans a3, I3⟩⟩) (fun f s5 y => ?_) fun _ _ y => y
    cases f with
    | brk => obtain ⟨_, _, _, q⟩ := y; exact q.elim
    | cont => obtain ⟨_, _, _, q⟩ := y; exact q.elim
    | ret u => obtain ⟨_, _, _, _, _, q⟩ := y; exact q.elim
    | next =>
     obtain ⟨σ3, H3, J5, f3, O3, a3, I3⟩ := y
     have J6 : Inv X pins σ3 H3 s5 := J5.unhd J.ok
     have l3 : i < σ3.length := by rw [J6.len]; exact (List.getElem?_eq_some_iff.mp hi).1
     refine wpAny_bind (wpAny_bindName (Q7 (v := .non) J6 hN hi (.inl hx) rfl (fun s6 J7 => ?_) (.inr hx)))
     unfold unbindBehindTheSuite
     refine wpAny_onRaise (mG (v := .non) J7 hN hi hx (List.getElem?_set_self l3) fun s7 J8 => ?_)
     rw [List.set_set] at J8
     obtain ⟨P2, sub2, I4⟩ := I3.drop (i := i) (by rw [← I3.sl.len]; exact l3) none
     exact ⟨_, H3, J8, k _ H3 f3 P2 (a3.trans (N9 sub2).stp) I4⟩
   ·rw [if_neg hc] at h2; cases h2
  | next => exact absurd (fun c ds z => by cases z) nt
  | brk => exact absurd (fun c ds z => by cases z) nt
  | cont => exact absurd (fun c ds z => by cases z) nt
  | ret d => exact absurd (fun c ds z => by cases z) nt
end
section
variable {X : Cx} {g : Gh} {e a : Expr} {p pos : Pos} {fa : DE} {cs cs' : List Str}
structure PNs (X : Cx) (es : List Expr) (ns : List Str) : Prop where
 ex : ∃ Cs : List Addr, PA X es (fun _ H Q => Q (Cs.map V.ref) H) ∧ Paired (fun n C => X.mg n = some (.ref C)) ns Cs
theorem oA : PNs X [] [] := ⟨[], M5, .nil⟩
theorem T9 {n : Str} {es : List Expr} {ns : List Str} {p2 : Pos} (hg : Gl X n) (hm : ∃ C, X.mg n = some (.ref C)) (r : PNs X es ns) (hd : (n == ("__debug__" : Str)) = false := by decide) (hs : starEach (.Name n p2 :: es) X.env = (false, eval (.Name n p2) X.env) :: starEach es X.env := by rfl) : PNs X (.Name n p2 :: es) (n :: ns) := by
 obtain ⟨C, hm⟩ := hm
 obtain ⟨Cs, h1, h2⟩ := r.ex
 exact ⟨C :: Cs, B8 (aX (v := .ref C) hg hm rfl hd) h1 hs, .cons hm h2⟩
theorem ExO.new {H : Hp} {a C tp : Addr} {xs : List V} {o : HO} (h : ExO H a C xs) (ht : H tp = none) : ExO (e7 H tp o) a C xs := by
 obtain ⟨oe, e1, e2, e3, e4, e5⟩ := h
 refine ⟨oe, by rw [i5 (t7 e1 ht)]; exact e1, e2, e3, e4, e5.imp id ?_⟩
 rintro ⟨dx, od, d1, d2⟩
 exact ⟨dx, od, d1, by rw [i5 (t7 d2 ht)]; exact d2⟩
noncomputable def Y1 (cs ns : List Str) : D → Option D
 | .exc c _ => if cs.contains c = true then some (.bl (ns.any (E3 c))) else none
 | _ => none
theorem iP {C : Addr} {c : Str} (m : ∀ c' ∈ cs', ∃ C', X.mg c' = some (.ref C') ∧ PySem.W.kitOne X.K (.ref C) (.ref C') = some (E3 c c')) : ∀ {ns : List Str} {Cs : List Addr}, Paired (fun n C => X.mg n = some (.ref C)) ns Cs → (∀ n ∈ ns, n ∈ cs') → PySem.W.kitAny X.K (.ref C) (Cs.map Value.ref) = some (ns.any (E3 c))
 | _, _, .nil, _ => rfl
 | n :: ns, C1 :: Cs, .cons hm r, h => by
  obtain ⟨C2, m1, m2⟩ := m n (h n (List.mem_cons_self ..))
  rw [hm] at m1
  cases m1
  have ih := iP m r fun x hx => h x (List.mem_cons_of_mem _ hx)
  show (match PySem.W.kitOne X.K (.ref C) (.ref C1) with | some true => some true | some false => PySem.W.kitAny X.K (.ref C) (Cs.map Value.ref) | none => none) = _
  rw [m2, List.any_cons]
  cases E3 c n with
  | true => rfl
  | false => exact ih
theorem tf {Cs : List Addr} : CallR X (.builtin "isinstance") (fun xs H Q => ∃ e C b ys tp, xs = [.ref e, .ref tp] ∧ ExO H e C ys ∧ H tp = some (.tup (Cs.map V.ref)) ∧ XC X.K C ∧ PySem.W.kitAny X.K (.ref C) (Cs.map Value.ref) = some b ∧ Q (.bl b) H) := by
 intro pins s σ H xs us Q I r h
 obtain ⟨e, C, b, ys, tp, rfl, h1, h2, h3, h4, q⟩ := h
 obtain ⟨u, c0, rfl, ru, rc⟩ := ib r
 cases ru
 cases rc
 obtain ⟨o, o1, o2, _⟩ := dy I h1
 obtain ⟨_, its, vi, ob, t1, t2, t3⟩ := I.hok _ _ h2
 have ei : ∀ {l : List Addr} {us : List Value}, Vals (l.map V.ref) us → us = l.map Value.ref := by
  intro l
  induction l with
  | nil => intro us v; cases v; rfl
  | cons a l ih =>
   intro us v
   cases v with
   | cons r v => cases r; rw [ih v]; rfl
 have := ei vi
 subst this
 obtain ⟨oc, od, dt, sl⟩ := ob
 obtain ⟨n, t3⟩ := t3
 cases t2
 cases t3
 exact PySem.W.kia_tup h3.kit I.kIn ⟨o, o1, o2⟩ t1 h4 (fun z => nomatch z) fun tk => ⟨.bl b, H, I.tok tk, rfl, q⟩
theorem qW {ns : List Str} {es : List Expr} {x1 : Nat} {p2 : Pos} (R : RfA X.K X.mg cs cs') (T : PNs X es ns) (hn : ns.all (cs'.contains ·) = true) (hl : ns.length ≤ 1000) (hg : Gl X "isinstance") (hm : X.mg "isinstance" = none) (ha : EO X g a fa)
  (hs1 : starEach [.Tuple es x1 p2] X.env = (false, eval (.Tuple es x1 p2) X.env) :: starEach [] X.env := by rfl) (he : starEach [a, .Tuple es x1 p2] X.env = (false, eval a X.env) :: starEach [.Tuple es x1 p2] X.env := by rfl) (hpl : (backTo pos (starEach [.Tuple es x1 p2] X.env)).any (·.1) = false := by rfl) :
  EO X g (.Call (.Name "isinstance" p) [a, .Tuple es x1 p2] [] pos) (i0 (Y1 cs ns) fa) := by
 obtain ⟨Cs, h1, h2⟩ := T.ex
 refine EO.w (aB (tf (Cs := Cs)) hg hm cK (B8 ha.pe (B8 (eF h1) M5 hs1) he) (by decide) (by decide) he hpl) fun σ H Q hQ => ?_
 refine hQ.elim fun f0 O s d s' I e k => ?_
 refine k4 e fun x s1 h3 h => ?_
 refine D8 h fun d' h5 h => ?_
 cases h
 cases x with
 | exc c ds =>
  have h5 : (if cs.contains c = true then some (.bl (ns.any (E3 c))) else none) = some d := h5
  by_cases hc : cs.contains c = true
  ·rw [if_pos hc] at h5
   cases h5
   refine ⟨f0, O, s, _, s1, I, h3, fun y H1 f1 O1 a1 I1 r1 => ?_⟩
   simp only [Rep] at r1
   obtain ⟨b, C, xs, rfl, n1, eo, rs⟩ := r1
   obtain ⟨C2, m1, m2, m3, m4, m5⟩ := (R.rx c (by simpa using hc)).ex
   rw [n1] at m1
   cases m1
   have lC : (Cs.map V.ref).length ≤ sizeLine := by
    rw [List.length_map, ← h2.length]
    exact Nat.le_of_lt (rR hl)
   refine ⟨lC, fun tp ht => ?_⟩
   refine ⟨b, C, _, xs, tp, rfl, eo.new ht, r8, m2, iP m5 h2 (fun n hn' => by
    have := List.all_eq_true.mp hn n hn'
    simpa using this), k _ _ f1 O1 (a1.trans (v3 ht)) (I1.new ht) (by simp only [Rep])⟩
  ·rw [if_neg hc] at h5; cases h5
 | _ => cases h5
end
section
variable {K : PySem.W.Frag} {h : Heap} {mg : Str → Option Value} {n : Str} {st : Stmt} {f : Addr} {fd : FuncData}
theorem uM {P : Program} {w : World} {base : Heap} {N ps : List Str} {k : Nat} {b : DM} (F : GF K mg n st f fd) (q : ∀ (kV doc pm : Value) (an : Option Addr) (cdv ct : Value) (us : List Value), us.length = ps.length → bindArgs (PySem.W.fnOf n n (K0 st) (B1 st) (j4 st) .none kV doc pm an cdv ct) ⟨us, []⟩ = pure (ps.zip us)) (S : FnScope N ps (j4 st))
  (hbody : ∀ (cdv : Value) (A : Around) (outer : List Env) (s : Shared) (H : Hp) (E : XK) (g : Gh), Rz (A9 (F7 P w) P w K mg base N n (j4 st) f cdv A outer s H E) g → Room k (A.deeper (PyProof.Rows.envOfC n (j4 st) s.heap.objs.size f cdv)) →
   SSO (A9 (F7 P w) P w K mg base N n (j4 st) f cdv A outer s H E) g (B1 st) b) : CalX P w K mg base (k + 1) n ps (P0 N.length b) := ⟨f, fd, oV F.F S hbody, F.m, F.F.kp, F.F.binds q⟩
theorem ck_mk (X : K.In h) (G : h.Ns mainGlobals mg) {cs : List Str} {cn : Str} {C' : Addr} {od : Option Addr} {cd : ClassData} {sl : Array (Option Value)} (a : PySem.W.nsIn K mainGlobals cn = some (some (.ref C'))) (lk : K.lookup C' = some ⟨.type "type", od, .cls cd, sl⟩) (f4 : PySem.W.subIn K (.ref C') (.type "BaseException") = some true)
  (m : ∀ c ∈ cs, ∃ C, PySem.W.nsIn K mainGlobals c = some (some (.ref C)) ∧ PySem.W.subIn K (.ref C) (.ref C') = some true) : Ck K mg cs cn := ⟨C', od, cd, sl, PySem.W.mg_of X G a, lk, f4, m⟩
theorem sub_mk {c : Str} {C C' : Addr} (a : PySem.W.nsIn K mainGlobals c = some (some (.ref C))) (k : PySem.W.subIn K (.ref C) (.ref C') = some true) : ∃ C, PySem.W.nsIn K mainGlobals c = some (some (.ref C)) ∧ PySem.W.subIn K (.ref C) (.ref C') = some true := ⟨C, a, k⟩
end
end DL
namespace T
open PySem PySem.Spec L2 DL
noncomputable def U2 : DM := (c7 (e8 (a5 j5 (a5 a9 (dL 0) (dC (.int 0))) (a5 a9 (dL 1) (dC (.int 2)))) (c8 2)) (c7 (e8 (a5 j5 (a5 a9 (dL 1) (dC (.int 0))) (a5 a9 (dL 0) (dC (.int 2)))) (c8 3)) (c7 (i9 (dB (a5 w8 (dL 2) (dL 3))) (i6 (a5 (j3 (fun i j => decide (i < j))) (dL 2) (dL 3))) j9) (i6 (a5 (j3 (fun i j => decide (i < j))) (a5 j5 (a5 a9 (dL 0) (dC (.int 1))) (a5 a9 (dL 1) (dC (.int 2)))) (a5 j5 (a5 a9 (dL 1) (dC (.int 1))) (a5 a9 (dL 0) (dC (.int 2)))))))))
noncomputable def P8 : a7 := n8 4 (U2)
noncomputable def S5 : DM := (c7 (i9 (dB (a5 (j3 (fun i j => decide (j < i))) (dL 0) (dC (.int 0)))) (i6 (dC (.int 1))) j9) (c7 (i9 (dB (a5 (j3 (fun i j => decide (i < j))) (dL 0) (dC (.int 0)))) (i6 (i0 j8 (dC (.int 1)))) j9) (i6 (dC (.int 0)))))
noncomputable def Q2 : a7 := n8 1 (S5)
noncomputable def Y7 (m_sign : a7) : DM := (c7 (e8 (a5 j5 (a5 a9 (dL 0) (dC (.int 0))) (a5 t6 (a5 j5 (a5 a9 (dL 1) (dC (.int 1))) (a5 a9 (dL 2) (dC (.int 2)))) (a5 j5 (a5 a9 (dL 2) (dC (.int 1))) (a5 a9 (dL 1) (dC (.int 2)))))) (c8 3)) (c7 (e8 (a5 t6 (dL 3) (a5 j5 (a5 a9 (dL 0) (dC (.int 1))) (a5 t6 (a5 j5 (a5 a9 (dL 1) (dC (.int 0))) (a5 a9 (dL 2) (dC (.int 2)))) (a5 j5 (a5 a9 (dL 2) (dC (.int 0))) (a5 a9 (dL 1) (dC (.int 2))))))) (c8 3)) (c7 (e8 (a5 l7 (dL 3) (a5 j5 (a5 a9 (dL 0) (dC (.int 2))) (a5 t6 (a5 j5 (a5 a9 (dL 1) (dC (.int 0))) (a5 a9 (dL 2) (dC (.int 1)))) (a5 j5 (a5 a9 (dL 2) (dC (.int 0))) (a5 a9 (dL 1) (dC (.int 1))))))) (c8 3)) (i6 (c6 m_sign (a0 (dV 3) a6))))))
noncomputable def Z9 (m_sign : a7) : a7 := n8 4 (Y7 m_sign)
noncomputable def U0 (m_is_lesser : a7) (m_turn : a7) : DM := (i6 (u5 (a5 B3 (c6 m_turn (a0 (dV 0) (a0 (dV 1) (a0 (dV 2) a6)))) (dC (.int 0))) (a5 B3 (c6 m_is_lesser (a0 (dV 0) (a0 (dV 1) a6))) (c6 m_is_lesser (a0 (dV 1) (a0 (dV 2) a6))))))
noncomputable def ax (m_is_lesser : a7) (m_turn : a7) : a7 := n8 3 (U0 m_is_lesser m_turn)
noncomputable def dP : DM := (i6 (ay 0))
noncomputable def O0 : a7 := n8 1 (dP)
noncomputable def M3 : DM := (c7 (i9 (dB (a5 (j3 (fun i j => decide (j < i))) (n9 0 2) (dC (.int 0)))) (c7 (e8 (a5 v8 (n9 0 2) (dL 1)) (c8 2)) (c7 (K4 0 2 (a5 A6 (n9 0 2) (dL 1))) (i6 (dV 2)))) j9) (c7 (e8 (n9 0 1) (c8 3)) (c7 (K4 0 1 (a5 l7 (dL 3) (dC (.int 1)))) (c7 (e8 (dC (.int 0)) (c8 4)) (c7 (i9 (dB (a5 (j3 (fun i j => decide (j < i))) (i8 (one j7) (a0 (n9 0 0) a6)) (dC (.int 0)))) (e8 (a5 a9 (n9 0 0) (a5 v8 (dL 3) (i8 (one j7) (a0 (n9 0 0) a6)))) (c8 4)) j9) (c7 (i9 (o5 (dB (a5 (j3 (fun i j => decide (j ≤ i))) (dL 4) (a5 S4 (dC (.int 10)) (dC (.int 18))))) (dB (a5 (j3 (fun i j => decide (i < j))) (dL 3) (i8 (one j7) (a0 (n9 0 0) a6))))) (c7 (K4 0 2 (a5 A6 (dL 4) (dL 1))) (i6 (a5 v8 (dL 4) (dL 1)))) j9) (c7 (e8 (a5 v8 (a5 j5 (a5 l7 (a5 l7 (a5 v8 (dL 4) (dC (.int 1000033))) (a5 j5 (a5 j5 (dC (.int 37)) (dL 3)) (dL 3))) (dC (.int 11))) (dC (.int 69621))) (dC (.int 999983))) (c8 5)) (i6 (a5 v8 (a5 A6 (a5 v8 (a5 j5 (a5 v8 (a5 l7 (a5 j5 (dL 5) (dC (.int 48271))) (a5 j5 (dL 3) (dC (.int 6007)))) (dC (.int 999979))) (dC (.int 40692))) (dC (.int 1048573))) (dC (.int 64))) (dL 1))))))))))
noncomputable def N2 : a7 := n8 6 (M3)
noncomputable abbrev kB : DM := (u3 0 1 (a0 (dV 1) (a0 (a5 v8 (dL 0) (dL 1)) a6)))
noncomputable def W6 : DM := (c7 (u3 0 1 (a0 (i8 (one Y8) (a0 (dL 0) a6)) (a0 (i8 (one Y8) (a0 (dL 1) a6)) a6))) (c7 (E4 (dB (a5 (j3 (fun i j => decide (j < i))) (dL 1) (dC (.int 0)))) (kB)) (i6 (dV 0))))
noncomputable def B2 : a7 := n8 2 (W6)
noncomputable def au (m_law_divisor : a7) : DM := (c7 (e8 (c6 m_law_divisor (a0 (dV 0) (a0 (dV 1) a6))) (c8 2)) (c7 (i9 (dB (a5 (j3 (fun i j => decide (i < j))) (dL 1) (dC (.int 0)))) (e8 (i0 j8 (dL 2)) (c8 2)) j9) (i6 (i4 (a0 (a5 A6 (dL 0) (dL 2)) (a0 (a5 A6 (dL 1) (dL 2)) a6))))))
noncomputable def F0 (m_law_divisor : a7) : a7 := n8 3 (au m_law_divisor)
noncomputable def dQ (m_law_low : a7) : DM := (i6 (c6 m_law_low (a0 (a5 j5 (a5 a9 (dL 0) (dC (.int 0))) (a5 a9 (dL 1) (dC (.int 0)))) (a0 (a5 j5 (a5 a9 (dL 0) (dC (.int 1))) (a5 a9 (dL 1) (dC (.int 1)))) a6))))
noncomputable def cV (m_law_low : a7) : a7 := n8 2 (dQ m_law_low)
noncomputable def dw (m_law_divisor : a7) : DM := (c7 (e8 (i4 (a0 (a5 j5 (a5 a9 (dL 0) (dC (.int 0))) (a5 a9 (dL 1) (dC (.int 1)))) (a0 (a5 j5 (a5 a9 (dL 1) (dC (.int 0))) (a5 a9 (dL 0) (dC (.int 1)))) (a0 (a5 j5 (a5 a9 (dL 0) (dC (.int 1))) (a5 a9 (dL 1) (dC (.int 1)))) a6)))) (c8 2)) (c7 (e8 (c6 m_law_divisor (a0 (c6 m_law_divisor (a0 (a5 a9 (dL 2) (dC (.int 0))) (a0 (a5 a9 (dL 2) (dC (.int 1))) a6))) (a0 (a5 a9 (dL 2) (dC (.int 2))) a6))) (c8 3)) (i6 (i8 (one S8) (a0 (k7 (Q4 [3] (iV (dV 2)) W3 (a5 A6 (dL 0) (dL 1)))) a6)))))
noncomputable def R0 (m_law_divisor : a7) : a7 := n8 4 (dw m_law_divisor)
noncomputable def fX (m_law_low : a7) : DM := (i6 (c6 m_law_low (a0 (a5 l7 (a5 j5 (a5 a9 (dL 0) (dC (.int 0))) (a5 a9 (dL 1) (dC (.int 1)))) (a5 j5 (a5 a9 (dL 1) (dC (.int 0))) (a5 a9 (dL 0) (dC (.int 1))))) (a0 (a5 j5 (a5 a9 (dL 0) (dC (.int 1))) (a5 a9 (dL 1) (dC (.int 1)))) a6))))
noncomputable def ae (m_law_low : a7) : a7 := n8 2 (fX m_law_low)
noncomputable def iq (m_law_low : a7) : DM := (i6 (i4 (a0 (c6 m_law_low (a0 (a5 a9 (dL 0) (dC (.int 0))) (a0 (a5 a9 (dL 0) (dC (.int 2))) a6))) (a0 (c6 m_law_low (a0 (a5 a9 (dL 0) (dC (.int 1))) (a0 (a5 a9 (dL 0) (dC (.int 2))) a6))) a6))))
noncomputable def Y0 (m_law_low : a7) : a7 := n8 1 (iq m_law_low)
noncomputable def dZ (m_law_low : a7) : DM := (i6 (c6 m_law_low (a0 (a5 t6 (a5 j5 (a5 a9 (dL 0) (dC (.int 0))) (a5 a9 (dL 1) (dC (.int 1)))) (a5 j5 (a5 a9 (dL 1) (dC (.int 0))) (a5 a9 (dL 0) (dC (.int 1))))) (a0 (a5 j5 (a5 a9 (dL 0) (dC (.int 1))) (a5 a9 (dL 1) (dC (.int 1)))) a6))))
noncomputable def cP (m_law_low : a7) : a7 := n8 2 (dZ m_law_low)
noncomputable def Y5 (m_law_spot : a7) (m_law_low : a7) (m_law_draw : a7) : DM := (c7 (e8 (c6 m_law_low (a0 (a5 t6 (c6 m_law_draw (a0 (dV 0) (a0 (dC (.int 13)) a6))) (dC (.int 6))) (a0 (a5 a9 (k7 (l5 (a0 (dC (.int 1)) (a0 (dC (.int 1)) (a0 (dC (.int 2)) (a0 (dC (.int 3)) a6)))))) (c6 m_law_draw (a0 (dV 0) (a0 (dC (.int 4)) a6)))) a6))) (c8 1)) (i6 (c6 m_law_spot (a0 (dV 1) (a0 (c6 m_law_low (a0 (a5 t6 (c6 m_law_draw (a0 (dV 0) (a0 (dC (.int 13)) a6))) (dC (.int 6))) (a0 (a5 a9 (k7 (l5 (a0 (dC (.int 1)) (a0 (dC (.int 1)) (a0 (dC (.int 2)) (a0 (dC (.int 3)) a6)))))) (c6 m_law_draw (a0 (dV 0) (a0 (dC (.int 4)) a6)))) a6))) a6)))))
noncomputable def X5 (m_law_spot : a7) (m_law_low : a7) (m_law_draw : a7) : a7 := n8 2 (Y5 m_law_spot m_law_low m_law_draw)
noncomputable def iZ : DM := (i6 (i4 (a0 (a5 t6 (a5 j5 (a5 a9 (dL 1) (dC (.int 0))) (a5 a9 (dL 0) (dC (.int 2)))) (a5 j5 (a5 a9 (dL 0) (dC (.int 0))) (a5 a9 (dL 1) (dC (.int 2))))) (a0 (a5 t6 (a5 j5 (a5 a9 (dL 1) (dC (.int 1))) (a5 a9 (dL 0) (dC (.int 2)))) (a5 j5 (a5 a9 (dL 0) (dC (.int 1))) (a5 a9 (dL 1) (dC (.int 2))))) a6))))
noncomputable def G6 : a7 := n8 2 (iZ)
noncomputable def Q9 (m_law_way : a7) : DM := (c7 (u3 3 4 (a0 (c6 m_law_way (a0 (dV 0) (a0 (dV 1) a6))) (a0 (c6 m_law_way (a0 (dV 1) (a0 (dV 2) a6))) a6))) (i6 (u5 (a5 B3 (a5 j5 (a5 a9 (dL 3) (dC (.int 0))) (a5 a9 (dL 4) (dC (.int 1)))) (a5 j5 (a5 a9 (dL 3) (dC (.int 1))) (a5 a9 (dL 4) (dC (.int 0))))) (a5 (j3 (fun i j => decide (j < i))) (a5 l7 (a5 j5 (a5 a9 (dL 3) (dC (.int 0))) (a5 a9 (dL 4) (dC (.int 0)))) (a5 j5 (a5 a9 (dL 3) (dC (.int 1))) (a5 a9 (dL 4) (dC (.int 1))))) (dC (.int 0))))))
noncomputable def U8 (m_law_way : a7) : a7 := n8 5 (Q9 m_law_way)
noncomputable abbrev S0 (m_law_spot : a7) (m_law_plus : a7) (m_law_xy : a7) (m_law_goes_on : a7) (m_law_draw : a7) (m_law_near : a7) : DM := (c7 (e8 (o7 (dB (a5 (j3 (fun i j => decide (j < i))) (c6 m_law_draw (a0 (dV 0) (a0 (dC (.int 4)) a6))) (dC (.int 0)))) (c6 m_law_near (a0 (dV 0) a6)) (a5 a9 (dL 3) (c6 m_law_draw (a0 (dV 0) (a0 (i8 (one j7) (a0 (dL 3) a6)) a6))))) (c8 6)) (i9 (o5 (dB (a5 (j3 (fun i j => decide (i < j))) (i8 (one j7) (a0 (dL 3) a6)) (dL 4))) (o5 (dB (a5 w8 (dL 6) (a5 a9 (dL 3) (i0 j8 (dC (.int 1)))))) (u6 (dB (a5 (j3 (fun i j => decide (i < j))) (i8 (one j7) (a0 (dL 3) a6)) (dC (.int 2)))) (p8 (m6 (c6 m_law_goes_on (a0 (a5 a9 (dL 3) (i0 j8 (dC (.int 2)))) (a0 (a5 a9 (dL 3) (i0 j8 (dC (.int 1)))) (a0 (dV 6) a6))))))))) (B6 3 (dV 6)) j9))
noncomputable def dE (m_law_spot : a7) (m_law_plus : a7) (m_law_xy : a7) (m_law_goes_on : a7) (m_law_draw : a7) (m_law_near : a7) : DM := (c7 (F8 3 (bQ (one gI) (a0 (dL 1) a6))) (c7 (e8 (a5 l7 (dC (.int 2)) (c6 m_law_draw (a0 (dV 0) (a0 (a5 t6 (dL 2) (dC (.int 1))) a6)))) (c8 4)) (c7 (O9 (a0 (dC (.int 14)) a6) (c8 5) (S0 m_law_spot m_law_plus m_law_xy m_law_goes_on m_law_draw m_law_near)) (c7 (i9 (dB (a5 (j3 (fun i j => decide (i < j))) (i8 (one j7) (a0 (dL 3) a6)) (dC (.int 2)))) (c7 (e8 (c6 m_law_xy (a0 (a5 a9 (dL 3) (dC (.int 0))) a6)) (o9 2 (l4 (c8 7) (l4 (c8 8) p7)))) (B6 3 (c6 m_law_spot (a0 (dV 7) (a0 (c6 m_law_plus (a0 (dV 8) (a0 (i4 (a0 (dC (.int 1)) (a0 (dC (.int 1)) a6))) a6))) a6))))) j9) (i6 (i8 (one S8) (a0 (dL 3) a6)))))))
noncomputable def cX (m_law_spot : a7) (m_law_plus : a7) (m_law_xy : a7) (m_law_goes_on : a7) (m_law_draw : a7) (m_law_near : a7) : a7 := n8 9 (dE m_law_spot m_law_plus m_law_xy m_law_goes_on m_law_draw m_law_near)
noncomputable def rE : DM := (i6 (i8 (one S8) (a0 (k7 (Q4 [0, 1] (fM (a0 (dV 2) a6)) W3 (i4 (a0 (a5 l7 (dL 1) (a5 A6 (a5 l7 (dL 0) (dC (.int 1))) (dC (.int 2)))) (a0 (a5 l7 (dL 2) (a5 A6 (dL 0) (dC (.int 2)))) (a0 (dC (.int 1)) a6)))))) a6)))
noncomputable def O8 : a7 := n8 3 (rE)
noncomputable def W5 (m_goes_on : a7) : DM := (c7 (e8 (a5 a9 (dL 0) (dC (.int 1))) (c8 2)) (c7 (e8 (a5 a9 (dL 1) (dC (.int 1))) (c8 3)) (c7 (i9 (dB (a5 w8 (a5 a9 (dL 2) (i0 j8 (dC (.int 1)))) (a5 a9 (dL 3) (dC (.int 0))))) (R3 "NoJoin" (a0 (dC (.str "place")) a6)) j9) (c7 (i9 (m6 (c6 m_goes_on (a0 (a5 a9 (dL 2) (i0 j8 (dC (.int 2)))) (a0 (a5 a9 (dL 2) (i0 j8 (dC (.int 1)))) (a0 (a5 a9 (dL 3) (dC (.int 1))) a6))))) (e8 (K3 (dL 2) O5 (O7 (i0 j8 (dC (.int 1))))) (c8 2)) j9) (c7 (e8 (a5 l7 (dL 2) (K3 (dL 3) (O7 (dC (.int 1))) O5)) (c8 4)) (c7 (i9 (dB (a5 (j3 (fun i j => decide (j < i))) (i8 (one j7) (a0 (dL 4) a6)) (dC (.int 9)))) (R3 "NoJoin" (a0 (dC (.str "many")) a6)) j9) (i6 (i4 (a0 (dC (.bl false)) (a0 (dV 4) a6))))))))))
noncomputable def ai (m_goes_on : a7) : D3 := P0 5 (W5 m_goes_on)
noncomputable def lh (m_joined : D3) : DM := (c7 (e8 (dC (.str "other")) (c8 2)) (c7 (L6 ["NoJoin"] 3 (M0 (P9 m_joined (a0 (i4 (a0 (dC (.bl false)) (a0 (dV 0) a6))) (a0 (i4 (a0 (dC (.bl false)) (a0 (dV 1) a6))) a6))) (c8 2)) (c7 (e8 (y8 (i0 (Y1 ["NoJoin"] ["NoOutline", "NoPaper", "NoRow", "NoText", "TooMany"]) (dV 3)) (A0 (i0 (W4 ["NoJoin"]) (dV 3)))) (c8 4)) (i9 (o5 (m6 (i0 (Q8 ["NoJoin"] "NoJoin") (dV 3))) (p8 (m6 (dL 4)))) (e8 (i0 (Y6 ["NoJoin"] "word") (dV 3)) (c8 2)) j9))) (i6 (dV 2))))
noncomputable def az (m_joined : D3) : a7 := n8 5 (lh m_joined)
noncomputable def S9 (m_law_goes_on : a7) : DM := (c7 (i9 (dB (a5 w8 (a5 a9 (dL 0) (i0 j8 (dC (.int 1)))) (a5 a9 (dL 1) (dC (.int 0))))) (i6 (dC (.str "place"))) j9) (c7 (e8 (a5 l7 (dL 0) (K3 (dL 1) (O7 (dC (.int 1))) O5)) (c8 2)) (c7 (i9 (m6 (c6 m_law_goes_on (a0 (a5 a9 (dL 0) (i0 j8 (dC (.int 2)))) (a0 (a5 a9 (dL 0) (i0 j8 (dC (.int 1)))) (a0 (a5 a9 (dL 1) (dC (.int 1))) a6))))) (e8 (a5 l7 (K3 (dL 0) O5 (O7 (i0 j8 (dC (.int 1))))) (K3 (dL 1) (O7 (dC (.int 1))) O5)) (c8 2)) j9) (i6 (o7 (dB (a5 (j3 (fun i j => decide (j < i))) (i8 (one j7) (a0 (dL 2) a6)) (dC (.int 9)))) (dC (.str "many")) (i4 (a0 (dC (.bl false)) (a0 (dV 2) a6))))))))
noncomputable def X0 (m_law_goes_on : a7) : a7 := n8 3 (S9 m_law_goes_on)
noncomputable abbrev iX (m_law_told : a7) (m_law_due : a7) (m_law_stairs : a7) (m_law_draw : a7) : DM := (c7 (e8 (c6 m_law_stairs (a0 (dC (.int 0)) (a0 (dC (.int 0)) (a0 (dV 1) a6)))) (c8 3)) (c7 (e8 (c6 m_law_stairs (a0 (a5 a9 (a5 a9 (dL 3) (i0 j8 (dC (.int 1)))) (dC (.int 0))) (a0 (a5 a9 (a5 a9 (dL 3) (i0 j8 (dC (.int 1)))) (dC (.int 1))) (a0 (dV 2) a6)))) (c8 4)) (i9 (dB (a5 w8 (i8 (one L8) (a0 (c6 m_law_told (a0 (dV 3) (a0 (dV 4) a6))) a6)) (i8 (one L8) (a0 (c6 m_law_due (a0 (dV 3) (a0 (dV 4) a6))) a6)))) (i6 (dC (.bl false))) j9)))
noncomputable def aj (m_law_told : a7) (m_law_due : a7) (m_law_stairs : a7) (m_law_draw : a7) : DM := (c7 (U1 (a5 a9 (k7 (l5 (a0 (k7 (l5 (a0 (i4 (a0 (dC (.int 6)) (a0 (dC (.int 5)) a6))) (a0 (i4 (a0 (dC (.int 5)) (a0 (dC (.int 6)) a6))) a6)))) (a0 (k7 (l5 (a0 (i4 (a0 (dC (.int 8)) (a0 (dC (.int 3)) a6))) (a0 (i4 (a0 (dC (.int 6)) (a0 (dC (.int 6)) a6))) a6)))) (a0 (k7 (l5 (a0 (i4 (a0 (dC (.int 5)) (a0 (dC (.int 5)) a6))) (a0 (i4 (a0 (dC (.int 4)) (a0 (dC (.int 8)) a6))) a6)))) (a0 (k7 (l5 (a0 (i4 (a0 (dC (.int 2)) (a0 (dC (.int 9)) a6))) (a0 (i4 (a0 (dC (.int 7)) (a0 (dC (.int 4)) a6))) a6)))) a6)))))) (c6 m_law_draw (a0 (dV 0) (a0 (dC (.int 4)) a6)))) (o9 2 (l4 (c8 1) (l4 (c8 2) p7))) (iX m_law_told m_law_due m_law_stairs m_law_draw)) (i6 (dC (.bl true))))
noncomputable def bD (m_law_told : a7) (m_law_due : a7) (m_law_stairs : a7) (m_law_draw : a7) : a7 := n8 5 (aj m_law_told m_law_due m_law_stairs m_law_draw)
noncomputable def Z6 (m_law_spot : a7) (m_law_plus : a7) (m_law_product : a7) (m_law_minus : a7) (m_law_xy : a7) : DM := (c7 (e8 (i4 (a0 (c6 m_law_xy (a0 (dV 0) a6)) (a0 (c6 m_law_xy (a0 (dV 1) a6)) a6))) (o9 2 (l4 (o9 2 (l4 (c8 3) (l4 (c8 4) p7))) (l4 (o9 2 (l4 (c8 5) (l4 (c8 6) p7))) p7)))) (c7 (e8 (c6 m_law_plus (a0 (dV 3) (a0 (c6 m_law_product (a0 (dV 2) (a0 (c6 m_law_minus (a0 (dV 5) (a0 (dV 3) a6))) a6))) a6))) (c8 3)) (i6 (c6 m_law_spot (a0 (dV 3) (a0 (c6 m_law_plus (a0 (dV 4) (a0 (c6 m_law_product (a0 (dV 2) (a0 (c6 m_law_minus (a0 (dV 6) (a0 (dV 4) a6))) a6))) a6))) a6))))))
noncomputable def dA (m_law_spot : a7) (m_law_plus : a7) (m_law_product : a7) (m_law_minus : a7) (m_law_xy : a7) : a7 := n8 7 (Z6 m_law_spot m_law_plus m_law_product m_law_minus m_law_xy)
noncomputable def T6 (m_law_chain : a7) (m_law_draw : a7) (m_law_beyond : a7) (m_law_near : a7) : DM := (c7 (e8 (c6 m_law_chain (a0 (dV 0) (a0 (k7 (l5 (a0 (c6 m_law_near (a0 (dV 0) a6)) a6))) (a0 (a5 a9 (k7 (l5 (a0 (dC (.int 9)) (a0 (dC (.int 4)) (a0 (dC (.int 2)) (a0 (dC (.int 6)) a6)))))) (c6 m_law_draw (a0 (dV 0) (a0 (dC (.int 4)) a6)))) a6)))) (c8 1)) (c7 (F8 2 (l5 (a0 (a5 a9 (dL 1) (i0 j8 (dC (.int 1)))) a6))) (c7 (e8 (c6 m_law_draw (a0 (dV 0) (a0 (dC (.int 6)) a6))) (c8 3)) (c7 (i9 (dB (a5 B3 (dL 3) (dC (.int 0)))) (F8 2 (l5 (a0 (c6 m_law_near (a0 (dV 0) a6)) a6))) j9) (c7 (i9 (dB (a5 T4 (dL 3) (i4 (a0 (dC (.int 1)) (a0 (dC (.int 2)) a6))))) (B6 2 (c6 m_law_beyond (a0 (a5 a9 (dL 1) (i0 j8 (dC (.int 2)))) (a0 (a5 a9 (dL 1) (i0 j8 (dC (.int 1)))) (a0 (a5 a9 (k7 (l5 (a0 (i4 (a0 (dC (.int 3)) (a0 (dC (.int 2)) a6))) (a0 (i4 (a0 (dC (.int 2)) (a0 (dC (.int 1)) a6))) (a0 (i4 (a0 (dC (.int 1)) (a0 (dC (.int 2)) a6))) (a0 (i4 (a0 (i0 j8 (dC (.int 1))) (a0 (dC (.int 1)) a6))) (a0 (i4 (a0 (dC (.int 0)) (a0 (dC (.int 1)) a6))) a6))))))) (c6 m_law_draw (a0 (dV 0) (a0 (dC (.int 5)) a6)))) a6))))) j9) (i6 (i4 (a0 (dV 1) (a0 (c6 m_law_chain (a0 (dV 0) (a0 (dV 2) (a0 (a5 a9 (k7 (l5 (a0 (dC (.int 9)) (a0 (dC (.int 4)) (a0 (dC (.int 3)) (a0 (dC (.int 7)) a6)))))) (c6 m_law_draw (a0 (dV 0) (a0 (dC (.int 4)) a6)))) a6)))) a6)))))))))
noncomputable def bZ (m_law_chain : a7) (m_law_draw : a7) (m_law_beyond : a7) (m_law_near : a7) : a7 := n8 4 (T6 m_law_chain m_law_draw m_law_beyond m_law_near)
noncomputable abbrev iY (m_law_told : a7) (m_law_due : a7) (m_law_two : a7) (m_law_stairs_right : a7) (m_law_new_tape : a7) : DM := (i9 (dB (a5 w8 (i8 (one L8) (a0 (c6 m_law_told (a0 (dV 5) (a0 (dV 6) a6))) a6)) (i8 (one L8) (a0 (c6 m_law_due (a0 (dV 5) (a0 (dV 6) a6))) a6)))) (i6 (dC (.bl false))) j9)
noncomputable abbrev ji (m_law_told : a7) (m_law_due : a7) (m_law_two : a7) (m_law_stairs_right : a7) (m_law_new_tape : a7) : DM := (c7 (e8 (c6 m_law_two (a0 (dV 1) a6)) (o9 2 (l4 (c8 3) (l4 (c8 4) p7)))) (U1 (k7 (l5 (a0 (i4 (a0 (dV 3) (a0 (dV 4) a6))) (a0 (i4 (a0 (dV 4) (a0 (dV 3) a6))) a6)))) (o9 2 (l4 (c8 5) (l4 (c8 6) p7))) (iY m_law_told m_law_due m_law_two m_law_stairs_right m_law_new_tape)))
noncomputable def af (m_law_told : a7) (m_law_due : a7) (m_law_two : a7) (m_law_stairs_right : a7) (m_law_new_tape : a7) : DM := (c7 (e8 (c6 m_law_new_tape (a0 (dV 0) a6)) (c8 1)) (c7 (i9 (p8 (m6 (c6 m_law_stairs_right (a0 (dV 1) a6)))) (i6 (dC (.bl false))) j9) (c7 (O9 (a0 (dC (.int 8)) a6) (c8 2) (ji m_law_told m_law_due m_law_two m_law_stairs_right m_law_new_tape)) (i6 (dC (.bl true))))))
noncomputable def aF (m_law_told : a7) (m_law_due : a7) (m_law_two : a7) (m_law_stairs_right : a7) (m_law_new_tape : a7) : a7 := n8 7 (af m_law_told m_law_due m_law_two m_law_stairs_right m_law_new_tape)
end T
namespace DL
open PySem L2
theorem V9 {n k : Nat} (hk : 0 < k) (h : n < 2 ^ k) : n.log2 < k := by
 by_cases h0 : n = 0
 ·subst h0; simpa using hk
 ·exact (Nat.log2_lt h0).mpr h
theorem T3 {i : Int} (h : i.natAbs < 2 ^ 200) : n5 i = true := by
 have := V9 (by decide) h
 exact decide_eq_true (by omega)
theorem sZ {j : Int} (h0 : j ≠ 0) (h : j.natAbs < 2 ^ 200) : A8 j = true := by
 have := V9 (by decide) h
 unfold A8
 rw [decide_eq_true h0, Bool.true_and]
 exact decide_eq_true (by omega)
theorem ic (i : Int) : p9 (.int i) = true := by simp [p9, D.plain, D.py, SeqAt.shaped, PyData.canLay0, PyData.depth]
theorem ik (i j : Int) : w8 (.int i) (.int j) = some (.bl (!decide (i = j))) := by
 simp only [w8, ic, Bool.and_self, if_true, D.py, PyData.eqv, Bool.beq_eq_decide_eq]
theorem P4 (i j : Int) : B3 (.int i) (.int j) = some (.bl (decide (i = j))) := by
 simp only [B3, ic, Bool.and_self, if_true, D.py, PyData.eqv, Bool.beq_eq_decide_eq]
theorem gE (x y : Str) : w8 (.str x) (.str y) = some (.bl (!decide (x = y))) := rfl
theorem ug {i : Int} (h : i.natAbs.log2 < 1920) : (PySem.Str.ofString (toString i)).length ≤ 1921 := PyProof.Rows.int_text_len_1921 h
theorem iJ {d : D} (h : E5 d = true) : L8 d = some (.str d.py.shown) := by unfold L8; rw [if_pos h]
theorem cJ {α : Type} {xs : List α} {i : Int} (h0 : 0 ≤ i) (h1 : i < xs.length) : k9 xs i = xs[i.toNat]? := by
 unfold k9 E1
 rw [if_pos h0, if_pos h1]
 rfl
theorem F2 {a b : Int} (h : 0 < b) : 0 ≤ a.fmod b ∧ a.fmod b < b := by
 rw [Int.fmod_eq_emod_of_nonneg a (by omega)]
 exact ⟨Int.emod_nonneg a (by omega), Int.emod_lt_of_pos a h⟩
theorem m8 {a b : DM} {s s1 : DS} (h : a s = some (.next, s1)) : c7 a b s = b s1 := by simp [c7, h, v7]
theorem dY {a b : DM} {s s1 : DS} {d : D} (h : a s = some (.ret d, s1)) : c7 a b s = some (.ret d, s1) := by simp [c7, h, v7]
theorem aH {m : a7} {a : DA} {s s1 : DS} {xs : List D} {d : D} {fs : Option FS} (ha : a s = some (xs, s1)) (hm : m xs s1.fs = some (d, fs)) : c6 m a s = some (d, { s1 with fs := fs }) := by
 unfold c6
 rw [ha, Option.bind_some, hm]
 rfl
theorem a8 {p : D → D → Option D} {a b : DE} {s s1 s2 : DS} {x y z : D} (h1 : a s = some (x, s1)) (h2 : b s1 = some (y, s2)) (h3 : p x y = some z) : a5 p a b s = some (z, s2) := by
 unfold a5
 rw [h1, Option.bind_some, h2, Option.bind_some, h3]
 rfl
theorem i3 {a : DE} {b : DA} {s s1 s2 : DS} {x : D} {xs : List D} (h1 : a s = some (x, s1)) (h2 : b s1 = some (xs, s2)) : a0 a b s = some (x :: xs, s2) := by
 unfold a0
 rw [h1, Option.bind_some, h2]
 rfl
theorem A3 {f : DE} {t : D → DS → Option DS} {s s1 s2 : DS} {d : D} (h1 : f s = some (d, s1)) (h2 : t d s1 = some s2) : e8 f t s = some (.next, s2) := by
 unfold e8
 rw [h1, Option.bind_some, h2]
 rfl
theorem R7 {c : DT} {a b : DM} {s s1 : DS} (h : c s = some (true, s1)) : i9 c a b s = a s1 := by simp [i9, h]
theorem ah {c : DT} {a b : DM} {s s1 : DS} (h : c s = some (false, s1)) : i9 c a b s = b s1 := by simp [i9, h]
theorem u9 {f : DE} {s s1 : DS} {d : D} (h : f s = some (d, s1)) : i6 f s = some (.ret d, s1) := by simp [i6, h]
theorem C7 {f : DE} {s s1 : DS} {b : Bool} (h : f s = some (.bl b, s1)) : dB f s = some (b, s1) := by simp [dB, h]
theorem n4 {n : Nat} {b : DM} {ds : List D} {fs : Option FS} {d : D} {s : DS} (h : b ⟨ds.map .val ++ List.replicate (n - ds.length) .no, fs⟩ = some (.ret d, s)) : n8 n b ds fs = some (d, s.fs) := by simp [n8, h]
theorem o6 {m : a7} {a : DA} {sl : List Sl} {fs : Option FS} {xs : List D} {d : D} (ha : a ⟨sl, fs⟩ = some (xs, ⟨sl, fs⟩)) (hm : m xs fs = some (d, fs)) : c6 m a ⟨sl, fs⟩ = some (d, ⟨sl, fs⟩) := aH (s1 := ⟨sl, fs⟩) ha hm
theorem G2 {m : a7} {a : DA} {sl : List Sl} {fs fs' : Option FS} {xs : List D} {d : D} (ha : a ⟨sl, fs⟩ = some (xs, ⟨sl, fs⟩)) (hm : m xs fs = some (d, fs')) : c6 m a ⟨sl, fs⟩ = some (d, ⟨sl, fs'⟩) := aH (s1 := ⟨sl, fs⟩) ha hm
theorem aP {m : a7} {a : DA} {sl sl' : List Sl} {fs fs' fs2 : Option FS} {xs : List D} {d : D} (ha : a ⟨sl, fs⟩ = some (xs, ⟨sl', fs'⟩)) (hm : m xs fs' = some (d, fs2)) : c6 m a ⟨sl, fs⟩ = some (d, ⟨sl', fs2⟩) := aH (s1 := ⟨sl', fs'⟩) ha hm
theorem tN {a b c : DE} {s s1 s2 s3 : DS} {x y z : D} (h1 : a s = some (x, s1)) (h2 : b s1 = some (y, s2)) (h3 : c s2 = some (z, s3)) : i4 (a0 a (a0 b (a0 c a6))) s = some (.tup [x, y, z], s3) := by
 unfold i4
 rw [i3 h1 (i3 h2 (i3 h3 rfl)), Option.bind_some]
 exact if_pos (e := (none : Option (D × DS))) (show 3 ≤ sizeLine by decide)
theorem B0 {a b : DE} {s s1 s2 : DS} {x y : D} (h1 : a s = some (x, s1)) (h2 : b s1 = some (y, s2)) : i4 (a0 a (a0 b a6)) s = some (.tup [x, y], s2) := by
 unfold i4
 rw [i3 h1 (i3 h2 rfl), Option.bind_some]
 exact if_pos (e := (none : Option (D × DS))) (show 2 ≤ sizeLine by decide)
theorem eQ {i j : Nat} {f : DA} {s s1 s2 : DS} {a b : D} (h : f s = some ([a, b], s1)) (e : { s1 with sl := (s1.sl.set i (.val a)).set j (.val b) } = s2) : u3 i j f s = some (.next, s2) := by
 unfold u3
 rw [h]
 exact congrArg (fun z => some (Fl.next, z)) e
theorem aR {f : DE} {s s1 : DS} {b : Bool} (h : f s = some (.bl b, s1)) : m6 f s = some (b, s1) := by
 unfold m6
 rw [h]
 rfl
theorem jr {a : DT} {s s1 : DS} {b : Bool} (h : a s = some (b, s1)) : p8 a s = some (!b, s1) := by
 unfold p8
 rw [h]
 rfl
theorem P7 {a b : DT} {s s1 : DS} {r : Option (Bool × DS)} (h1 : a s = some (true, s1)) (h2 : b s1 = r) : o5 a b s = r := by
 unfold o5
 rw [h1, Option.bind_some, if_pos rfl]
 exact h2
theorem bI {a b : DT} {s s1 : DS} (h1 : a s = some (false, s1)) : o5 a b s = some (false, s1) := by
 unfold o5
 rw [h1, Option.bind_some, if_neg Bool.false_ne_true]
theorem rF {a b : DT} {s s1 : DS} (h1 : a s = some (true, s1)) : u6 a b s = some (true, s1) := by
 unfold u6
 rw [h1, Option.bind_some, if_pos rfl]
theorem ox {a b : DT} {s s1 : DS} {r : Option (Bool × DS)} (h1 : a s = some (false, s1)) (h2 : b s1 = r) : u6 a b s = r := by
 unfold u6
 rw [h1, Option.bind_some, if_neg Bool.false_ne_true]
 exact h2
theorem dj {c : DT} {a : DM} {s s1 : DS} (h : c s = some (false, s1)) : i9 c a j9 s = some (.next, s1) := by
 rw [ah h]
 rfl
theorem sC {i : Nat} {f : DA} {s s1 : DS} {ds : List D} (h : f s = some (ds, s1)) (hi : i < s1.sl.length) : F8 i f s = some (.next, { s1 with sl := s1.sl.set i (.own ds) }) := by
 unfold F8
 rw [h, Option.bind_some, if_pos hi]
theorem ui {f : DA} {s s1 : DS} {ds : List D} (h : f s = some (ds, s1)) : k7 f s = some (.lst ds, s1) := by
 unfold k7
 rw [h]
 rfl
theorem rN {idx : List Nat} {fi : DA} {fc : DT} {fe : DE} {s s1 : DS} {ds R : List D} (h : fi s = some (ds, s1)) (hz : ds.length ≤ sizeLine) (c : D9 (fun d => some (.val d :: N7 idx s1.sl)) fc fe ds s1.fs = some (R, s1.fs)) : Q4 idx fi fc fe s = some (R, s1) := by
 unfold Q4
 rw [h, Option.bind_some, if_pos hz, c]
 rfl
theorem iB {i : Nat} {f : DE} {s s1 : DS} {ds ds0 : List D} {d : D} (h0 : s.sl[i]? = some (.own ds0)) (h : f s = some (d, s1)) (h1 : s1.sl[i]? = some (.own ds)) (hl : ds.length < sizeLine) : B6 i f s = some (.next, { s1 with sl := s1.sl.set i (.own (ds ++ [d])) }) := by
 unfold B6
 rw [h0]
 show (f s).bind _ = _
 rw [h, Option.bind_some]
 show (match s1.sl[i]? with | some (.own ds) => _ | _ => _) = _
 rw [h1]
 exact if_pos hl
theorem C8 {p : D → Option D} {a : DE} {s s1 : DS} {x d : D} (h : a s = some (x, s1)) (hp : p x = some d) : i8 (one p) (a0 a a6) s = some (d, s1) := by
 unfold i8
 rw [i3 h rfl, Option.bind_some]
 show (p x).map _ = _
 rw [hp]
 rfl
theorem mW {c : DT} {a b : DE} {s s1 : DS} (h : c s = some (true, s1)) : o7 c a b s = a s1 := by
 unfold o7
 rw [h]
 rfl
theorem ph {c : DT} {a b : DE} {s s1 : DS} (h : c s = some (false, s1)) : o7 c a b s = b s1 := by
 unfold o7
 rw [h]
 rfl
noncomputable def fr (p : Rat) : D := .tup [.int p.num, .int p.den]
noncomputable def Sz (k : Nat) (p : Rat) : Prop := p.num.natAbs < 2 ^ k ∧ p.den < 2 ^ k
theorem Sz.mono {k l : Nat} {p : Rat} (h : Sz k p) (hl : k ≤ l) : Sz l p :=
 ⟨Nat.lt_of_lt_of_le h.1 (Nat.pow_le_pow_right (by decide) hl), Nat.lt_of_lt_of_le h.2 (Nat.pow_le_pow_right (by decide) hl)⟩
theorem jk {a b : Int} (hb : b ≠ 0) : (Rat.divInt a b).num.natAbs ≤ a.natAbs ∧ (Rat.divInt a b).den ≤ b.natAbs := by
 constructor
 ·rw [Rat.num_divInt, Int.natAbs_ediv_of_dvd (Int.dvd_mul_of_dvd_right (Int.gcd_dvd_right ..))]
  rw [Int.natAbs_mul, Int.natAbs_sign_of_ne_zero hb, Nat.one_mul]
  exact Nat.div_le_self _ _
 ·rw [Rat.den_divInt, if_neg hb]
  exact Nat.div_le_self _ _
theorem Sz.of_divInt {k : Nat} {a b : Int} (hb : b ≠ 0) (h1 : a.natAbs < 2 ^ k) (h2 : b.natAbs < 2 ^ k) : Sz k (Rat.divInt a b) :=
 ⟨Nat.lt_of_le_of_lt (jk hb).1 h1, Nat.lt_of_le_of_lt (jk hb).2 h2⟩
theorem iW {a b k l : Nat} (h1 : a < 2 ^ k) (h2 : b < 2 ^ l) : a * b < 2 ^ (k + l) := by
 rw [Nat.pow_add]
 exact Nat.mul_lt_mul_of_lt_of_lt h1 h2
theorem mD {a b k : Nat} (h1 : a < 2 ^ k) (h2 : b < 2 ^ k) : a + b < 2 ^ (k + 1) := by
 rw [Nat.pow_succ]; omega
noncomputable def Bd (k : Nat) (i : Int) : Prop := i.natAbs < 2 ^ k
theorem Bd.mono {k l : Nat} {i : Int} (h : Bd k i) (hl : k ≤ l) : Bd l i := Nat.lt_of_lt_of_le h (Nat.pow_le_pow_right (by decide) hl)
theorem Bd.mul {k l : Nat} {i j : Int} (h1 : Bd k i) (h2 : Bd l j) : Bd (k + l) (i * j) := by
 unfold Bd; rw [Int.natAbs_mul]; exact iW h1 h2
theorem Bd.add {k l : Nat} {i j : Int} (h1 : Bd k i) (h2 : Bd l j) : Bd (max k l + 1) (i + j) :=
 Nat.lt_of_le_of_lt (Int.natAbs_add_le i j) (mD (h1.mono (Nat.le_max_left ..)) (h2.mono (Nat.le_max_right ..)))
theorem Bd.neg {k : Nat} {i : Int} (h1 : Bd k i) : Bd k (-i) := by unfold Bd; rw [Int.natAbs_neg]; exact h1
theorem Bd.sub {k l : Nat} {i j : Int} (h1 : Bd k i) (h2 : Bd l j) : Bd (max k l + 1) (i - j) := by rw [Int.sub_eq_add_neg]; exact h1.add h2.neg
theorem Bd.gcd {k : Nat} {i : Int} {j : Int} (h : Bd k j) (hj : j ≠ 0) : Bd k (Int.gcd i j : Int) := by
 have : Int.gcd i j ≤ j.natAbs := Nat.le_of_dvd (by omega) (Nat.gcd_dvd_right i.natAbs j.natAbs)
 exact Nat.lt_of_le_of_lt this h
theorem Bd.bits {k : Nat} {i : Int} (h : Bd k i) (hk : k ≤ 8000) : n5 i = true := by
 have := V9 (k := 8000) (by decide) (h.mono hk)
 exact decide_eq_true (by omega)
theorem Bd.div {k : Nat} {i : Int} (h : Bd k i) (h0 : i ≠ 0) (hk : k ≤ 8000) : A8 i = true := by
 have := V9 (k := 8000) (by decide) (h.mono hk)
 unfold A8
 rw [decide_eq_true h0, Bool.true_and]
 exact decide_eq_true (by omega)
theorem Sz.num {k : Nat} {p : Rat} (h : Sz k p) : Bd k p.num := h.1
theorem Sz.den {k : Nat} {p : Rat} (h : Sz k p) : Bd k (p.den : Int) := h.2
theorem B9 (p : Rat) : (p.den : Int) ≠ 0 := by have := p.den_nz; omega
theorem aS (p : Rat) : (0 : Int) < p.den := by have := p.den_nz; omega
theorem aq (p : Rat) : p = Rat.divInt p.num p.den := (Rat.num_divInt_den p).symm
theorem Sz.mul {k l : Nat} {p q : Rat} (h1 : Sz k p) (h2 : Sz l q) : Sz (k + l) (p * q) := by
 rw [aq p, aq q, Rat.divInt_mul_divInt]
 exact Sz.of_divInt (Int.mul_ne_zero (B9 p) (B9 q)) (Bd.mul h1.num h2.num) (Bd.mul h1.den h2.den)
theorem Sz.add {k l : Nat} {p q : Rat} (h1 : Sz k p) (h2 : Sz l q) : Sz (k + l + 1) (p + q) := by
 rw [aq p, aq q, Rat.divInt_add_divInt _ _ (B9 p) (B9 q)]
 refine Sz.of_divInt (Int.mul_ne_zero (B9 p) (B9 q)) ?_ (Bd.mono (Bd.mul h1.den h2.den) (by omega))
 have e1 := Bd.mul h1.num h2.den
 have e2 := Bd.mul h2.num h1.den
 exact Bd.mono (Bd.add e1 e2) (by omega)
theorem Sz.neg {k : Nat} {p : Rat} (h : Sz k p) : Sz k (-p) := ⟨by rw [Rat.neg_num, Int.natAbs_neg]; exact h.1, h.2⟩
theorem Sz.sub {k l : Nat} {p q : Rat} (h1 : Sz k p) (h2 : Sz l q) : Sz (k + l + 1) (p - q) := by rw [Rat.sub_eq_add_neg]; exact h1.add h2.neg
theorem Sz.int {k : Nat} {i : Int} (h : Bd k i) (hk : 1 ≤ k) : Sz k (i : Rat) := ⟨h, Nat.lt_of_lt_of_le (by decide : 1 < 2 ^ 1) (Nat.pow_le_pow_right (by decide) hk)⟩
theorem Sz.lit {k : Nat} {p : Rat} (h : decide (p.num.natAbs < 2 ^ k ∧ p.den < 2 ^ k) = true) : Sz k p := by unfold Sz; exact of_decide_eq_true h
end DL
namespace T
open PySem L2 DL
theorem nu (a : Int) : (if a < 0 then -a else a) = ((a.natAbs : Nat) : Int) := by split <;> omega
theorem E9 {a g c : Int} (hg : g ≠ 0) (e : a = g * c) : a.fdiv g = c := by subst e; exact Int.mul_fdiv_cancel_left c hg
theorem tR (a b : Int) (hb : b ≠ 0) : let g : Int := if b < 0 then -(Int.gcd a b : Int) else (Int.gcd a b : Int)
  g ≠ 0 ∧ a.fdiv g = (Rat.divInt a b).num ∧ b.fdiv g = ((Rat.divInt a b).den : Int) := by
 intro g
 have g0 : 0 < Int.gcd a b := Int.gcd_pos_of_ne_zero_right a hb
 obtain ⟨c, hc⟩ := Int.gcd_dvd_left a b
 obtain ⟨d, hd⟩ := Int.gcd_dvd_right a b
 have e1 : (Rat.divInt a b).num = if b < 0 then -c else c := by
  rw [Rat.num_divInt, Int.gcd_comm]
  split
  ·rename_i h
   rw [Int.sign_eq_neg_one_of_neg h]
   refine Int.ediv_eq_of_eq_mul_right (by omega) ?_
   grind
  ·rename_i h
   rw [Int.sign_eq_one_of_pos (by omega), Int.one_mul]
   exact Int.ediv_eq_of_eq_mul_right (by omega) hc
 have e2 : ((Rat.divInt a b).den : Int) = if b < 0 then -d else d := by
  rw [Rat.den_divInt, if_neg hb, Int.gcd_comm, Int.natCast_ediv]
  split
  ·refine Int.ediv_eq_of_eq_mul_right (by omega) ?_
   grind
  ·refine Int.ediv_eq_of_eq_mul_right (by omega) ?_
   grind
 rw [e1, e2]
 by_cases h : b < 0
 ·have eg : g = -(Int.gcd a b : Int) := if_pos h
  rw [eg, if_pos h, if_pos h]
  exact ⟨by omega, E9 (by omega) (by grind), E9 (by omega) (by grind)⟩
 ·have eg : g = (Int.gcd a b : Int) := if_neg h
  rw [eg, if_neg h, if_neg h]
  exact ⟨by omega, E9 (by omega) hc, E9 (by omega) hd⟩
theorem iE {k : Nat} {a b : Int} (hb : b ≠ 0) (h : Bd k b) (hk : k ≤ 8000) : A8 (if b < 0 then -(Int.gcd a b : Int) else (Int.gcd a b : Int)) = true := by
 have g0 : 0 < Int.gcd a b := Int.gcd_pos_of_ne_zero_right a hb
 split
 ·exact (Bd.gcd h hb).neg.div (by omega) hk
 ·exact (Bd.gcd h hb).div (by omega) hk
theorem kY : (2 : Nat) ≤ sizeLine := by decide
theorem oS : (3 : Nat) ≤ sizeLine := by decide
theorem iC (a b c : D) : k9 [a, b, c] 0 = some a := rfl
theorem eJ (a b c : D) : k9 [a, b, c] 1 = some b := rfl
theorem gA (a b c : D) : k9 [a, b, c] 2 = some c := rfl
theorem iw {gg : Int} (dg : A8 gg = true) (fs : Option FS) : ∀ xs : List Int, D9 (fun d => some [.val d, .val (.int gg)]) W3 (a5 A6 (dL 0) (dL 1)) (xs.map .int) fs = some (xs.map (fun x => .int (x.fdiv gg)), fs)
 | [] => rfl
 | x :: r => by
  have e : a5 A6 (dL 0) (dL 1) ⟨[.val (.int x), .val (.int gg)], fs⟩ = some (.int (x.fdiv gg), ⟨[.val (.int x), .val (.int gg)], fs⟩) := a8 rfl rfl (if_pos dg)
  have ih := iw dg fs r
  rw [List.map_cons, D9, Option.bind_some]
  show ((a5 A6 (dL 0) (dL 1) ⟨[.val (.int x), .val (.int gg)], fs⟩).bind _) = _
  rw [e, Option.bind_some]
  show (D9 _ W3 _ (r.map .int) fs).map _ = _
  rw [ih]
  rfl
theorem jm (p q : Rat) : p + q = Rat.divInt (p.num * q.den + q.num * p.den) (p.den * q.den) := by
 rw [Rat.add_def', ← Rat.divInt_ofNat]; rfl
theorem rz (p q : Rat) : p * q = Rat.divInt (p.num * q.num) (p.den * q.den) := by
 rw [Rat.mul_def', ← Rat.divInt_ofNat]; rfl
theorem bf (p q : Rat) : (p.den : Int) * q.den ≠ 0 := Int.mul_ne_zero (B9 p) (B9 q)
theorem k6 {a b : Int} (h1 : n5 a = true) (h2 : n5 b = true) : j5 (.int a) (.int b) = some (.int (a * b)) := by simp [j5, h1, h2]
theorem nR {α : Type} {xs : List α} {r : Int} (h0 : 0 ≤ r) (h1 : r < xs.length) : ∃ x, x ∈ xs ∧ k9 xs r = some x := by
 refine ⟨xs[r.toNat]'(by omega), List.getElem_mem _, ?_⟩
 rw [cJ h0 h1, List.getElem?_eq_getElem]
end T
namespace DL
open PySem L2
noncomputable abbrev Pt := Rat × Rat
noncomputable def pL (a : Pt) : Int := ((Nat.lcm a.1.den a.2.den : Nat) : Int)
noncomputable def pX (a : Pt) : Int := a.1.num * ((Nat.lcm a.1.den a.2.den / a.1.den : Nat) : Int)
noncomputable def pY (a : Pt) : Int := a.2.num * ((Nat.lcm a.1.den a.2.den / a.2.den : Nat) : Int)
noncomputable def pt (a : Pt) : D := .tup [.int (pX a), .int (pY a), .int (pL a)]
theorem lcm_pos (p q : Rat) : 0 < Nat.lcm p.den q.den := Nat.lcm_pos (by have := p.den_nz; omega) (by have := q.den_nz; omega)
theorem eG (a : Pt) : 0 < pL a := by have := lcm_pos a.1 a.2; unfold pL; omega
theorem cp (a : Pt) : pL a ≠ 0 := by have := eG a; omega
theorem E2 (a : Pt) : (0 : Rat) < (pL a : Rat) := Rat.intCast_pos.mpr (eG a)
theorem cH (a : Pt) : (pL a : Rat) ≠ 0 := fun h => cp a (Rat.intCast_eq_zero_iff.mp h)
theorem cy (p : Rat) : (p.num : Rat) = p * ((p.den : Int) : Rat) := by
 have e := Rat.num_divInt_den p
 rw [Rat.divInt_eq_div] at e
 have hd : ((p.den : Int) : Rat) ≠ 0 := fun h => B9 p (Rat.intCast_eq_zero_iff.mp h)
 have : (p.num : Rat) / ((p.den : Int) : Rat) * ((p.den : Int) : Rat) = (p.num : Rat) := Rat.div_mul_cancel hd
 rw [e] at this
 exact this.symm
theorem M4 (a : Pt) : (pX a : Rat) = a.1 * (pL a : Rat) := by
 unfold pX pL
 obtain ⟨c, hc⟩ := Nat.dvd_lcm_left a.1.den a.2.den
 have hd := a.1.den_nz
 have e : Nat.lcm a.1.den a.2.den / a.1.den = c := Nat.div_eq_of_eq_mul_right (by omega) hc
 rw [e, hc, Int.natCast_mul, Rat.intCast_mul, Rat.intCast_mul, cy]
 grind
theorem L4 (a : Pt) : (pY a : Rat) = a.2 * (pL a : Rat) := by
 unfold pY pL
 obtain ⟨c, hc⟩ := Nat.dvd_lcm_right a.1.den a.2.den
 have hd := a.2.den_nz
 have e : Nat.lcm a.1.den a.2.den / a.2.den = c := Nat.div_eq_of_eq_mul_right (by omega) hc
 rw [e, hc, Int.natCast_mul, Rat.intCast_mul, Rat.intCast_mul, cy]
 grind
theorem je {x d : Int} {p : Rat} (hd : 0 < d) (h : (x : Rat) = p * (d : Rat)) : ∃ c : Int, d = p.den * c ∧ x = p.num * c := by
 have h1 : x * p.den = p.num * d := by
  have e := cy p
  have : ((x * p.den : Int) : Rat) = ((p.num * d : Int) : Rat) := by
   rw [Rat.intCast_mul, Rat.intCast_mul, h, e]; grind
  exact Rat.intCast_inj.mp this
 have dv : (p.den : Int) ∣ p.num * d := ⟨x, by rw [← h1, Int.mul_comm]⟩
 have dv2 : p.den ∣ p.num.natAbs * d.natAbs := by
  have := Int.natAbs_dvd_natAbs.mpr dv
  rwa [Int.natAbs_mul, Int.natAbs_natCast] at this
 have dv3 : p.den ∣ d.natAbs := Nat.Coprime.dvd_of_dvd_mul_left (Nat.Coprime.symm p.reduced) dv2
 obtain ⟨c, hc⟩ : (p.den : Int) ∣ d := Int.dvd_natAbs.mp (Int.ofNat_dvd.mpr dv3)
 refine ⟨c, hc, ?_⟩
 have hp := aS p
 have : (p.den : Int) * x = p.den * (p.num * c) := by rw [Int.mul_comm, h1, hc]; grind
 exact Int.eq_of_mul_eq_mul_left (by omega) this
theorem ig {x y d : Int} {a : Pt} (hd : 0 < d) (hg : Int.gcd (Int.gcd x y : Int) d = 1) (hx : (x : Rat) = a.1 * (d : Rat)) (hy : (y : Rat) = a.2 * (d : Rat)) : x = pX a ∧ y = pY a ∧ d = pL a := by
 obtain ⟨c1, e1, f1⟩ := je hd hx
 obtain ⟨c2, e2, f2⟩ := je hd hy
 obtain ⟨D, rfl⟩ := Int.eq_ofNat_of_zero_le (show 0 ≤ d by omega)
 have dl : Nat.lcm a.1.den a.2.den ∣ D := Nat.lcm_dvd (Int.ofNat_dvd.mp ⟨c1, e1⟩) (Int.ofNat_dvd.mp ⟨c2, e2⟩)
 obtain ⟨m, hm⟩ := dl
 have key : ∀ z : Int, ∀ r : Rat, (z : Rat) = r * ((D : Int) : Rat) → ∀ w : Int, (w : Rat) = r * (pL a : Rat) → z = w * m := by
  intro z r h1 w h2
  have : (z : Rat) = ((w * m : Int) : Rat) := by
   rw [h1, Rat.intCast_mul, h2, hm]
   have : (((Nat.lcm a.1.den a.2.den * m : Nat) : Int) : Rat) = (pL a : Rat) * ((m : Int) : Rat) := by
    rw [Int.natCast_mul, Rat.intCast_mul]; rfl
   rw [this]; grind
  exact Rat.intCast_inj.mp this
 have kx := key x a.1 hx (pX a) (M4 a)
 have ky := key y a.2 hy (pY a) (L4 a)
 have kd : (D : Int) = pL a * m := by rw [hm, Int.natCast_mul]; rfl
 have m1 : (m : Int) ∣ 1 := by
  have h : (m : Int) ∣ (Int.gcd (Int.gcd x y : Int) (D : Int) : Int) := by
   refine Int.dvd_coe_gcd (Int.dvd_coe_gcd ?_ ?_) ?_
   ·exact ⟨pX a, by rw [kx, Int.mul_comm]⟩
   ·exact ⟨pY a, by rw [ky, Int.mul_comm]⟩
   ·exact ⟨pL a, by rw [kd, Int.mul_comm]⟩
  rwa [hg] at h
 have m2 : m = 1 := Nat.eq_one_of_dvd_one (Int.ofNat_dvd.mp m1)
 subst m2
 exact ⟨by rw [kx]; simp, by rw [ky]; simp, by rw [kd]; simp⟩
structure Ps (k : Nat) (a : Pt) : Prop where
 x : Bd k (pX a)
 y : Bd k (pY a)
 l : Bd k (pL a)
theorem Ps.of {k l : Nat} {a : Pt} (h1 : Sz k a.1) (h2 : Sz l a.2) : Ps (k + l) a := by
 have hl : Nat.lcm a.1.den a.2.den ≤ a.1.den * a.2.den := Nat.le_of_dvd (Nat.mul_pos (by have := a.1.den_nz; omega) (by have := a.2.den_nz; omega)) (Nat.lcm_dvd_mul ..)
 have b := iW h1.2 h2.2
 have dl : Nat.lcm a.1.den a.2.den / a.1.den ≤ a.2.den := by
  rw [Nat.div_le_iff_le_mul_add_pred (by have := a.1.den_nz; omega)]; omega
 have dr : Nat.lcm a.1.den a.2.den / a.2.den ≤ a.1.den := by
  rw [Nat.div_le_iff_le_mul_add_pred (by have := a.2.den_nz; omega), Nat.mul_comm a.2.den]; omega
 refine ⟨?_, ?_, ?_⟩
 ·exact Bd.mul h1.num (show Bd l ((_ : Nat) : Int) from Nat.lt_of_le_of_lt dl h2.2)
 ·have := Bd.mul h2.num (show Bd k ((_ : Nat) : Int) from Nat.lt_of_le_of_lt dr h1.2)
  rw [Nat.add_comm]; exact this
 ·exact Nat.lt_of_le_of_lt hl b
noncomputable def C0 (a b c : Pt) : Rat := (b.1 - a.1) * (c.2 - a.2) - (b.2 - a.2) * (c.1 - a.1)
noncomputable def L5 (r : Rat) : Int := if 0 < r then 1 else if r < 0 then -1 else 0
noncomputable def U6 (n : Int) : Int := if 0 < n then 1 else if n < 0 then -1 else 0
theorem qh {n : Int} {c r : Rat} (hc : 0 < c) (h : (n : Rat) = c * r) : U6 n = L5 r := by
 unfold U6 L5
 have h1 : 0 < n ↔ 0 < r := by
  rw [← Rat.intCast_pos, h]; exact Rat.mul_pos_iff_of_pos_left hc
 have h2 : n < 0 ↔ r < 0 := by
  rw [← Rat.intCast_neg_iff, h]; exact Rat.mul_neg_iff_of_pos_left hc
 simp only [h1, h2]
noncomputable def F1 (a b : Pt) : Bool := decide (a.1 < b.1) || (decide (a.1 = b.1) && decide (a.2 < b.2))
end DL
namespace T
open PySem L2 DL
theorem jR (x y d : Int) (hd : d ≠ 0) : let G : Nat := Int.gcd (Int.gcd x y : Int) d
  let g : Int := if d < 0 then -(G : Int) else (G : Int)
  g ≠ 0 ∧ x.fdiv g = pX (Rat.divInt x d, Rat.divInt y d) ∧ y.fdiv g = pY (Rat.divInt x d, Rat.divInt y d) ∧ d.fdiv g = pL (Rat.divInt x d, Rat.divInt y d) := by
 intro G g
 have g0 : 0 < G := Int.gcd_pos_of_ne_zero_right _ hd
 obtain ⟨d', ed⟩ := Int.gcd_dvd_right (Int.gcd x y : Int) d
 have h1 := Int.gcd_dvd_left (Int.gcd x y : Int) d
 obtain ⟨x', ex⟩ := Int.dvd_trans h1 (Int.gcd_dvd_left ..)
 obtain ⟨y', ey⟩ := Int.dvd_trans h1 (Int.gcd_dvd_right ..)
 replace ed : d = (G : Int) * d' := ed
 replace ex : x = (G : Int) * x' := ex
 replace ey : y = (G : Int) * y' := ey
 have cop : Int.gcd (Int.gcd x' y' : Int) d' = 1 := by
  have e1 : Int.gcd x y = G * Int.gcd x' y' := by
   have := Int.gcd_mul_left (m := (G : Int)) (n := x') (k := y')
   rw [← ex, ← ey] at this; exact this
  have e2 : Int.gcd (Int.gcd x y : Int) d = G * Int.gcd (Int.gcd x' y' : Int) d' := by
   have := Int.gcd_mul_left (m := (G : Int)) (n := (Int.gcd x' y' : Int)) (k := d')
   rw [← ed, ← Int.natCast_mul, ← e1] at this; exact this
  have e3 : G * Int.gcd (Int.gcd x' y' : Int) d' = G * 1 := by rw [← e2, Nat.mul_one]
  exact Nat.eq_of_mul_eq_mul_left g0 e3
 have hdr : (d : Rat) ≠ 0 := fun h => hd (Rat.intCast_eq_zero_iff.mp h)
 have hGr : ((G : Int) : Rat) ≠ 0 := fun h => by have := Rat.intCast_eq_zero_iff.mp h; omega
 have vx : ∀ z z' : Int, z = (G : Int) * z' → (z' : Rat) = Rat.divInt z d * (d' : Rat) := fun z z' e => by
  rw [Rat.divInt_eq_div]
  have ed' : (d : Rat) = ((G : Int) : Rat) * (d' : Rat) := by rw [← Rat.intCast_mul]; exact congrArg _ ed
  have ez' : (z : Rat) = ((G : Int) : Rat) * (z' : Rat) := by rw [← Rat.intCast_mul]; exact congrArg _ e
  have hd'r : (d' : Rat) ≠ 0 := fun h => hdr (by rw [ed', h]; grind)
  rw [ez', ed']
  grind
 by_cases h : d < 0
 ·have eg : g = -(G : Int) := if_pos h
  have dn : 0 < -d' := by
   rcases Int.lt_or_le d' 0 with z | z
   ·omega
   ·have : 0 ≤ (G : Int) * d' := Int.mul_nonneg (by omega) z
    omega
  obtain ⟨q1, q2, q3⟩ := ig (x := -x') (y := -y') (d := -d') (a := (Rat.divInt x d, Rat.divInt y d)) dn (by
   have : Int.gcd (-x') (-y') = Int.gcd x' y' := by simp [Int.gcd]
   rw [this]
   have : Int.gcd (Int.gcd x' y' : Int) (-d') = Int.gcd (Int.gcd x' y' : Int) d' := by simp [Int.gcd]
   rw [this]; exact cop) (by rw [Rat.intCast_neg, Rat.intCast_neg, vx x x' ex]; grind) (by rw [Rat.intCast_neg, Rat.intCast_neg, vx y y' ey]; grind)
  rw [eg, ← q1, ← q2, ← q3]
  exact ⟨by omega, E9 (by omega) (by grind), E9 (by omega) (by grind), E9 (by omega) (by grind)⟩
 ·have eg : g = (G : Int) := if_neg h
  have dp : 0 < d' := by
   rcases Int.lt_or_le 0 d' with z | z
   ·exact z
   ·have : (G : Int) * d' ≤ G * 0 := Int.mul_le_mul_of_nonneg_left z (by omega)
    omega
  obtain ⟨q1, q2, q3⟩ := ig (x := x') (y := y') (d := d') (a := (Rat.divInt x d, Rat.divInt y d)) dp cop (vx x x' ex) (vx y y' ey)
  rw [eg, ← q1, ← q2, ← q3]
  exact ⟨by omega, E9 (by omega) ex, E9 (by omega) ey, E9 (by omega) ed⟩
theorem su {k : Nat} {x y d : Int} (hd : d ≠ 0) (h : Bd k d) (hk : k ≤ 8000) : A8 (if d < 0 then -(Int.gcd (Int.gcd x y : Int) d : Int) else (Int.gcd (Int.gcd x y : Int) d : Int)) = true := iE (a := (Int.gcd x y : Int)) hd h hk
theorem pd (p q : Rat) : Rat.divInt (p.num * q.den) (p.den * q.den) = p := by
 rw [Rat.divInt_mul_right (B9 q), Rat.num_divInt_den]
theorem oq (p q : Rat) : Rat.divInt (q.num * p.den) (p.den * q.den) = q := by
 rw [Int.mul_comm (p.den : Int), Rat.divInt_mul_right (B9 p), Rat.num_divInt_den]
theorem rD (a : Pt) : Rat.divInt (pX a) (pL a) = a.1 := by
 rw [Rat.divInt_eq_div, M4, Rat.mul_div_cancel (cH a)]
theorem sm (a : Pt) : Rat.divInt (pY a) (pL a) = a.2 := by
 rw [Rat.divInt_eq_div, L4, Rat.mul_div_cancel (cH a)]
end T
namespace DL
noncomputable def w5 (x y : Rat) : Prop := 0 < x ∨ (x = 0 ∧ 0 < y)
theorem ij (a b : Pt) : F1 a b = true ↔ w5 (b.1 - a.1) (b.2 - a.2) := by
 unfold F1 w5
 rw [Bool.or_eq_true, Bool.and_eq_true, decide_eq_true_iff, decide_eq_true_iff, decide_eq_true_iff]
 constructor
 ·rintro (h | ⟨h1, h2⟩)
  ·left; grind
  ·right; constructor <;> grind
 ·rintro (h | ⟨h1, h2⟩)
  ·left; grind
  ·right; constructor <;> grind
theorem oY (x y : Rat) (h : ¬ (x = 0 ∧ y = 0)) : w5 x y ∨ w5 (-x) (-y) := by
 unfold w5
 grind
theorem uy (x y : Rat) (h : w5 x y) : ¬ w5 (-x) (-y) := by
 unfold w5 at *
 grind
theorem gD {x y s : Rat} (hs : 0 < s) : w5 (s * x) (s * y) ↔ w5 x y := by
 unfold w5
 have h1 : 0 < s * x ↔ 0 < x := Rat.mul_pos_iff_of_pos_left hs
 have h2 : 0 < s * y ↔ 0 < y := Rat.mul_pos_iff_of_pos_left hs
 have h3 : s * x = 0 ↔ x = 0 := by
  rw [Rat.mul_eq_zero]
  constructor
  ·rintro (h | h)
   ·rw [h] at hs; exact absurd hs Rat.lt_irrefl
   ·exact h
  ·exact fun h => .inr h
 rw [h1, h2, h3]
theorem gv : ¬ w5 0 0 := by unfold w5; grind
theorem fZ {x y : Rat} (h : w5 x y) (s : Rat) : w5 (s * x) (s * y) ↔ 0 < s := by
 constructor
 ·intro q
  rcases Rat.le_total (a := s) (b := 0) with z | z
  ·rcases (Rat.le_iff_lt_or_eq).mp z with z | z
   ·have : w5 (-s * x) (-s * y) := (gD (by grind)).mpr h
    rw [Rat.neg_mul, Rat.neg_mul] at this
    exact absurd this (uy _ _ q)
   ·rw [z, Rat.zero_mul, Rat.zero_mul] at q; exact absurd q gv
  ·rcases (Rat.le_iff_lt_or_eq).mp z with z | z
   ·exact z
   ·rw [← z, Rat.zero_mul, Rat.zero_mul] at q; exact absurd q gv
 ·intro hs; exact (gD hs).mpr h
noncomputable def G7 (a b : Pt) (s : Rat) : Pt := (a.1 + s * (b.1 - a.1), a.2 + s * (b.2 - a.2))
theorem mP {a b c : Pt} (hab : a ≠ b) (h : C0 a b c = 0) : ∃ s, c = G7 a b s := by
 unfold C0 at h
 by_cases h1 : b.1 - a.1 = 0
 ·have h2 : b.2 - a.2 ≠ 0 := fun z => hab (Prod.ext (by grind) (by grind))
  refine ⟨(c.2 - a.2) / (b.2 - a.2), ?_⟩
  unfold G7
  refine Prod.ext ?_ ?_
  ·show c.1 = _
   have : (b.2 - a.2) * (c.1 - a.1) = 0 := by grind
   rcases Rat.mul_eq_zero.mp this with z | z
   ·exact absurd z h2
   ·grind
  ·show c.2 = _
   grind
 ·refine ⟨(c.1 - a.1) / (b.1 - a.1), ?_⟩
  unfold G7
  refine Prod.ext ?_ ?_
  ·show c.1 = _
   grind
  ·show c.2 = _
   have e : (b.1 - a.1) * (c.2 - a.2) = (b.2 - a.2) * (c.1 - a.1) := by grind
   have : c.2 - a.2 = (c.1 - a.1) / (b.1 - a.1) * (b.2 - a.2) := by grind
   grind
noncomputable def aw (a b : Pt) : Rat := (a.1 - b.1) * (a.1 - b.1) + (a.2 - b.2) * (a.2 - b.2)
theorem dN (x : Rat) : 0 ≤ x * x := by
 rcases Rat.le_total (a := 0) (b := x) with h | h
 ·exact Rat.mul_nonneg h h
 ·have := Rat.mul_nonneg (a := -x) (b := -x) (by grind) (by grind)
  grind
theorem iL {x : Rat} (h : x ≠ 0) : 0 < x * x := Rat.lt_of_le_of_ne (dN x) (fun z => h (by
 rcases Rat.mul_eq_zero.mp z.symm with q | q <;> exact q))
theorem sD {a b : Pt} (hab : a ≠ b) : 0 < aw a b := by
 unfold aw
 by_cases h1 : a.1 - b.1 = 0
 ·have h2 : a.2 - b.2 ≠ 0 := fun z => hab (Prod.ext (by grind) (by grind))
  have := iL h2
  have := dN (a.1 - b.1)
  grind
 ·have := iL h1
  have := dN (a.2 - b.2)
  grind
end DL
namespace T
open PySem L2 DL
theorem kP (n : Int) (fs : Option FS) : Q2 [.int n] fs = some (.int (U6 n), fs) := by
 refine n4 (s := ⟨[.val (.int n)], fs⟩) ?_
 show S5 ⟨[.val (.int n)], fs⟩ = _
 unfold U6
 by_cases h1 : 0 < n
 ·simp [S5, c7, v7, e8, a5, i0, dC, dL, dV, c8, i9, dB, i6, c6, a0, a6, i4, j9, i8, one, k7, l5, o7, o5, u6, p8, u5, y8, A0, a9, l7, t6, j8, j3, j7, o9, l4, p7, u3, m6, A5, h1]
 ·by_cases h2 : n < 0
  ·simp [S5, c7, v7, e8, a5, i0, dC, dL, dV, c8, i9, dB, i6, c6, a0, a6, i4, j9, i8, one, k7, l5, o7, o5, u6, p8, u5, y8, A0, a9, l7, t6, j8, j3, j7, o9, l4, p7, u3, m6, A5, h1, h2]
  ·simp [S5, c7, v7, e8, a5, i0, dC, dL, dV, c8, i9, dB, i6, c6, a0, a6, i4, j9, i8, one, k7, l5, o7, o5, u6, p8, u5, y8, A0, a9, l7, t6, j8, j3, j7, o9, l4, p7, u3, m6, A5, h1, h2]
noncomputable abbrev bR : a7 := Z9 Q2
theorem nI {a b c : Rat} (ha : 0 < a) (hb : 0 < b) (hc : 0 < c) : 0 < a * b * c := Rat.mul_pos (Rat.mul_pos ha hb) hc
theorem ow (a b c : Pt) : U6 (pX a * (pY b * pL c - pY c * pL b) - pY a * (pX b * pL c - pX c * pL b) + pL a * (pX b * pY c - pX c * pY b)) = L5 (C0 a b c) := by
 refine qh (nI (E2 a) (E2 b) (E2 c)) ?_
 simp only [Rat.intCast_add, Rat.intCast_sub, Rat.intCast_mul, M4, L4, C0]
 grind
theorem lO {k : Nat} (a b c : Pt) (fs : Option FS) (ha : Ps k a) (hb : Ps k b) (hc : Ps k c) (hk : k ≤ 2000) : bR [pt a, pt b, pt c] fs = some (.int (L5 (C0 a b c)), fs) := by
 have a1 := ha.x.bits (by omega)
 have a2 := ha.y.bits (by omega)
 have a3 := ha.l.bits (by omega)
 have b1 := hb.x.bits (by omega)
 have b2 := hb.y.bits (by omega)
 have b3 := hb.l.bits (by omega)
 have c1 := hc.x.bits (by omega)
 have c2 := hc.y.bits (by omega)
 have c3 := hc.l.bits (by omega)
 have d1 := ((hb.y.mul hc.l).sub (hc.y.mul hb.l)).bits (by omega)
 have d2 := ((hb.x.mul hc.l).sub (hc.x.mul hb.l)).bits (by omega)
 have d3 := ((hb.x.mul hc.y).sub (hc.x.mul hb.y)).bits (by omega)
 rw [← ow]
 refine n4 (s := ⟨[.val (pt a), .val (pt b), .val (pt c), .val (.int (pX a * (pY b * pL c - pY c * pL b) - pY a * (pX b * pL c - pX c * pL b) + pL a * (pX b * pY c - pX c * pY b)))], fs⟩) ?_
 show Y7 Q2 ⟨[.val (pt a), .val (pt b), .val (pt c), .no], fs⟩ = _
 unfold Y7
 have x : ∀ p : Pt, a9 (pt p) (.int 0) = some (.int (pX p)) := fun _ => rfl
 have y : ∀ p : Pt, a9 (pt p) (.int 1) = some (.int (pY p)) := fun _ => rfl
 have l : ∀ p : Pt, a9 (pt p) (.int 2) = some (.int (pL p)) := fun _ => rfl
 rw [m8 (s1 := ⟨[.val (pt a), .val (pt b), .val (pt c), .val (.int (pX a * (pY b * pL c - pY c * pL b)))], fs⟩) (A3 (a8 (a8 rfl rfl (x a)) (a8 (a8 (a8 rfl rfl (y b)) (a8 rfl rfl (l c)) (k6 b2 c3)) (a8 (a8 rfl rfl (y c)) (a8 rfl rfl (l b)) (k6 c2 b3)) rfl) (k6 a1 d1)) rfl),
  m8 (s1 := ⟨[.val (pt a), .val (pt b), .val (pt c), .val (.int (pX a * (pY b * pL c - pY c * pL b) - pY a * (pX b * pL c - pX c * pL b)))], fs⟩) (A3 (a8 rfl (a8 (a8 rfl rfl (y a)) (a8 (a8 (a8 rfl rfl (x b)) (a8 rfl rfl (l c)) (k6 b1 c3)) (a8 (a8 rfl rfl (x c)) (a8 rfl rfl (l b)) (k6 c1 b3)) rfl) (k6 a2 d2)) rfl) rfl),
  m8 (s1 := ⟨[.val (pt a), .val (pt b), .val (pt c), .val (.int (pX a * (pY b * pL c - pY c * pL b) - pY a * (pX b * pL c - pX c * pL b) + pL a * (pX b * pY c - pX c * pY b)))], fs⟩) (A3 (a8 rfl (a8 (a8 rfl rfl (l a)) (a8 (a8 (a8 rfl rfl (x b)) (a8 rfl rfl (y c)) (k6 b1 c2)) (a8 (a8 rfl rfl (x c)) (a8 rfl rfl (y b)) (k6 c1 b2)) rfl) (k6 a3 d3)) rfl) rfl)]
 exact u9 (o6 (i3 rfl rfl) (kP _ fs))
theorem fv {x y : Int} {p q c : Rat} (hc : 0 < c) (hx : (x : Rat) = c * p) (hy : (y : Rat) = c * q) : (x < y ↔ p < q) ∧ (x = y ↔ p = q) := by
 constructor
 ·rw [← Rat.intCast_lt_intCast, hx, hy]; exact Rat.mul_lt_mul_left hc
 ·rw [← Rat.intCast_inj, hx, hy]
  constructor
  ·intro h; have : c ≠ 0 := fun z => by rw [z] at hc; exact absurd hc Rat.lt_irrefl
   grind
  ·intro h; rw [h]
theorem rj (a b : Pt) : (pX a * pL b < pX b * pL a ↔ a.1 < b.1) ∧ (pX a * pL b = pX b * pL a ↔ a.1 = b.1) :=
 fv (Rat.mul_pos (E2 a) (E2 b)) (by rw [Rat.intCast_mul, M4]; grind) (by rw [Rat.intCast_mul, M4]; grind)
theorem oy (a b : Pt) : (pY a * pL b < pY b * pL a ↔ a.2 < b.2) ∧ (pY a * pL b = pY b * pL a ↔ a.2 = b.2) :=
 fv (Rat.mul_pos (E2 a) (E2 b)) (by rw [Rat.intCast_mul, L4]; grind) (by rw [Rat.intCast_mul, L4]; grind)
theorem eW {k : Nat} (a b : Pt) (fs : Option FS) (ha : Ps k a) (hb : Ps k b) (hk : k ≤ 2000) : P8 [pt a, pt b] fs = some (.bl (F1 a b), fs) := by
 have a1 := ha.x.bits (by omega)
 have a2 := ha.y.bits (by omega)
 have a3 := ha.l.bits (by omega)
 have b1 := hb.x.bits (by omega)
 have b2 := hb.y.bits (by omega)
 have b3 := hb.l.bits (by omega)
 obtain ⟨x1, x2⟩ := rj a b
 obtain ⟨y1, y2⟩ := oy a b
 refine n4 (s := ⟨[.val (pt a), .val (pt b), .val (.int (pX a * pL b)), .val (.int (pX b * pL a))], fs⟩) ?_
 show U2 ⟨[.val (pt a), .val (pt b), .no, .no], fs⟩ = _
 by_cases h : a.1 = b.1
 ·have h' := x2.mpr h
  have n1 : ¬ a.1 < b.1 := by rw [h]; exact Rat.lt_irrefl
  simp [U2, c7, v7, e8, a5, i0, dC, dL, dV, c8, i9, dB, i6, c6, a0, a6, i4, j9, i8, one, k7, l5, o7, o5, u6, p8, u5, y8, A0, a9, l7, t6, j8, j3, j7, o9, l4, p7, u3, m6, A5, pt, iC, eJ, gA, j5, a1, a2, a3, b1, b2, b3, ik, h', F1, n1, h, y1]
 ·have h' : ¬ pX a * pL b = pX b * pL a := fun z => h (x2.mp z)
  simp [U2, c7, v7, e8, a5, i0, dC, dL, dV, c8, i9, dB, i6, c6, a0, a6, i4, j9, i8, one, k7, l5, o7, o5, u6, p8, u5, y8, A0, a9, l7, t6, j8, j3, j7, o9, l4, p7, u3, m6, A5, pt, iC, eJ, gA, j5, a1, a2, a3, b1, b2, b3, ik, h', F1, h, x1]
end T
namespace DL
open PySem L2
theorem ak {t : D → DS → Option DS} {b : DM} (P : Nat → DS → Prop) : ∀ (ds : List D) (n : Nat) (s : DS), P n s → (∀ i d s, ds[i]? = some d → P (n + i) s → ∃ s1 s2, t d s = some s1 ∧ (b s1 = some (.next, s2) ∨ b s1 = some (.cont, s2)) ∧ P (n + i + 1) s2) →
  ∃ s', A1 t b ds s = some (.next, s') ∧ P (n + ds.length) s'
 | [], n, s, h, _ => ⟨s, rfl, h⟩
 | d :: r, n, s, h, k => by
  obtain ⟨s1, s2, e1, e2, h2⟩ := k 0 d s rfl h
  obtain ⟨s', e3, h3⟩ := ak P r (n + 1) s2 h2 (fun i d' s hd hp => by
   have := k (i + 1) d' s (by simpa using hd) (by rwa [show n + 1 + i = n + (i + 1) by omega] at hp)
   rwa [show n + (i + 1) + 1 = n + 1 + i + 1 by omega] at this)
  refine ⟨s', ?_, by rw [List.length_cons, show n + (r.length + 1) = n + 1 + r.length by omega]; exact h3⟩
  rw [A1, e1]
  rcases e2 with e2 | e2 <;> simp [e2, e3]
theorem ni {f : DA} {t : D → DS → Option DS} {b : DM} {s s1 : DS} {xs ds : List D} (h1 : f s = some (xs, s1)) (h2 : O6 xs = some ds) : O9 f t b s = A1 t b ds s1 := by
 simp only [O9, h1, Option.bind_some, h2]
theorem iy {lo : Int} {n i : Nat} {d : D} (h : (B5 lo n)[i]? = some d) : d = .int (lo + i) ∧ i < n := by
 have hi : i < n := by have := (List.getElem?_eq_some_iff.mp h).1; rwa [V3] at this
 rw [cS hi] at h
 cases h
 exact ⟨rfl, hi⟩
theorem eA {n : Nat} (h : n < 2 ^ 30) : O6 [.int (n : Int)] = some (B5 0 n) := by
 have : -(2 ^ 62) ≤ (n : Int) ∧ (n : Int) < 2 ^ 62 := by omega
 simp only [O6, if_pos this, Int.toNat_natCast]
end DL
namespace T
open PySem L2 DL
theorem pG {k : Nat} {i : Int} (h : i.natAbs < 2 ^ k) : Bd k i := h
structure PtS (k : Nat) (a : Pt) : Prop where
 x : Sz k a.1
 y : Sz k a.2
theorem PtS.ps {k : Nat} {a : Pt} (h : PtS k a) : Ps (k + k) a := Ps.of h.x h.y
theorem PtS.mono {k l : Nat} {a : Pt} (h : PtS k a) (hl : k ≤ l) : PtS l a := ⟨h.x.mono hl, h.y.mono hl⟩
noncomputable abbrev nT : DT := dB (a5 (j3 (fun i j => decide (i < j))) (dL 2) (dL 1))
end T
namespace DL
open PySem L2
structure Ok (k n : Nat) (d : D) : Prop where
 pl : d.plain = true
 sh : d.py.showable = true
 la : d.py.canLay0 = true
 dp : d.py.depth ≤ k
 le : d.py.leavesShort 1921 = true
 bu : d.py.bulk ≤ n
structure OkL (k n : Nat) (ds : List D) : Prop where
 pl : D.plains ds = true
 sh : PyData.showableAll (D.pys ds) = true
 la : PyData.canLayAll0 (D.pys ds) = true
 dp : PyData.depthAll (D.pys ds) ≤ k
 le : PyData.leavesShortAll 1921 (D.pys ds) = true
 bu : PyData.bulkAll (D.pys ds) ≤ n
theorem OkL.mono {k n k' n' : Nat} {ds : List D} (h : OkL k n ds) (hk : k ≤ k') (hn : n ≤ n') : OkL k' n' ds := ⟨h.pl, h.sh, h.la, Nat.le_trans h.dp hk, h.le, Nat.le_trans h.bu hn⟩
theorem Ok.bl (b : Bool) : Ok 0 0 (.bl b) := ⟨rfl, rfl, rfl, Nat.le_refl _, rfl, Nat.le_refl _⟩
theorem Ok.int {i : Int} (h : Bd 1920 i) : Ok 0 0 (.int i) := by
 have hl : i.natAbs.log2 < 1920 := V9 (by decide) h
 refine ⟨rfl, ?_, rfl, Nat.le_refl _, ?_, Nat.le_refl _⟩
 ·simp only [D.py, PyData.showable]; exact decide_eq_true hl
 ·simp only [D.py, PyData.leavesShort, PyData.shown]
  exact decide_eq_true (ug hl)
theorem Ok.str {x : Str} (h : PyData.strOk x = true) : Ok 0 x.length (.str x) := by
 refine ⟨rfl, rfl, ?_, Nat.le_refl _, ?_, Nat.le_refl _⟩
 ·simp only [D.py, PyData.canLay0]; exact h
 ·exact PyData.leavesShort_of_canLay0 1921 (.str x) (by simp only [PyData.canLay0]; exact h) rfl
theorem OkL.nil : OkL 0 0 [] := ⟨rfl, rfl, rfl, Nat.le_refl _, rfl, Nat.le_refl _⟩
theorem OkL.cons {k l n m : Nat} {d : D} {ds : List D} (h : Ok k n d) (hs : OkL l m ds) : OkL (max k l) (n + 1 + m) (d :: ds) := by
 refine ⟨?_, ?_, ?_, ?_, ?_, ?_⟩
 ·simp only [D.plains, h.pl, hs.pl, Bool.and_self]
 ·simp only [D.pys, PyData.showableAll, h.sh, hs.sh, Bool.and_self]
 ·simp only [D.pys, PyData.canLayAll0, h.la, hs.la, Bool.and_self]
 ·have := h.dp; have := hs.dp; simp only [D.pys, PyData.depthAll]; omega
 ·simp only [D.pys, PyData.leavesShortAll, h.le, hs.le, Bool.and_self]
 ·have := h.bu; have := hs.bu; simp only [D.pys, PyData.bulkAll]; omega
theorem Ok.tup {k n : Nat} {ds : List D} (h : OkL k n ds) : Ok (k + 1) n (.tup ds) := by
 refine ⟨?_, ?_, ?_, ?_, ?_, ?_⟩
 ·simp only [D.plain, h.pl]
 ·simp only [D.py, PyData.showable, h.sh]
 ·simp only [D.py, PyData.canLay0, h.la]
 ·have := h.dp; simp only [D.py, PyData.depth]; omega
 ·simp only [D.py, PyData.leavesShort, h.le]
 ·have := h.bu; simp only [D.py, PyData.bulk]; omega
theorem OkL.all {k n : Nat} : ∀ {ds : List D}, (∀ d ∈ ds, Ok k n d) → OkL k (ds.length * (n + 1)) ds
 | [], _ => OkL.nil.mono (by omega) (by omega)
 | d :: r, h => by
  have := (OkL.cons (h d (List.mem_cons_self ..)) (OkL.all (ds := r) fun x hx => h x (List.mem_cons_of_mem _ hx)))
  refine this.mono (by omega) ?_
  rw [List.length_cons, Nat.add_mul, Nat.one_mul]; omega
theorem Ok.show {k n : Nat} {d : D} (h : Ok k n d) (hk : k ≤ 64 := by decide) (hn : n ≤ 8000 := by decide) : E5 d = true := by
 have e := PyData.shown_le_bulk 1921 (by decide) d.py h.le
 have e2 : (1921 + 2) * d.py.bulk ≤ 1923 * 8000 := Nat.mul_le_mul (by decide) (Nat.le_trans h.bu hn)
 have : d.py.shown.length ≤ sizeLine := by rw [sizeLine_eq]; omega
 simp only [E5, h.pl, h.sh, h.la, Bool.true_and, Bool.and_true, decide_eq_true this, decide_eq_true (Nat.le_trans h.dp hk)]
theorem Ok.eq {k n : Nat} {d : D} (h : Ok k n d) (hk : k ≤ 64 := by decide) : p9 d = true := by
 simp only [p9, h.pl, SeqAt.shaped, h.la, Bool.true_and, decide_eq_true (Nat.le_trans h.dp hk)]
theorem Ok.pt {k : Nat} {a : Pt} (h : Ps k a) (hk : k ≤ 1920 := by decide) : Ok 1 3 (pt a) := Ok.tup ((OkL.cons (Ok.int (h.x.mono hk)) (OkL.cons (Ok.int (h.y.mono hk)) (OkL.cons (Ok.int (h.l.mono hk)) OkL.nil))))
theorem x8 (ds : List D) (i : Int) : a9 (.tup ds) (.int i) = k9 ds i := rfl
theorem cB (ds : List D) (i : Int) : a9 (.lst ds) (.int i) = k9 ds i := rfl
theorem M6 (p : Rat) : a9 (DL.fr p) (.int 0) = some (.int p.num) := rfl
theorem B7 (p : Rat) : a9 (DL.fr p) (.int 1) = some (.int p.den) := rfl
theorem P5 (a : Pt) : a9 (DL.pt a) (.int 0) = some (.int (pX a)) := rfl
theorem N6 (a : Pt) : a9 (DL.pt a) (.int 1) = some (.int (pY a)) := rfl
theorem D0 (a : Pt) : a9 (DL.pt a) (.int 2) = some (.int (pL a)) := rfl
theorem kK {a b : Pt} (h1 : pX a = pX b) (h2 : pY a = pY b) (h3 : pL a = pL b) : a = b := by
 have e1 := M4 a; have e2 := M4 b; have e3 := L4 a; have e4 := L4 b
 have n := cH b
 rw [h1, h3] at e1; rw [h2, h3] at e3
 exact Prod.ext (by grind) (by grind)
theorem X8 {k l : Nat} {a b : Pt} (ha : Ps k a) (hb : Ps l b) (hk : k ≤ 1920 := by decide) (hl : l ≤ 1920 := by decide) : w8 (pt a) (pt b) = some (.bl (!decide (a = b))) := by
 have o1 := (Ok.pt ha hk).eq
 have o2 := (Ok.pt hb hl).eq
 unfold pt at *
 simp only [w8, o1, o2, Bool.and_self, if_true, D.py, D.pys, PyData.eqv, PyData.eqvAll, Bool.beq_eq_decide_eq, Bool.and_true]
 congr 3
 rw [Bool.eq_iff_iff]
 simp only [Bool.and_eq_true, decide_eq_true_iff]
 constructor
 ·rintro ⟨h1, h2, h3⟩; exact kK h1 h2 h3
 ·rintro rfl; exact ⟨rfl, rfl, rfl⟩
noncomputable def C4 (a b c : Pt) : Bool := decide (C0 a b c = 0) && (F1 a b == F1 b c)
noncomputable def lo (c : Bool) : Nat := if c then 3 else 2
noncomputable def hi (c : Bool) : Nat := if c then 8 else 9
theorem kG (r : Rat) : (L5 r = 0) ↔ r = 0 := by
 unfold L5
 constructor
 ·intro h
  split at h
  ·cases h
  ·split at h
   ·cases h
   ·grind
 ·intro h
  subst h
  simp
end DL
namespace T
open PySem L2 DL
noncomputable abbrev V1 : a7 := ax P8 bR
theorem sS (x y : Bool) : B3 (.bl x) (.bl y) = some (.bl (x == y)) := by cases x <;> cases y <;> rfl
theorem oj {k : Nat} (a b c : Pt) (fs : Option FS) (ha : Ps k a) (hb : Ps k b) (hc : Ps k c) (hk : k ≤ 1920) : V1 [pt a, pt b, pt c] fs = some (.bl (C4 a b c), fs) := by
 refine n4 (s := ⟨[.val (pt a), .val (pt b), .val (pt c)], fs⟩) ?_
 show U0 P8 bR ⟨[.val (pt a), .val (pt b), .val (pt c)], fs⟩ = _
 have e1 := lO a b c fs ha hb hc (by omega)
 have e2 := eW a b fs ha hb (by omega)
 have e3 := eW b c fs hb hc (by omega)
 have z := kG (C0 a b c)
 by_cases h : C0 a b c = 0
 ·have z0 : L5 (C0 a b c) = 0 := z.mpr h
  rw [z0] at e1
  simp [U0, c7, v7, e8, a5, i0, dC, dL, dV, c8, i9, dB, i6, c6, a0, a6, i4, j9, i8, one, k7, l5, o7, o5, u6, p8, u5, y8, A0, l7, t6, j8, j3, j7, o9, l4, p7, u3, m6, A5, x8, cB, M6, B7, P5, N6, D0, e1, e2, e3, P4, sS, C4, h]
 ·have z0 : ¬ L5 (C0 a b c) = 0 := fun e => h (z.mp e)
  simp [U0, c7, v7, e8, a5, i0, dC, dL, dV, c8, i9, dB, i6, c6, a0, a6, i4, j9, i8, one, k7, l5, o7, o5, u6, p8, u5, y8, A0, l7, t6, j8, j3, j7, o9, l4, p7, u3, m6, A5, x8, cB, M6, B7, P5, N6, D0, e1, P4, C4, h, z0]
end T
namespace DL
open PySem L2
noncomputable def y7 (a b : Pt) : Int × Int := (pX b * pL a - pX a * pL b, pY b * pL a - pY a * pL b)
noncomputable def bB (u v : Int × Int) : Bool := decide (u.1 * v.2 = u.2 * v.1) && decide (0 < u.1 * v.1 + u.2 * v.2)
theorem fW (a b : Pt) : ((y7 a b).1 : Rat) = ((pL a : Rat) * (pL b : Rat)) * (b.1 - a.1) ∧ ((y7 a b).2 : Rat) = ((pL a : Rat) * (pL b : Rat)) * (b.2 - a.2) := by
 unfold y7
 constructor
 ·simp only [Rat.intCast_sub, Rat.intCast_mul, M4]; grind
 ·simp only [Rat.intCast_sub, Rat.intCast_mul, L4]; grind
theorem kr {a b c : Pt} (hab : a ≠ b) (hbc : b ≠ c) : C4 a b c = bB (y7 a b) (y7 b c) := by
 obtain ⟨e1, e2⟩ := fW a b
 obtain ⟨f1, f2⟩ := fW b c
 have hp := Rat.mul_pos (E2 a) (E2 b)
 have hq := Rat.mul_pos (E2 b) (E2 c)
 generalize (pL a : Rat) * (pL b : Rat) = p at *
 generalize (pL b : Rat) * (pL c : Rat) = q at *
 have hpq := Rat.mul_pos hp hq
 have c1 : ((y7 a b).1 * (y7 b c).2 = (y7 a b).2 * (y7 b c).1) ↔ C0 a b c = 0 := by
  rw [← Rat.intCast_inj, Rat.intCast_mul, Rat.intCast_mul, e1, e2, f1, f2]
  unfold C0
  constructor
  ·intro h
   have : (p * q) * ((b.1 - a.1) * (c.2 - b.2) - (b.2 - a.2) * (c.1 - b.1)) = 0 := by grind
   rcases Rat.mul_eq_zero.mp this with z | z
   ·grind
   ·grind
  ·intro h; grind
 have c2 : (0 < (y7 a b).1 * (y7 b c).1 + (y7 a b).2 * (y7 b c).2) ↔ 0 < (b.1 - a.1) * (c.1 - b.1) + (b.2 - a.2) * (c.2 - b.2) := by
  rw [← Rat.intCast_pos, Rat.intCast_add, Rat.intCast_mul, Rat.intCast_mul, e1, e2, f1, f2]
  have : p * (b.1 - a.1) * (q * (c.1 - b.1)) + p * (b.2 - a.2) * (q * (c.2 - b.2)) = (p * q) * ((b.1 - a.1) * (c.1 - b.1) + (b.2 - a.2) * (c.2 - b.2)) := by grind
  rw [this]
  constructor
  ·intro h
   exact (Rat.mul_pos_iff_of_pos_left hpq).mp h
  ·intro h; exact Rat.mul_pos hpq h
 unfold C4 bB
 by_cases hc : C0 a b c = 0
 ·simp only [hc, decide_true, Bool.true_and, c1.mpr hc]
  rw [Bool.eq_iff_iff, beq_iff_eq, decide_eq_true_iff, c2]
  obtain ⟨s, rfl⟩ := mP hab hc
  have k1 : (G7 a b s).1 - b.1 = (s - 1) * (b.1 - a.1) := by unfold G7; grind
  have k2 : (G7 a b s).2 - b.2 = (s - 1) * (b.2 - a.2) := by unfold G7; grind
  have l1 := ij a b
  have l2 := ij b (G7 a b s)
  rw [k1, k2] at l2 ⊢
  have nz : ¬ (b.1 - a.1 = 0 ∧ b.2 - a.2 = 0) := fun z => hab (Prod.ext (by grind) (by grind))
  have tz : s - 1 ≠ 0 := fun z => hbc (Prod.ext (by rw [z] at k1; grind) (by rw [z] at k2; grind))
  have dp := sD hab
  have dd : (b.1 - a.1) * ((s - 1) * (b.1 - a.1)) + (b.2 - a.2) * ((s - 1) * (b.2 - a.2)) = aw a b * (s - 1) := by unfold aw; grind
  rw [dd, Rat.mul_pos_iff_of_pos_left dp]
  generalize b.1 - a.1 = x at *
  generalize b.2 - a.2 = y at *
  generalize s - 1 = t at *
  by_cases hx : w5 x y
  ·rw [l1.mpr hx, ← fZ hx t, ← l2]
   exact ⟨fun h => h.symm, fun h => h.symm⟩
  ·have e1 : F1 a b = false := by
    cases h : F1 a b
    ·rfl
    ·exact absurd (l1.mp h) hx
   have hn : w5 (-x) (-y) := (oY x y nz).resolve_left hx
   have l3 : w5 (t * x) (t * y) ↔ 0 < -t := by
    have := fZ hn (-t)
    rwa [show -t * -x = t * x by grind, show -t * -y = t * y by grind] at this
   rw [e1]
   constructor
   ·intro h
    have : ¬ 0 < -t := fun z => by have := l2.mpr (l3.mpr z); rw [← h] at this; cases this
    grind
   ·intro h
    cases h2 : F1 b (G7 a b s)
    ·rfl
    ·have := l3.mp (l2.mp h2)
     grind
 ·have : ¬ ((y7 a b).1 * (y7 b c).2 = (y7 a b).2 * (y7 b c).1) := fun z => hc (c1.mp z)
  simp [hc, this]
theorem T2 {α : Type} {xs : List α} {i : Nat} {x : α} (h : xs[i]? = some x) : k9 xs (i : Int) = some x := by
 have hi := (List.getElem?_eq_some_iff.mp h).1
 rw [cJ (by omega) (by omega)]
 simpa using h
theorem il {α : Type} {xs : List α} {x : α} (h : xs[xs.length - 1]? = some x) : k9 xs (-1) = some x := by
 have hi := (List.getElem?_eq_some_iff.mp h).1
 unfold k9 E1
 rw [if_neg (by omega), if_pos (by omega)]
 show xs[_]? = _
 rw [show ((-1 : Int) + xs.length).toNat = xs.length - 1 by omega]
 exact h
theorem ir (f : FS) (h : f.kind = 1) : f.tget 0 = some (.lst (f.cells.map .int)) := by unfold FS.tget; rw [if_neg (by omega), if_pos rfl]
end DL
namespace T
open PySem L2 DL
theorem P6 {a b : Int} (h : b ≠ 0) : v8 (.int a) (.int b) = some (.int (a.fmod b)) := if_pos h
theorem bO {a b : Int} (h : A8 b = true) : A6 (.int a) (.int b) = some (.int (a.fdiv b)) := if_pos h
theorem jd {i : Nat} {k n : Int} {f : DE} {s s1 : DS} {z : Fl × DS} (h : f s = some (.int n, s1)) (h2 : K4 i k (fun _ => some (.int n, s1)) s = some z) : K4 i k f s = some z := by
 rw [← h2]
 unfold K4
 rw [h]
noncomputable abbrev u7 : a7 := N2
set_option maxHeartbeats 4000000 in
theorem pP (f : FS) (many : Int) (hm : 0 < many) (hm2 : many < 2 ^ 100) (ht : 0 ≤ f.pos) (ht2 : f.pos < 2 ^ 40) (hk : f.kind = 1) :
  ∃ r f', u7 [.feed, .int many] (some f) = some (.int r, some f') ∧ 0 ≤ r ∧ r < many ∧ f.pos ≤ f'.pos ∧ f'.pos ≤ f.pos + 1 ∧ f'.kind = 1 := by
 have dm : A8 many = true := sZ (by omega) (by omega)
 have hne : many ≠ 0 := by omega
 obtain ⟨cs, ps, lf, tn, kd⟩ := f
 simp only at ht ht2 hk ⊢
 subst hk
 by_cases hl : 0 < lf
 ·refine ⟨lf.fmod many, ⟨cs, ps, lf.fdiv many, tn, 1⟩, n4 (s := ⟨[.val .feed, .val (.int many), .val (.int (lf.fmod many)), .no, .no, .no], some ⟨cs, ps, lf.fdiv many, tn, 1⟩⟩) ?_, (F2 hm).1, (F2 hm).2, Int.le_refl _, Int.le_of_lt (Int.lt_succ _), rfl⟩
  have t0 : dB (a5 (j3 (fun i j => decide (j < i))) (n9 0 2) (dC (.int 0))) ⟨[.val .feed, .val (.int many), .no, .no, .no, .no], some ⟨cs, ps, lf, tn, 1⟩⟩ = some (true, ⟨[.val .feed, .val (.int many), .no, .no, .no, .no], some ⟨cs, ps, lf, tn, 1⟩⟩) := C7 (a8 rfl rfl (show some (D.bl (decide (0 < lf))) = _ by rw [decide_eq_true hl]))
  have e1 : a5 v8 (n9 0 2) (dL 1) ⟨[.val .feed, .val (.int many), .no, .no, .no, .no], some ⟨cs, ps, lf, tn, 1⟩⟩ = some (.int (lf.fmod many), ⟨[.val .feed, .val (.int many), .no, .no, .no, .no], some ⟨cs, ps, lf, tn, 1⟩⟩) := a8 rfl rfl (P6 hne)
  have e2 : a5 A6 (n9 0 2) (dL 1) ⟨[.val .feed, .val (.int many), .val (.int (lf.fmod many)), .no, .no, .no], some ⟨cs, ps, lf, tn, 1⟩⟩ = some (.int (lf.fdiv many), ⟨[.val .feed, .val (.int many), .val (.int (lf.fmod many)), .no, .no, .no], some ⟨cs, ps, lf, tn, 1⟩⟩) := a8 rfl rfl (bO dm)
  show M3 ⟨[.val .feed, .val (.int many), .no, .no, .no, .no], some ⟨cs, ps, lf, tn, 1⟩⟩ = _
  unfold M3
  refine dY ?_
  rw [R7 t0, m8 (s1 := ⟨[.val .feed, .val (.int many), .val (.int (lf.fmod many)), .no, .no, .no], some ⟨cs, ps, lf, tn, 1⟩⟩) (A3 e1 rfl), m8 (s1 := ⟨[.val .feed, .val (.int many), .val (.int (lf.fmod many)), .no, .no, .no], some ⟨cs, ps, lf.fdiv many, tn, 1⟩⟩) (jd e2 rfl)]
  exact u9 rfl
 ·have cell : ∃ c : Int, ∀ a b : Sl, i9 (dB (a5 (j3 (fun i j => decide (j < i))) (i8 (one j7) (a0 (n9 0 0) a6)) (dC (.int 0)))) (e8 (a5 a9 (n9 0 0) (a5 v8 (dL 3) (i8 (one j7) (a0 (n9 0 0) a6)))) (c8 4)) j9 ⟨[.val .feed, a, .no, .val (.int ps), .val (.int 0), b], some ⟨cs, ps + 1, lf, tn, 1⟩⟩ =
    some (.next, ⟨[.val .feed, a, .no, .val (.int ps), .val (.int c), b], some ⟨cs, ps + 1, lf, tn, 1⟩⟩) := by
   by_cases hc : 0 < cs.length
   ·have hi := F2 (a := ps) (b := (cs.length : Int)) (by omega)
    obtain ⟨c, hg⟩ : ∃ c : Int, k9 (cs.map D.int) (ps.fmod (cs.length : Int)) = some (.int c) := by
     have : (ps.fmod (cs.length : Int)).toNat < cs.length := by omega
     refine ⟨cs[(ps.fmod (cs.length : Int)).toNat], ?_⟩
     rw [cJ hi.1 (by rw [List.length_map]; exact hi.2), List.getElem?_map, List.getElem?_eq_getElem this]
     rfl
    refine ⟨c, fun a b => ?_⟩
    have hn : cs ≠ [] := by intro z; rw [z] at hc; simp at hc
    simp [i9, e8, c8, dB, a5, i8, one, j7, a0, a6, dL, dC, j3, n9, ir, v8, a9, hn, hc, hg]
   ·refine ⟨0, fun a b => ?_⟩
    have hz : cs = [] := List.eq_nil_of_length_eq_zero (by omega)
    subst hz
    simp [i9, j9, dB, a5, i8, one, j7, a0, a6, dL, dC, j3, n9, ir]
  obtain ⟨c, hcell⟩ := cell
  have hc1 := F2 (a := c) (b := 1000033) (by decide)
  have t0 : dB (a5 (j3 (fun i j => decide (j < i))) (n9 0 2) (dC (.int 0))) ⟨[.val .feed, .val (.int many), .no, .no, .no, .no], some ⟨cs, ps, lf, tn, 1⟩⟩ = some (false, ⟨[.val .feed, .val (.int many), .no, .no, .no, .no], some ⟨cs, ps, lf, tn, 1⟩⟩) := C7 (a8 rfl rfl (show some (D.bl (decide (0 < lf))) = _ by rw [decide_eq_false hl]))
  have pre : ∀ rest : DM, c7 (i9 (dB (a5 (j3 (fun i j => decide (j < i))) (n9 0 2) (dC (.int 0)))) (c7 (e8 (a5 v8 (n9 0 2) (dL 1)) (c8 2)) (c7 (K4 0 2 (a5 A6 (n9 0 2) (dL 1))) (i6 (dV 2)))) j9) (c7 (e8 (n9 0 1) (c8 3)) (c7 (K4 0 1 (a5 l7 (dL 3) (dC (.int 1)))) (c7 (e8 (dC (.int 0)) (c8 4)) (c7 (i9 (dB (a5 (j3 (fun i j => decide (j < i))) (i8 (one j7) (a0 (n9 0 0) a6)) (dC (.int 0)))) (e8 (a5 a9 (n9 0 0) (a5 v8 (dL 3) (i8 (one j7) (a0 (n9 0 0) a6)))) (c8 4)) j9) rest))))
    ⟨[.val .feed, .val (.int many), .no, .no, .no, .no], some ⟨cs, ps, lf, tn, 1⟩⟩ = rest ⟨[.val .feed, .val (.int many), .no, .val (.int ps), .val (.int c), .no], some ⟨cs, ps + 1, lf, tn, 1⟩⟩ := fun rest => by
   rw [m8 (s1 := ⟨[.val .feed, .val (.int many), .no, .no, .no, .no], some ⟨cs, ps, lf, tn, 1⟩⟩) (dj t0)]
   rw [m8 (s1 := ⟨[.val .feed, .val (.int many), .no, .val (.int ps), .no, .no], some ⟨cs, ps, lf, tn, 1⟩⟩) rfl]
   rw [m8 (s1 := ⟨[.val .feed, .val (.int many), .no, .val (.int ps), .no, .no], some ⟨cs, ps + 1, lf, tn, 1⟩⟩) rfl]
   rw [m8 (s1 := ⟨[.val .feed, .val (.int many), .no, .val (.int ps), .val (.int 0), .no], some ⟨cs, ps + 1, lf, tn, 1⟩⟩) rfl]
   rw [m8 (hcell _ _)]
  have test : o5 (dB (a5 (j3 (fun i j => decide (j ≤ i))) (dL 4) (a5 S4 (dC (.int 10)) (dC (.int 18))))) (dB (a5 (j3 (fun i j => decide (i < j))) (dL 3) (i8 (one j7) (a0 (n9 0 0) a6)))) ⟨[.val .feed, .val (.int many), .no, .val (.int ps), .val (.int c), .no], some ⟨cs, ps + 1, lf, tn, 1⟩⟩ =
    some (decide (1000000000000000000 ≤ c) && decide (ps < (cs.length : Int)), ⟨[.val .feed, .val (.int many), .no, .val (.int ps), .val (.int c), .no], some ⟨cs, ps + 1, lf, tn, 1⟩⟩) := by
   have p18 : S4 (.int 10) (.int 18) = some (.int 1000000000000000000) := by simp [S4]
   have t1 : dB (a5 (j3 (fun i j => decide (j ≤ i))) (dL 4) (a5 S4 (dC (.int 10)) (dC (.int 18)))) ⟨[.val .feed, .val (.int many), .no, .val (.int ps), .val (.int c), .no], some ⟨cs, ps + 1, lf, tn, 1⟩⟩ = some (decide (1000000000000000000 ≤ c), ⟨[.val .feed, .val (.int many), .no, .val (.int ps), .val (.int c), .no], some ⟨cs, ps + 1, lf, tn, 1⟩⟩) := C7 (a8 rfl (a8 rfl rfl p18) rfl)
   have t2 : dB (a5 (j3 (fun i j => decide (i < j))) (dL 3) (i8 (one j7) (a0 (n9 0 0) a6))) ⟨[.val .feed, .val (.int many), .no, .val (.int ps), .val (.int c), .no], some ⟨cs, ps + 1, lf, tn, 1⟩⟩ = some (decide (ps < ((cs.map D.int).length : Int)), ⟨[.val .feed, .val (.int many), .no, .val (.int ps), .val (.int c), .no], some ⟨cs, ps + 1, lf, tn, 1⟩⟩) := C7 (a8 rfl (C8 (p := j7) rfl rfl) rfl)
   rw [List.length_map] at t2
   cases h1 : decide (1000000000000000000 ≤ c) with
   | true =>
    rw [h1] at t1
    exact P7 t1 t2
   | false =>
    rw [h1] at t1
    exact bI t1
  by_cases hb : (decide (1000000000000000000 ≤ c) && decide (ps < (cs.length : Int))) = true
  ·refine ⟨c.fmod many, ⟨cs, ps + 1, c.fdiv many, tn, 1⟩, n4 (s := ⟨[.val .feed, .val (.int many), .no, .val (.int ps), .val (.int c), .no], some ⟨cs, ps + 1, c.fdiv many, tn, 1⟩⟩) ?_, (F2 hm).1, (F2 hm).2, by simp; omega, by simp, rfl⟩
   show M3 ⟨[.val .feed, .val (.int many), .no, .no, .no, .no], some ⟨cs, ps, lf, tn, 1⟩⟩ = _
   unfold M3
   rw [pre]
   rw [hb] at test
   refine dY ?_
   rw [R7 test]
   rw [m8 (s1 := ⟨[.val .feed, .val (.int many), .no, .val (.int ps), .val (.int c), .no], some ⟨cs, ps + 1, c.fdiv many, tn, 1⟩⟩) (jd (a8 (s1 := ⟨[.val .feed, .val (.int many), .no, .val (.int ps), .val (.int c), .no], some ⟨cs, ps + 1, lf, tn, 1⟩⟩) rfl rfl (bO dm)) rfl)]
   exact u9 (a8 rfl rfl (P6 hne))
  ·have hb' : (decide (1000000000000000000 ≤ c) && decide (ps < (cs.length : Int))) = false := by simpa using hb
   have q : ∃ M : Int, e8 (a5 v8 (a5 j5 (a5 l7 (a5 l7 (a5 v8 (dL 4) (dC (.int 1000033))) (a5 j5 (a5 j5 (dC (.int 37)) (dL 3)) (dL 3))) (dC (.int 11))) (dC (.int 69621))) (dC (.int 999983))) (c8 5)
     ⟨[.val .feed, .val (.int many), .no, .val (.int ps), .val (.int c), .no], some ⟨cs, ps + 1, lf, tn, 1⟩⟩ = some (.next, ⟨[.val .feed, .val (.int many), .no, .val (.int ps), .val (.int c), .val (.int M)], some ⟨cs, ps + 1, lf, tn, 1⟩⟩) ∧ 0 ≤ M ∧ M < 999983 := by
    have b1 : n5 37 = true := by decide
    have b2 : n5 ps = true := T3 (by omega)
    have b3 : n5 (37 * ps) = true := T3 (by omega)
    have p2 : 0 ≤ 37 * ps * ps := Int.mul_nonneg (by omega) (by omega)
    have p3 : 37 * ps * ps ≤ 37 * 2 ^ 40 * 2 ^ 40 := Int.mul_le_mul (by omega) (by omega) (by omega) (by decide)
    have b4 : n5 (c.fmod 1000033 + 37 * ps * ps + 11) = true := T3 (by omega)
    have b5 : n5 69621 = true := by decide
    refine ⟨((c.fmod 1000033 + 37 * ps * ps + 11) * 69621).fmod 999983, ?_, F2 (by decide)⟩
    exact A3 (a8 (a8 (a8 (a8 (a8 rfl rfl (P6 (by decide))) (a8 (a8 rfl rfl (k6 b1 b2)) rfl (k6 b3 b2)) rfl) rfl rfl) rfl (k6 b4 b5)) rfl (P6 (by decide))) rfl
   obtain ⟨M, e1, m1, m2⟩ := q
   have b7 : n5 M = true := T3 (by omega)
   have b8 : n5 48271 = true := by decide
   have b9 : n5 6007 = true := by decide
   have b10 : n5 ps = true := T3 (by omega)
   have r1 := F2 (a := M * 48271 + ps * 6007) (b := 999979) (by decide)
   have b11 : n5 ((M * 48271 + ps * 6007).fmod 999979) = true := T3 (by omega)
   have b12 : n5 40692 = true := by decide
   have d64 : A8 64 = true := by decide
   refine ⟨((((M * 48271 + ps * 6007).fmod 999979 * 40692).fmod 1048573).fdiv 64).fmod many, ⟨cs, ps + 1, lf, tn, 1⟩, n4 (s := ⟨[.val .feed, .val (.int many), .no, .val (.int ps), .val (.int c), .val (.int M)], some ⟨cs, ps + 1, lf, tn, 1⟩⟩) ?_, (F2 hm).1, (F2 hm).2, by simp; omega, by simp, rfl⟩
   show M3 ⟨[.val .feed, .val (.int many), .no, .no, .no, .no], some ⟨cs, ps, lf, tn, 1⟩⟩ = _
   unfold M3
   rw [pre]
   rw [hb'] at test
   rw [m8 (by rw [ah test]; rfl)]
   rw [m8 e1]
   exact u9 (a8 (a8 (a8 (a8 (a8 (a8 (a8 rfl rfl (k6 b7 b8)) (a8 rfl rfl (k6 b10 b9)) rfl) rfl (P6 (by decide))) rfl (k6 b11 b12)) rfl (P6 (by decide))) rfl (bO d64)) rfl (P6 hne))
noncomputable def Fd3 (n : Nat) (f : FS) : Prop := 0 ≤ f.pos ∧ f.pos ≤ n ∧ f.kind = 1
theorem Fd3.mono {n m : Nat} {f : FS} (h : Fd3 n f) (hm : n ≤ m) : Fd3 m f := ⟨h.1, by have := h.2.1; omega, h.2.2⟩
theorem D4 {n : Nat} {f : FS} (many : Int) (h : Fd3 n f) (hm : 0 < many := by omega) (hn : n < 2 ^ 30 := by omega) (hm2 : many < 2 ^ 100 := by omega) :
  ∃ r f', u7 [.feed, .int many] (some f) = some (.int r, some f') ∧ 0 ≤ r ∧ r < many ∧ Fd3 (n + 1) f' := by
 obtain ⟨r, f', e, h0, h1, h2, h3, h4⟩ := pP f many hm hm2 h.1 (by have := h.2.1; omega) h.2.2
 exact ⟨r, f', e, h0, h1, by have := h.1; omega, by have := h.2.1; omega, h4⟩
theorem jL (ns : List Int) : O0 [.scr ns] none = some (.feed, some ⟨ns, 0, 0, 0, 1⟩) := by
 refine n4 (s := ⟨[.val (.scr ns)], some ⟨ns, 0, 0, 0, 1⟩⟩) ?_
 show dP ⟨[.val (.scr ns)], none⟩ = _
 simp [dP, i6, ay]
theorem Fd3.zero (ns : List Int) : Fd3 0 ⟨ns, 0, 0, 0, 1⟩ := ⟨by simp, by simp, rfl⟩
noncomputable abbrev qm : DT := dB (a5 (j3 (fun i j => decide (j < i))) (dL 1) (dC (.int 0)))
noncomputable abbrev js : DM := u3 0 1 (a0 (dV 1) (a0 (a5 v8 (dL 0) (dL 1)) a6))
theorem kH (fs : Option FS) (r : Nat) : ∀ (g : Nat), E4 qm js ⟨[.val (.int g), .val (.int r)], fs⟩ = some (.next, ⟨[.val (.int (Nat.gcd g r)), .val (.int 0)], fs⟩) := by
 induction r using Nat.strongRecOn with
 | ind r ih =>
  intro g
  by_cases h : r = 0
  ·subst h
   rw [Nat.gcd_zero_right]
   exact mY (by simp [c7, v7, e8, a5, i0, dC, dL, dV, c8, i9, dB, i6, c6, a0, a6, i4, j9, i8, one, k7, l5, o7, o5, u6, p8, u5, y8, A0, a9, l7, t6, j8, j3, j7, o9, l4, p7, u3, m6, A5])
  ·have e : ((g : Int).fmod (r : Int)) = ((g % r : Nat) : Int) := by rw [Int.fmod_eq_emod_of_nonneg _ (by omega)]; rfl
   have hy := ih (g % r) (Nat.mod_lt _ (by omega)) r
   have hg : Nat.gcd g r = Nat.gcd r (g % r) := by rw [Nat.gcd_comm g r, Nat.gcd_rec, Nat.gcd_comm]
   rw [hg]
   refine tj (s1 := ⟨[.val (.int g), .val (.int r)], fs⟩) (s2 := ⟨[.val (.int r), .val (.int ((g % r : Nat) : Int))], fs⟩) (by simp [c7, v7, e8, a5, i0, dC, dL, dV, c8, i9, dB, i6, c6, a0, a6, i4, j9, i8, one, k7, l5, o7, o5, u6, p8, u5, y8, A0, a9, l7, t6, j8, j3, j7, o9, l4, p7, u3, m6, A5]; omega) ?_ hy
   rw [← e]
   simp [u3, a0, a6, dV, a5, dL, v8, h]
noncomputable abbrev V4 : a7 := B2
theorem br (a b : Int) (fs : Option FS) : V4 [.int a, .int b] fs = some (.int (Int.gcd a b), fs) := by
 have hy := kH fs b.natAbs a.natAbs
 refine n4 (s := ⟨[.val (.int (Nat.gcd a.natAbs b.natAbs)), .val (.int 0)], fs⟩) ?_
 show W6 ⟨[.val (.int a), .val (.int b)], fs⟩ = _
 unfold W6
 rw [m8 (s1 := ⟨[.val (.int a.natAbs), .val (.int b.natAbs)], fs⟩) (by simp [c7, v7, e8, a5, i0, dC, dL, dV, c8, i9, dB, i6, c6, a0, a6, i4, j9, i8, one, k7, l5, o7, o5, u6, p8, u5, y8, A0, a9, l7, t6, j8, j3, j7, o9, l4, p7, u3, m6, A5, Y8, nu])]
 rw [m8 hy]
 refine u9 ?_
 simp [dV, Int.gcd]
noncomputable abbrev P1 : a7 := F0 V4
theorem M9 {k : Nat} (a b : Int) (fs : Option FS) (hb : b ≠ 0) (h : Bd k b) (hk : k ≤ 8000) : P1 [.int a, .int b] fs = some (fr (Rat.divInt a b), fs) := by
 obtain ⟨p0, p1, p2⟩ := tR a b hb
 have dg := iE (a := a) hb h hk
 have e := br a b fs
 refine n4 (s := ⟨[.val (.int a), .val (.int b), .val (.int (if b < 0 then -(Int.gcd a b : Int) else (Int.gcd a b : Int)))], fs⟩) ?_
 show au V4 ⟨[.val (.int a), .val (.int b), .no], fs⟩ = _
 unfold au
 rw [m8 (s1 := ⟨[.val (.int a), .val (.int b), .val (.int (Int.gcd a b))], fs⟩) (by simp [c7, v7, e8, a5, i0, dC, dL, dV, c8, i9, dB, i6, c6, a0, a6, i4, j9, i8, one, k7, l5, o7, o5, u6, p8, u5, y8, A0, a9, l7, t6, j8, j3, j7, o9, l4, p7, u3, m6, A5, e])]
 rw [m8 (s1 := ⟨[.val (.int a), .val (.int b), .val (.int (if b < 0 then -(Int.gcd a b : Int) else (Int.gcd a b : Int)))], fs⟩) (by
  by_cases nb : b < 0
  ·simp [c7, v7, e8, a5, i0, dC, dL, dV, c8, i9, dB, i6, c6, a0, a6, i4, j9, i8, one, k7, l5, o7, o5, u6, p8, u5, y8, A0, a9, l7, t6, j8, j3, j7, o9, l4, p7, u3, m6, A5, nb]
  ·simp [c7, v7, e8, a5, i0, dC, dL, dV, c8, i9, dB, i6, c6, a0, a6, i4, j9, i8, one, k7, l5, o7, o5, u6, p8, u5, y8, A0, a9, l7, t6, j8, j3, j7, o9, l4, p7, u3, m6, A5, nb])]
 generalize hg : (if b < 0 then -(Int.gcd a b : Int) else (Int.gcd a b : Int)) = gg at *
 refine u9 ?_
 unfold fr
 rw [← p1, ← p2]
 simp [c7, v7, e8, a5, i0, dC, dL, dV, c8, i9, dB, i6, c6, a0, a6, i4, j9, i8, one, k7, l5, o7, o5, u6, p8, u5, y8, A0, a9, l7, t6, j8, j3, j7, o9, l4, p7, u3, m6, A5, A6, dg, kY]
noncomputable abbrev F6 : a7 := ae P1
noncomputable abbrev bq : a7 := cP P1
noncomputable abbrev Y3 : a7 := cV P1
noncomputable abbrev K2 : a7 := Y0 P1
noncomputable abbrev D7 : a7 := R0 V4
theorem aD {k l : Nat} (p q : Rat) (fs : Option FS) (h1 : Sz k p) (h2 : Sz l q) (hk : k + l ≤ 8000) : F6 [fr p, fr q] fs = some (fr (p + q), fs) := by
 have b1 := h1.num.bits (by omega)
 have b2 := h1.den.bits (by omega)
 have b3 := h2.num.bits (by omega)
 have b4 := h2.den.bits (by omega)
 have e := M9 (p.num * q.den + q.num * p.den) (p.den * q.den) fs (bf p q) (Bd.mul h1.den h2.den) hk
 rw [← jm] at e
 refine n4 (s := ⟨[.val (fr p), .val (fr q)], fs⟩) ?_
 exact u9 (o6 (i3 (a8 (a8 (a8 rfl rfl (M6 p)) (a8 rfl rfl (B7 q)) (k6 b1 b4)) (a8 (a8 rfl rfl (M6 q)) (a8 rfl rfl (B7 p)) (k6 b3 b2)) rfl) (i3 (a8 (a8 rfl rfl (B7 p)) (a8 rfl rfl (B7 q)) (k6 b2 b4)) rfl)) e)
theorem lR (p q : Rat) : p - q = Rat.divInt (p.num * q.den - q.num * p.den) (p.den * q.den) := by
 have e : p - q = p + -q := Rat.sub_eq_add_neg p q
 rw [e, jm, Rat.neg_num, Rat.neg_den, Int.neg_mul, Int.sub_eq_add_neg]
theorem fL {k l : Nat} (p q : Rat) (fs : Option FS) (h1 : Sz k p) (h2 : Sz l q) (hk : k + l ≤ 8000) : bq [fr p, fr q] fs = some (fr (p - q), fs) := by
 have b1 := h1.num.bits (by omega)
 have b2 := h1.den.bits (by omega)
 have b3 := h2.num.bits (by omega)
 have b4 := h2.den.bits (by omega)
 have e := M9 (p.num * q.den - q.num * p.den) (p.den * q.den) fs (bf p q) (Bd.mul h1.den h2.den) hk
 rw [← lR] at e
 refine n4 (s := ⟨[.val (fr p), .val (fr q)], fs⟩) ?_
 exact u9 (o6 (i3 (a8 (a8 (a8 rfl rfl (M6 p)) (a8 rfl rfl (B7 q)) (k6 b1 b4)) (a8 (a8 rfl rfl (M6 q)) (a8 rfl rfl (B7 p)) (k6 b3 b2)) rfl) (i3 (a8 (a8 rfl rfl (B7 p)) (a8 rfl rfl (B7 q)) (k6 b2 b4)) rfl)) e)
theorem lg {k l : Nat} (a b c d : Int) (fs : Option FS) (hb : b ≠ 0) (hd : d ≠ 0) (h1 : Bd k a) (h2 : Bd k b) (h3 : Bd l c) (h4 : Bd l d) (hk : k + l ≤ 8000) : Y3 [.tup [.int a, .int b], .tup [.int c, .int d]] fs = some (fr (Rat.divInt (a * c) (b * d)), fs) := by
 have b1 := h1.bits (by omega)
 have b2 := h2.bits (by omega)
 have b3 := h3.bits (by omega)
 have b4 := h4.bits (by omega)
 have e := M9 (a * c) (b * d) fs (Int.mul_ne_zero hb hd) (Bd.mul h2 h4) hk
 refine n4 (s := ⟨[.val (.tup [.int a, .int b]), .val (.tup [.int c, .int d])], fs⟩) ?_
 exact u9 (o6 (i3 (a8 (a8 rfl rfl rfl) (a8 rfl rfl rfl) (k6 b1 b3)) (i3 (a8 (a8 rfl rfl rfl) (a8 rfl rfl rfl) (k6 b2 b4)) rfl)) e)
theorem gW {k l : Nat} (p q : Rat) (fs : Option FS) (h1 : Sz k p) (h2 : Sz l q) (hk : k + l ≤ 8000) : Y3 [fr p, fr q] fs = some (fr (p * q), fs) := by
 have e := lg p.num p.den q.num q.den fs (B9 p) (B9 q) h1.num h1.den h2.num h2.den hk
 rw [← rz] at e
 exact e
theorem bz {k : Nat} (a : Pt) (fs : Option FS) (h : Ps k a) (hk : k ≤ 8000) : K2 [pt a] fs = some (.tup [fr a.1, fr a.2], fs) := by
 have e1 := M9 (pX a) (pL a) fs (cp a) h.l hk
 have e2 := M9 (pY a) (pL a) fs (cp a) h.l hk
 rw [rD] at e1
 rw [sm] at e2
 refine n4 (s := ⟨[.val (pt a)], fs⟩) ?_
 exact u9 (B0 (o6 (i3 (a8 rfl rfl (P5 a)) (i3 (a8 rfl rfl (D0 a)) rfl)) e1) (o6 (i3 (a8 rfl rfl (N6 a)) (i3 (a8 rfl rfl (D0 a)) rfl)) e2))
theorem aQ {k l : Nat} (p q : Rat) (fs : Option FS) (h1 : Sz k p) (h2 : Sz l q) (hk : k + l ≤ 8000) : D7 [fr p, fr q] fs = some (pt (p, q), fs) := by
 have b1 := h1.num.bits (by omega)
 have b2 := h1.den.bits (by omega)
 have b3 := h2.num.bits (by omega)
 have b4 := h2.den.bits (by omega)
 have hd := bf p q
 have hp : ¬ (p.den : Int) * q.den < 0 := by have := Int.mul_pos (aS p) (aS q); omega
 obtain ⟨g0, p1, p2, p3⟩ := jR (p.num * q.den) (q.num * p.den) (p.den * q.den) hd
 have dg := su (x := p.num * q.den) (y := q.num * p.den) hd (Bd.mul h1.den h2.den) hk
 rw [if_neg hp] at g0 p1 p2 p3 dg
 rw [pd, oq] at p1 p2 p3
 have w1 := br (p.num * q.den) (q.num * p.den) fs
 have w2 := br (Int.gcd (p.num * q.den) (q.num * p.den) : Int) (p.den * q.den) fs
 generalize (Int.gcd (Int.gcd (p.num * q.den) (q.num * p.den) : Int) (p.den * q.den) : Int) = gg at *
 refine n4 (s := ⟨[.val (fr p), .val (fr q), .val (.tup [.int (p.num * q.den), .int (q.num * p.den), .int (p.den * q.den)]), .val (.int gg)], fs⟩) ?_
 show dw V4 ⟨[.val (fr p), .val (fr q), .no, .no], fs⟩ = _
 unfold dw
 rw [m8 (s1 := ⟨[.val (fr p), .val (fr q), .val (.tup [.int (p.num * q.den), .int (q.num * p.den), .int (p.den * q.den)]), .no], fs⟩) (A3 (tN (a8 (a8 rfl rfl (M6 p)) (a8 rfl rfl (B7 q)) (k6 b1 b4)) (a8 (a8 rfl rfl (M6 q)) (a8 rfl rfl (B7 p)) (k6 b3 b2)) (a8 (a8 rfl rfl (B7 p)) (a8 rfl rfl (B7 q)) (k6 b2 b4))) rfl)]
 rw [m8 (s1 := ⟨[.val (fr p), .val (fr q), .val (.tup [.int (p.num * q.den), .int (q.num * p.den), .int (p.den * q.den)]), .val (.int gg)], fs⟩) (A3 (o6 (i3 (o6 (i3 (a8 rfl rfl rfl) (i3 (a8 rfl rfl rfl) rfl)) w1) (i3 (a8 rfl rfl rfl) rfl)) w2) rfl)]
 refine u9 ?_
 unfold pt
 rw [← p1, ← p2, ← p3]
 exact C8 (p := S8) (ui (rN (idx := [3]) (ds := [.int (p.num * q.den), .int (q.num * p.den), .int (p.den * q.den)]) (s1 := ⟨[.val (fr p), .val (fr q), .val (.tup [.int (p.num * q.den), .int (q.num * p.den), .int (p.den * q.den)]), .val (.int gg)], fs⟩) rfl oS (iw dg fs [p.num * q.den, q.num * p.den, p.den * q.den]))) rfl
theorem G9 {ds : List D} {i : Int} {d : D} (h : k9 ds i = some d) : a9 (.lst ds) (.int i) = some d := (cB ds i).trans h
theorem kZ {n : Nat} (h : n ≤ 100) : n ≤ sizeLine := Nat.le_trans h (by decide)
theorem sX (ps : List Pt) (q : Pt) : (ps ++ [q]).map pt = ps.map pt ++ [pt q] := by simp
theorem bt {as bs : List D} (h : as.length + bs.length ≤ 100) : l7 (.tup as) (.tup bs) = some (.tup (as ++ bs)) := if_pos (kZ h)
variable {c : Bool} {ps : List Pt} {m : Nat} {S : Nat → Rat} {Q : Nat → Pt × Pt} {T : List Rat}
end T
namespace T
open PySem L2 DL
variable {c : Bool} {ps : List Pt} {m : Nat} {S : Nat → Rat} {Q : Nat → Pt × Pt} {T : List Rat}
end T
namespace T
open PySem L2 DL
variable {c : Bool} {ps : List Pt} {m : Nat} {S : Nat → Rat} {Q : Nat → Pt × Pt} {T : List Rat}
end T
namespace T
open PySem L2 DL
variable {c : Bool} {ps : List Pt} {m : Nat} {S : Nat → Rat} {Q : Nat → Pt × Pt} {T : List Rat}
end T
namespace T
open PySem L2 DL
variable {m : Nat} {S : Nat → Rat} {p D : Nat → Pt} {X : List Rat}
end T
namespace T
open PySem L2 DL
variable {m : Nat} {S : Nat → Rat} {p D : Nat → Pt} {X : List Rat}
variable {u v : Rat} {k : Nat} {S' : Nat → Rat} {Q' : Nat → Pt × Pt}
end T
namespace T
open PySem L2 DL
theorem dF {l : List DL.D} {x y : DL.D} : k9 (l ++ [x, y]) (-2) = some x := by
 have hl : (l ++ [x, y]).length = l.length + 2 := by rw [List.length_append]; rfl
 unfold k9 E1
 rw [if_neg (by omega), if_pos (by omega)]
 show (l ++ [x, y])[_]? = _
 rw [show ((-2 : Int) + (l ++ [x, y]).length).toNat = l.length by omega, List.getElem?_append_right (Nat.le_refl _), Nat.sub_self]
 rfl
theorem L9 {l : List DL.D} {x y : DL.D} : k9 (l ++ [x, y]) (-1) = some y := by
 have hl : (l ++ [x, y]).length = l.length + 2 := by rw [List.length_append]; rfl
 refine il ?_
 rw [hl, List.getElem?_append_right (by omega), show l.length + 2 - 1 - l.length = 1 by omega]
 rfl
theorem iH (l : List DL.D) (x y : DL.D) : D5 (l ++ [x, y]) none (some (-1)) = l ++ [x] := by
 have hl : (l ++ [x, y]).length = l.length + 2 := by rw [List.length_append]; rfl
 have e1 : HT.sIx (l ++ [x, y]).length 0 none = 0 := rfl
 have e2 : HT.sIx (l ++ [x, y]).length (l ++ [x, y]).length (some (-1)) = l.length + 1 := by
  show (if (-1 : Int) < 0 then ((-1 : Int) + ((l ++ [x, y]).length : Int)).toNat else min (-1 : Int).toNat (l ++ [x, y]).length) = _
  rw [if_pos (by decide), hl]
  omega
 unfold D5
 rw [e1, e2, List.drop_zero, Nat.sub_zero, List.take_append, List.take_of_length_le (by omega), show l.length + 1 - l.length = 1 by omega]
 rfl
theorem iu (x : DL.D) (l : List DL.D) : D5 (x :: l) (some 1) none = l := by
 have e1 : HT.sIx (x :: l).length 0 (some 1) = 1 := by
  show (if (1 : Int) < 0 then ((1 : Int) + ((x :: l).length : Int)).toNat else min (1 : Int).toNat (x :: l).length) = _
  rw [if_neg (by decide), List.length_cons]
  show min 1 (l.length + 1) = 1
  omega
 have e2 : HT.sIx (x :: l).length (x :: l).length none = (x :: l).length := rfl
 unfold D5
 rw [e1, e2, List.drop_succ_cons, List.drop_zero, List.length_cons, Nat.add_sub_cancel, List.take_length]
theorem ar {f : DE} {lo hi : DO} {s s1 s2 s3 : DS} {ds : List DL.D} {l h : Option Int} (e : f s = some (.tup ds, s1)) (e1 : lo s1 = some (l, s2)) (e2 : hi s2 = some (h, s3)) : K3 f lo hi s = some (.tup (D5 ds l h), s3) := by
 unfold K3
 rw [e, Option.bind_some, e1, Option.bind_some, e2]
 rfl
noncomputable abbrev D1 : a7 := X5 D7 P1 u7
noncomputable def cD (x : Rat) : Prop := ∃ n : Int, n.natAbs ≤ 2 ^ 70 ∧ x = Rat.divInt n 42
noncomputable def om (p : Pt) : Prop := (cD p.1 ∧ cD p.2) ∧ p.1 < 7 ∧ p.2 < 7
theorem Z8 {r b : Int} (h0 : 0 ≤ r) (h1 : r < 13) (b0 : 0 < b) (b1 : b ≤ 3) : cD (Rat.divInt (r - 6) b) ∧ Rat.divInt (r - 6) b < 7 := by
 have hb : b = 1 ∨ b = 2 ∨ b = 3 := by omega
 obtain ⟨c, hc, c1⟩ : ∃ c : Int, b * c = 42 ∧ c.natAbs ≤ 42 := by
  rcases hb with rfl | rfl | rfl
  ·exact ⟨42, by decide, by decide⟩
  ·exact ⟨21, by decide, by decide⟩
  ·exact ⟨14, by decide, by decide⟩
 have c0 : c ≠ 0 := fun z => by rw [z] at hc; omega
 refine ⟨⟨(r - 6) * c, ?_, ?_⟩, ?_⟩
 ·rw [Int.natAbs_mul]
  exact Nat.le_trans (Nat.mul_le_mul (show (r - 6).natAbs ≤ 6 by omega) c1) (by decide)
 ·rw [← hc, Rat.divInt_mul_right c0]
 ·have p : (0 : Rat) < (b : Rat) := Rat.intCast_pos.mpr b0
  have nz : (b : Rat) ≠ 0 := fun z => by rw [z] at p; exact absurd p Rat.lt_irrefl
  rw [Rat.divInt_eq_div]
  have e := Rat.div_mul_cancel (a := ((r - 6 : Int) : Rat)) nz
  have l : ((r - 6 : Int) : Rat) < 7 * (b : Rat) := by
   have : ((r - 6 : Int) : Rat) < ((7 * b : Int) : Rat) := Rat.intCast_lt_intCast.mpr (by omega)
   rw [Rat.intCast_mul] at this
   exact this
  refine Rat.not_le.mp fun z => ?_
  have := Rat.mul_le_mul_of_nonneg_right z (Rat.le_of_lt p)
  rw [e] at this
  grind
theorem gX {r : Int} (h0 : 0 ≤ r) (h1 : r < 4) : ∃ b : Int, k9 [D.int 1, .int 1, .int 2, .int 3] r = some (.int b) ∧ 0 < b ∧ b ≤ 3 := by
 have : r = 0 ∨ r = 1 ∨ r = 2 ∨ r = 3 := by omega
 rcases this with rfl | rfl | rfl | rfl
 ·exact ⟨1, rfl, by decide⟩
 ·exact ⟨1, rfl, by decide⟩
 ·exact ⟨2, rfl, by decide⟩
 ·exact ⟨3, rfl, by decide⟩
theorem fP {r b : Int} (h0 : 0 ≤ r) (h1 : r < 13) (b0 : 0 < b) (b1 : b ≤ 3) : Sz 5 (Rat.divInt (r - 6) b) ∧ Bd 5 b ∧ b ≠ 0 :=
 ⟨Sz.of_divInt (by omega) (by omega) (by omega), show b.natAbs < 2 ^ 5 by omega, by omega⟩
theorem oa {n : Nat} {f : FS} (h : Fd3 n f) (hn : n < 2 ^ 29) : ∃ p f', D1 [.feed] (some f) = some (pt p, some f') ∧ PtS 5 p ∧ om p ∧ Fd3 (n + 4) f' := by
 obtain ⟨r1, f1, e1, a1, a2, h1⟩ := D4 13 h
 obtain ⟨r2, f2, e2, b1, b2, h2⟩ := D4 4 h1
 obtain ⟨r3, f3, e3, c1, c2, h3⟩ := D4 13 h2
 obtain ⟨r4, f4, e4, d1, d2, h4⟩ := D4 4 h3
 obtain ⟨b, q1, x1, x2⟩ := gX b1 b2
 obtain ⟨d, q2, y1, y2⟩ := gX d1 d2
 obtain ⟨s1, u1, v1⟩ := fP a1 a2 x1 x2
 obtain ⟨s2, u2, v2⟩ := fP c1 c2 y1 y2
 have w1 := M9 (r1 - 6) b (some f2) v1 u1 (by decide)
 have w2 := M9 (r3 - 6) d (some f4) v2 u2 (by decide)
 have sp := aQ _ _ (some f4) s1 s2 (by decide)
 refine ⟨(Rat.divInt (r1 - 6) b, Rat.divInt (r3 - 6) d), f4, n4 (s := ⟨[.val .feed, .val (fr (Rat.divInt (r1 - 6) b))], some f4⟩) ?_, ⟨s1, s2⟩, ⟨⟨(Z8 a1 a2 x1 x2).1, (Z8 c1 c2 y1 y2).1⟩, (Z8 a1 a2 x1 x2).2, (Z8 c1 c2 y1 y2).2⟩, h4⟩
 show Y5 D7 P1 u7 ⟨[.val .feed, .no], some f⟩ = _
 unfold Y5
 rw [m8 (s1 := ⟨[.val .feed, .val (fr (Rat.divInt (r1 - 6) b))], some f2⟩) (A3 (aP (i3 (a8 (G2 rfl e1) rfl rfl) (i3 (a8 (x := .lst [D.int 1, .int 1, .int 2, .int 3]) (s1 := ⟨[.val .feed, .no], some f1⟩) rfl (G2 rfl e2) (G9 q1)) rfl)) w1) rfl)]
 exact u9 (aP (i3 rfl (i3 (aP (i3 (a8 (G2 rfl e3) rfl rfl) (i3 (a8 (x := .lst [D.int 1, .int 1, .int 2, .int 3]) (s1 := ⟨[.val .feed, .val (fr (Rat.divInt (r1 - 6) b))], some f3⟩) rfl (G2 rfl e4) (G9 q2)) rfl)) w2) rfl)) sp)
theorem bM {n : Nat} {f : FS} (h : Fd3 n f) (hn : n < 2 ^ 29) : ∃ p f', D1 [.feed] (some f) = some (pt p, some f') ∧ PtS 5 p ∧ Fd3 (n + 4) f' := by
 obtain ⟨p, f', e, s, _, h'⟩ := oa h hn
 exact ⟨p, f', e, s, h'⟩
noncomputable abbrev C3 : a7 := U8 G6
theorem ef {k : Nat} (a b : Pt) (fs : Option FS) (ha : Ps k a) (hb : Ps k b) (hk : k ≤ 1000) : ∃ x y : Int, G6 [pt a, pt b] fs = some (.tup [.int x, .int y], fs) ∧ Bd (2 * k + 1) x ∧ Bd (2 * k + 1) y := by
 have q : ∀ {i : Int}, Bd k i → n5 i = true := fun h => h.bits (by omega)
 refine ⟨pX b * pL a - pX a * pL b, pY b * pL a - pY a * pL b, n4 (s := ⟨[.val (pt a), .val (pt b)], fs⟩) (u9 ?_), ((hb.x.mul ha.l).sub (ha.x.mul hb.l)).mono (by omega), ((hb.y.mul ha.l).sub (ha.y.mul hb.l)).mono (by omega)⟩
 exact B0 (a8 (a8 (a8 rfl rfl (P5 b)) (a8 rfl rfl (D0 a)) (k6 (q hb.x) (q ha.l))) (a8 (a8 rfl rfl (P5 a)) (a8 rfl rfl (D0 b)) (k6 (q ha.x) (q hb.l))) rfl)
  (a8 (a8 (a8 rfl rfl (N6 b)) (a8 rfl rfl (D0 a)) (k6 (q hb.y) (q ha.l))) (a8 (a8 rfl rfl (N6 a)) (a8 rfl rfl (D0 b)) (k6 (q ha.y) (q hb.l))) rfl)
theorem sj {a b : DE} {s s1 s2 : DS} {x y : Bool} (h1 : a s = some (.bl x, s1)) (h2 : b s1 = some (.bl y, s2)) : ∃ z s3, u5 a b s = some (.bl z, s3) ∧ (s3 = s1 ∨ s3 = s2) := by
 unfold u5
 rw [C7 h1, Option.bind_some]
 cases x with
 | true => exact ⟨y, s2, by rw [if_pos rfl, h2], .inr rfl⟩
 | false => exact ⟨false, s1, by rw [if_neg Bool.false_ne_true], .inl rfl⟩
theorem jF {k : Nat} (a b c : Pt) (fs : Option FS) (ha : Ps k a) (hb : Ps k b) (hc : Ps k c) (hk : k ≤ 1000) : ∃ z, C3 [pt a, pt b, pt c] fs = some (.bl z, fs) := by
 obtain ⟨x1, y1, e1, u1, v1⟩ := ef a b fs ha hb hk
 obtain ⟨x2, y2, e2, u2, v2⟩ := ef b c fs hb hc hk
 have q : ∀ {i : Int}, Bd (2 * k + 1) i → n5 i = true := fun h => h.bits (by omega)
 obtain ⟨z, s3, e3, hs⟩ := sj (a := a5 B3 (a5 j5 (a5 a9 (dL 3) (dC (.int 0))) (a5 a9 (dL 4) (dC (.int 1)))) (a5 j5 (a5 a9 (dL 3) (dC (.int 1))) (a5 a9 (dL 4) (dC (.int 0))))) (b := a5 (j3 (fun i j => decide (j < i))) (a5 l7 (a5 j5 (a5 a9 (dL 3) (dC (.int 0))) (a5 a9 (dL 4) (dC (.int 0)))) (a5 j5 (a5 a9 (dL 3) (dC (.int 1))) (a5 a9 (dL 4) (dC (.int 1))))) (dC (.int 0)))
  (s := ⟨[.val (pt a), .val (pt b), .val (pt c), .val (.tup [.int x1, .int y1]), .val (.tup [.int x2, .int y2])], fs⟩) (a8 (a8 (a8 rfl rfl rfl) (a8 rfl rfl rfl) (k6 (q u1) (q v2))) (a8 (a8 rfl rfl rfl) (a8 rfl rfl rfl) (k6 (q v1) (q u2))) (P4 _ _)) (a8 (a8 (a8 (a8 rfl rfl rfl) (a8 rfl rfl rfl) (k6 (q u1) (q u2))) (a8 (a8 rfl rfl rfl) (a8 rfl rfl rfl) (k6 (q v1) (q v2))) rfl) rfl rfl)
 have hs : s3 = ⟨[.val (pt a), .val (pt b), .val (pt c), .val (.tup [.int x1, .int y1]), .val (.tup [.int x2, .int y2])], fs⟩ := by rcases hs with rfl | rfl <;> rfl
 subst hs
 refine ⟨z, n4 (s := ⟨[.val (pt a), .val (pt b), .val (pt c), .val (.tup [.int x1, .int y1]), .val (.tup [.int x2, .int y2])], fs⟩) ?_⟩
 show Q9 G6 ⟨[.val (pt a), .val (pt b), .val (pt c), .no, .no], fs⟩ = _
 unfold Q9
 rw [m8 (s1 := ⟨[.val (pt a), .val (pt b), .val (pt c), .val (.tup [.int x1, .int y1]), .val (.tup [.int x2, .int y2])], fs⟩) (eQ (i3 (o6 rfl e1) (i3 (o6 rfl e2) rfl)) rfl)]
 exact u9 e3
noncomputable def Nd (ps : List Pt) : Prop := ∀ i a b, ps[i]? = some a → ps[i + 1]? = some b → a ≠ b
theorem Nd.snoc {ps : List Pt} {p : Pt} (h : Nd ps) (hl : ∀ z, ps[ps.length - 1]? = some z → p ≠ z) : Nd (ps ++ [p]) := fun i a b ha hb => by
 by_cases c : i + 1 < ps.length
 ·rw [List.getElem?_append_left (by omega)] at ha
  rw [List.getElem?_append_left c] at hb
  exact h i a b ha hb
 ·by_cases c2 : i + 1 = ps.length
  ·rw [List.getElem?_append_left (by omega)] at ha
   rw [List.getElem?_append_right (by omega), c2, Nat.sub_self] at hb
   cases hb
   exact fun e => hl a (by rw [← c2, Nat.add_sub_cancel]; exact ha) e.symm
  ·rw [List.getElem?_append_right (by omega), List.getElem?_eq_none (by rw [List.length_singleton]; omega)] at hb
   cases hb
theorem mz {ps : List Pt} {p : Pt} (h2 : 2 ≤ ps.length) (h : ps[ps.length - 2]? = some p) : k9 (ps.map pt) (-2) = some (pt p) := by
 unfold k9 E1
 rw [if_neg (by omega), if_pos (by rw [List.length_map]; omega)]
 show (ps.map pt)[_]? = _
 rw [List.length_map, show ((-2 : Int) + ps.length).toNat = ps.length - 2 by omega, List.getElem?_map, h]
 rfl
theorem mh {ps : List Pt} {p : Pt} (h : ps[ps.length - 1]? = some p) : k9 (ps.map pt) (-1) = some (pt p) := il (by rw [List.length_map, List.getElem?_map, h]; rfl)
noncomputable abbrev R8 : a7 := cX D7 F6 K2 C3 u7 D1
noncomputable abbrev eK : DM := S0 D7 F6 K2 C3 u7 D1
noncomputable abbrev o8 (F : D) (most many : Int) (ps : List Pt) (x5 x6 : Sl) (f : FS) : DS := ⟨[.val .feed, .val F, .val (.int most), .own (ps.map pt), .val (.int many), x5, x6, .no, .no], some f⟩
section
variable {a b : DM} {c c' : DT} {e e' : DE} {f : DA} {s s1 s2 : DS} {d x y w : D} {ds xs : List D} {r : Option (Fl × DS)} {q : Option (D × DS)} {v : Option (Bool × DS)} {fs fs' : Option FS} {sl : List Sl} {m : a7} {p : D → D → Option D} {p1 : D → Option D} {pl : List D → Option D} {n : Nat} {t : D → DS → Option DS} {B : Bool}
theorem m7 (h : a s = some (.next, s1)) (k : b s1 = r) : c7 a b s = r := by simp [c7, h, v7, k]
theorem kL (h : a s = some (.ret d, s1)) : c7 a b s = some (.ret d, s1) := by simp [c7, h, v7]
theorem U4 (h : c s = some (true, s1)) (k : a s1 = r) : i9 c a b s = r := by simp [i9, h, k]
theorem F3 (h : c s = some (false, s1)) (k : b s1 = r) : i9 c a b s = r := by simp [i9, h, k]
theorem oN (h : c s = some (true, s1)) (k : e s1 = q) : o7 c e e' s = q := by simp [o7, h, k]
theorem tI (h : c s = some (false, s1)) (k : e' s1 = q) : o7 c e e' s = q := by simp [o7, h, k]
theorem cj (h : e s = some (d, s1)) : i6 e s = some (.ret d, s1) := by simp [i6, h]
theorem K9 (h1 : e s = some (d, s1)) (h2 : t d s1 = some s2) : e8 e t s = some (.next, s2) := by simp [e8, h1, h2]
theorem k8 (h1 : e s = some (x, s1)) (h2 : e' s1 = some (y, s2)) (h3 : p x y = some w) : a5 p e e' s = some (w, s2) := by simp [a5, h1, h2, h3]
theorem J0 (h1 : e s = some (x, s1)) (h3 : p1 x = some w) : i0 p1 e s = some (w, s1) := by simp [i0, h1, h3]
theorem w6 (h1 : f s = some (xs, ⟨sl, fs⟩)) (h2 : m xs fs = some (d, fs')) : c6 m f s = some (d, ⟨sl, fs'⟩) := by simp [c6, h1, h2]
theorem j6 (h1 : e s = some (x, s1)) (h2 : f s1 = some (xs, s2)) : a0 e f s = some (x :: xs, s2) := by simp [a0, h1, h2]
theorem av (h : f s = some (ds, s1)) (l : Nat.ble ds.length sizeLine = true) : l5 f s = some (ds, s1) := by simp [l5, h, Nat.le_of_ble_eq_true l]
theorem hZ (h : f s = some (ds, s1)) : k7 f s = some (.lst ds, s1) := by simp [k7, h]
theorem Z0 (h : f s = some (xs, s1)) (k : pl xs = some d) : i8 pl f s = some (d, s1) := by simp [i8, h, k]
theorem A2 (h : e s = some (.bl B, s1)) : dB e s = some (B, s1) := by simp [dB, h]
theorem nj (h : e s = some (x, s1)) (k : A5 x = some B) : m6 e s = some (B, s1) := by simp [m6, h, k]
theorem tB (h : c s = some (true, s1)) : p8 c s = some (false, s1) := by simp [p8, h]
theorem jg (h : f s = some (ds, s1)) (l : Nat.blt n s1.sl.length = true) : F8 n f s = some (.next, { s1 with sl := s1.sl.set n (.own ds) }) := by
 have := Nat.le_of_ble_eq_true l
 unfold F8
 rw [h]
 exact if_pos this
theorem kE (h0 : s.sl[n]? = some (.own ds)) (h : e s = some (d, s1)) (h1 : s1.sl[n]? = some (.own xs)) (l : Nat.blt xs.length sizeLine = true) : B6 n e s = some (.next, { s1 with sl := s1.sl.set n (.own (xs ++ [d])) }) := by
 have := Nat.le_of_ble_eq_true l
 unfold B6
 rw [h0]
 show (e s).bind _ = _
 rw [h, Option.bind_some]
 show (match s1.sl[n]? with | some (.own ds) => _ | _ => none) = _
 rw [h1]
 exact if_pos this
theorem lJ (h : f s = some (xs, s1)) (h2 : O6 xs = some ds) (k : A1 t a ds s1 = r) : O9 f t a s = r := by simp only [O9, h, Option.bind_some, h2, k]
theorem eS (h : e s = some (.lst ds, s1)) (k : A1 t a ds s1 = r) : U1 e t a s = r := by unfold U1; rw [h]; exact k
end
theorem iK {k : Nat} (a b : Pt) (fs : Option FS) (ha : Ps k a) (hb : Ps k b) (hk : k ≤ 1000) : G6 [pt a, pt b] fs = some (.tup [.int (pX b * pL a - pX a * pL b), .int (pY b * pL a - pY a * pL b)], fs) := by
 have q : ∀ {i : Int}, Bd k i → n5 i = true := fun h => h.bits (by omega)
 refine n4 (s := ⟨[.val (pt a), .val (pt b)], fs⟩) (u9 ?_)
 exact B0 (a8 (a8 (a8 rfl rfl (P5 b)) (a8 rfl rfl (D0 a)) (k6 (q hb.x) (q ha.l))) (a8 (a8 rfl rfl (P5 a)) (a8 rfl rfl (D0 b)) (k6 (q ha.x) (q hb.l))) rfl)
  (a8 (a8 (a8 rfl rfl (N6 b)) (a8 rfl rfl (D0 a)) (k6 (q hb.y) (q ha.l))) (a8 (a8 rfl rfl (N6 a)) (a8 rfl rfl (D0 b)) (k6 (q ha.y) (q hb.l))) rfl)
theorem qe {a b : DE} {s : DS} {x y : Bool} (h1 : a s = some (.bl x, s)) (h2 : b s = some (.bl y, s)) : u5 a b s = some (.bl (x && y), s) := by
 unfold u5
 rw [C7 h1, Option.bind_some]
 cases x with
 | true => rw [if_pos rfl, h2]; rfl
 | false => rw [if_neg Bool.false_ne_true]; rfl
theorem sY {k : Nat} (a b c : Pt) (fs : Option FS) (ha : Ps k a) (hb : Ps k b) (hc : Ps k c) (hk : k ≤ 900) (hab : a ≠ b) (hbc : b ≠ c) : C3 [pt a, pt b, pt c] fs = some (.bl (C4 a b c), fs) := by
 have e1 := iK a b fs ha hb (by omega)
 have e2 := iK b c fs hb hc (by omega)
 have u1 : Bd (2 * k + 1) (pX b * pL a - pX a * pL b) := ((hb.x.mul ha.l).sub (ha.x.mul hb.l)).mono (by omega)
 have v1 : Bd (2 * k + 1) (pY b * pL a - pY a * pL b) := ((hb.y.mul ha.l).sub (ha.y.mul hb.l)).mono (by omega)
 have u2 : Bd (2 * k + 1) (pX c * pL b - pX b * pL c) := ((hc.x.mul hb.l).sub (hb.x.mul hc.l)).mono (by omega)
 have v2 : Bd (2 * k + 1) (pY c * pL b - pY b * pL c) := ((hc.y.mul hb.l).sub (hb.y.mul hc.l)).mono (by omega)
 have gi := kr hab hbc
 unfold bB y7 at gi
 generalize pX b * pL a - pX a * pL b = x1 at *
 generalize pY b * pL a - pY a * pL b = y1 at *
 generalize pX c * pL b - pX b * pL c = x2 at *
 generalize pY c * pL b - pY b * pL c = y2 at *
 have q : ∀ {i : Int}, Bd (2 * k + 1) i → n5 i = true := fun h => h.bits (by omega)
 rw [gi]
 refine n4 (s := ⟨[.val (pt a), .val (pt b), .val (pt c), .val (.tup [.int x1, .int y1]), .val (.tup [.int x2, .int y2])], fs⟩) ?_
 show Q9 G6 ⟨[.val (pt a), .val (pt b), .val (pt c), .no, .no], fs⟩ = _
 unfold Q9
 rw [m8 (s1 := ⟨[.val (pt a), .val (pt b), .val (pt c), .val (.tup [.int x1, .int y1]), .val (.tup [.int x2, .int y2])], fs⟩) (eQ (i3 (o6 rfl e1) (i3 (o6 rfl e2) rfl)) rfl)]
 exact u9 (qe (a8 (a8 (a8 rfl rfl rfl) (a8 rfl rfl rfl) (k6 (q u1) (q v2))) (a8 (a8 rfl rfl rfl) (a8 rfl rfl rfl) (k6 (q v1) (q u2))) (P4 _ _)) (a8 (a8 (a8 (a8 rfl rfl rfl) (a8 rfl rfl rfl) (k6 (q u1) (q u2))) (a8 (a8 rfl rfl rfl) (a8 rfl rfl rfl) (k6 (q v1) (q v2))) rfl) rfl rfl))
theorem oK {n : Nat} {b : DM} {ds : List D} {fs : Option FS} {d : D} {s : DS} (h : b ⟨ds.map .val ++ List.replicate (n - ds.length) .no, fs⟩ = some (.ret d, s)) : P0 n b ds fs = some (.inl d, s.fs) := by simp [P0, h]
theorem gq {n : Nat} {b : DM} {ds es : List D} {fs : Option FS} {c : Str} {s : DS} (h : b ⟨ds.map .val ++ List.replicate (n - ds.length) .no, fs⟩ = some (.thr c es, s)) : P0 n b ds fs = some (.inr (c, es), s.fs) := by simp [P0, h]
theorem gS {c : Str} {t : DA} {s s1 : DS} {ds : List D} (h : t s = some (ds, s1)) : R3 c t s = some (.thr c ds, s1) := by simp [R3, h]
theorem hX {a b : DM} {s s1 : DS} {c : Str} {ds : List D} (h : a s = some (.thr c ds, s1)) : c7 a b s = some (.thr c ds, s1) := by simp [c7, h, v7]
theorem cE {m : D3} {f : DA} {s : DS} {sl : List Sl} {xs : List D} {fs fs' : Option FS} {r : Rx} (h1 : f s = some (xs, ⟨sl, fs⟩)) (h2 : m xs fs = some (r, fs')) : P9 m f s = some (r, ⟨sl, fs'⟩) := by simp [P9, h1, h2]
theorem mO {f : L0} {t : D → DS → Option DS} {s s1 s2 : DS} {d : D} (h1 : f s = some (.inl d, s1)) (h2 : t d s1 = some s2) : M0 f t s = some (.next, s2) := by simp [M0, h1, h2]
theorem gY {f : L0} {t : D → DS → Option DS} {s s1 : DS} {c : Str} {es : List D} (h1 : f s = some (.inr (c, es), s1)) : M0 f t s = some (.thr c es, s1) := by simp [M0, h1]
theorem kz {cs : List Str} {i : Nat} {b h : DM} {s s1 : DS} (h1 : b s = some (.next, s1)) : L6 cs i b h s = some (.next, s1) := by simp [L6, h1]
theorem gZ {cs : List Str} {i : Nat} {b h : DM} {s s1 s2 : DS} {c : Str} {ds : List D} (h1 : b s = some (.thr c ds, s1)) (hc : cs.contains c = true ∧ ds.length ≤ 2) (h2 : h { s1 with sl := s1.sl.set i (.val (.exc c ds)) } = some (.next, s2)) : L6 cs i b h s = some (.next, { s2 with sl := s2.sl.set i .no }) := by
 unfold L6
 rw [h1, Option.bind_some]
 show (if cs.contains c = true ∧ ds.length ≤ 2 then _ else none) = _
 rw [if_pos hc, h2]
 rfl
noncomputable abbrev V7 : D3 := ai V1
noncomputable abbrev F5 : a7 := az V7
noncomputable abbrev G5 : a7 := X0 C3
noncomputable def C6 (AA BB : List D) (a b c : Pt) : List D := (if C4 a b c then AA ++ [pt a] else AA ++ [pt a, pt b]) ++ (pt c :: BB)
noncomputable def l8 (l : List D) : D := .tup [.bl false, .tup l]
theorem pV {k : Nat} (AA BB : List D) (a b b' c : Pt) (fs : Option FS) (hb : Ps k b) (hb' : Ps k b') (hk : k ≤ 900) (ne : b ≠ b') : V7 [l8 (AA ++ [pt a, pt b]), l8 (pt b' :: pt c :: BB)] fs = some (.inr ("NoJoin", [.str "place"]), fs) := by
 have pn : w8 (pt b) (pt b') = some (.bl true) := by rw [X8 hb hb' (by omega) (by omega), decide_eq_false ne]; rfl
 refine gq (s := ⟨[.val (l8 (AA ++ [pt a, pt b])), .val (l8 (pt b' :: pt c :: BB)), .val (.tup (AA ++ [pt a, pt b])), .val (.tup (pt b' :: pt c :: BB)), .no], fs⟩) ?_
 show W5 V1 ⟨[.val (l8 (AA ++ [pt a, pt b])), .val (l8 (pt b' :: pt c :: BB)), .no, .no, .no], fs⟩ = _
 unfold W5
 refine m7 (s1 := ⟨[.val (l8 (AA ++ [pt a, pt b])), .val (l8 (pt b' :: pt c :: BB)), .val (.tup (AA ++ [pt a, pt b])), .no, .no], fs⟩) rfl ?_
 refine m7 (s1 := ⟨[.val (l8 (AA ++ [pt a, pt b])), .val (l8 (pt b' :: pt c :: BB)), .val (.tup (AA ++ [pt a, pt b])), .val (.tup (pt b' :: pt c :: BB)), .no], fs⟩) rfl ?_
 exact hX (U4 (A2 (k8 (k8 rfl (J0 rfl rfl) ((x8 _ _).trans L9)) (k8 rfl rfl ((x8 _ _).trans (T2 (i := 0) rfl))) pn)) (gS rfl))
theorem mT {k : Nat} (AA BB : List D) (a b c : Pt) (fs : Option FS) (ha : Ps k a) (hb : Ps k b) (hc : Ps k c) (hk : k ≤ 900) (lA : AA.length ≤ 30) (lB : BB.length ≤ 30) :
  V7 [l8 (AA ++ [pt a, pt b]), l8 (pt b :: pt c :: BB)] fs = some (if 9 < (C6 AA BB a b c).length then .inr ("NoJoin", [.str "many"]) else .inl (l8 (C6 AA BB a b c)), fs) := by
 have pn : w8 (pt b) (pt b) = some (.bl false) := by rw [X8 hb hb (by omega) (by omega), decide_eq_true rfl]; rfl
 have g := oj a b c fs ha hb hc (by omega)
 generalize eL : (if C4 a b c then AA ++ [pt a] else AA ++ [pt a, pt b]) = L
 have lL : L.length ≤ 32 := by rw [← eL]; split <;> simp <;> omega
 have ej : C6 AA BB a b c = L ++ (pt c :: BB) := by unfold C6; rw [eL]
 rw [ej]
 have ad := bt (as := L) (bs := pt c :: BB) (by rw [List.length_cons]; omega)
 have cu := iu (pt b) (pt c :: BB)
 have t : m6 (c6 V1 (a0 (a5 a9 (dL 2) (i0 j8 (dC (.int 2)))) (a0 (a5 a9 (dL 2) (i0 j8 (dC (.int 1)))) (a0 (a5 a9 (dL 3) (dC (.int 1))) a6)))) ⟨[.val (l8 (AA ++ [pt a, pt b])), .val (l8 (pt b :: pt c :: BB)), .val (.tup (AA ++ [pt a, pt b])), .val (.tup (pt b :: pt c :: BB)), .no], fs⟩ = some (C4 a b c, ⟨[.val (l8 (AA ++ [pt a, pt b])), .val (l8 (pt b :: pt c :: BB)), .val (.tup (AA ++ [pt a, pt b])), .val (.tup (pt b :: pt c :: BB)), .no], fs⟩) :=
  aR (o6 (i3 (a8 rfl rfl ((x8 _ _).trans dF)) (i3 (a8 rfl rfl ((x8 _ _).trans L9)) (i3 (a8 rfl rfl ((x8 (pt b :: pt c :: BB) 1).trans (T2 (i := 1) rfl))) rfl))) g)
 have run : ∀ R, (c7 (i9 (dB (a5 (j3 (fun i j => decide (j < i))) (i8 (one j7) (a0 (dL 4) a6)) (dC (.int 9)))) (R3 "NoJoin" (a0 (dC (.str "many")) a6)) j9) (i6 (i4 (a0 (dC (.bl false)) (a0 (dV 4) a6))))) ⟨[.val (l8 (AA ++ [pt a, pt b])), .val (l8 (pt b :: pt c :: BB)), .val (.tup L), .val (.tup (pt b :: pt c :: BB)), .val (.tup (L ++ (pt c :: BB)))], fs⟩ = R →
   W5 V1 ⟨[.val (l8 (AA ++ [pt a, pt b])), .val (l8 (pt b :: pt c :: BB)), .no, .no, .no], fs⟩ = R := fun R er => by
  unfold W5
  refine m7 (s1 := ⟨[.val (l8 (AA ++ [pt a, pt b])), .val (l8 (pt b :: pt c :: BB)), .val (.tup (AA ++ [pt a, pt b])), .no, .no], fs⟩) rfl ?_
  refine m7 (s1 := ⟨[.val (l8 (AA ++ [pt a, pt b])), .val (l8 (pt b :: pt c :: BB)), .val (.tup (AA ++ [pt a, pt b])), .val (.tup (pt b :: pt c :: BB)), .no], fs⟩) rfl ?_
  refine m7 (F3 (A2 (k8 (k8 rfl (J0 rfl rfl) ((x8 _ _).trans L9)) (k8 rfl rfl ((x8 _ _).trans (T2 (i := 0) rfl))) pn)) rfl) ?_
  refine m7 (s1 := ⟨[.val (l8 (AA ++ [pt a, pt b])), .val (l8 (pt b :: pt c :: BB)), .val (.tup L), .val (.tup (pt b :: pt c :: BB)), .no], fs⟩) ?_ ?_
  ·cases q : C4 a b c with
   | true =>
    rw [q] at t eL
    rw [R7 t, ← eL, if_pos rfl, ← iH AA (pt a) (pt b)]
    exact A3 (ar (ds := AA ++ [pt a, pt b]) (l := none) (h := some (-1)) rfl rfl rfl) rfl
   | false =>
    rw [q] at t eL
    rw [← eL, if_neg Bool.false_ne_true]
    exact dj t
  ·refine m7 (s1 := ⟨[.val (l8 (AA ++ [pt a, pt b])), .val (l8 (pt b :: pt c :: BB)), .val (.tup L), .val (.tup (pt b :: pt c :: BB)), .val (.tup (L ++ (pt c :: BB)))], fs⟩) ?_ er
   exact A3 (a8 rfl (by rw [ar (ds := pt b :: pt c :: BB) (l := some 1) (h := none) rfl rfl rfl, cu]) ad) rfl
 by_cases c9 : 9 < (L ++ (pt c :: BB)).length
 ·rw [if_pos c9]
  refine gq (s := ⟨[.val (l8 (AA ++ [pt a, pt b])), .val (l8 (pt b :: pt c :: BB)), .val (.tup L), .val (.tup (pt b :: pt c :: BB)), .val (.tup (L ++ (pt c :: BB)))], fs⟩) ?_
  refine run _ ?_
  exact hX (U4 (A2 (k8 (C8 (p := j7) rfl rfl) rfl (congrArg (fun b => some (D.bl b)) (decide_eq_true (show (9 : Int) < ((L ++ (pt c :: BB)).length : Int) by omega))))) (gS rfl))
 ·rw [if_neg c9]
  refine oK (s := ⟨[.val (l8 (AA ++ [pt a, pt b])), .val (l8 (pt b :: pt c :: BB)), .val (.tup L), .val (.tup (pt b :: pt c :: BB)), .val (.tup (L ++ (pt c :: BB)))], fs⟩) ?_
  refine run _ ?_
  exact m7 (F3 (A2 (k8 (C8 (p := j7) rfl rfl) rfl (congrArg (fun b => some (D.bl b)) (decide_eq_false (show ¬ (9 : Int) < ((L ++ (pt c :: BB)).length : Int) by omega))))) rfl) (u9 (B0 rfl rfl))
noncomputable def U5 (AA BB : List D) (a b b' c : Pt) : D := if b ≠ b' then .str "place" else if 9 < (C6 AA BB a b c).length then .str "many" else l8 (C6 AA BB a b c)
theorem kh {k : Nat} (AA BB : List D) (a b b' c : Pt) (fs : Option FS) (ha : Ps k a) (hb : Ps k b) (hb' : Ps k b') (hc : Ps k c) (hk : k ≤ 900) (lA : AA.length ≤ 30) (lB : BB.length ≤ 30) :
  F5 [.tup (AA ++ [pt a, pt b]), .tup (pt b' :: pt c :: BB)] fs = some (U5 AA BB a b b' c, fs) := by
 have run : ∀ (x : D), L6 ["NoJoin"] 3 (M0 (P9 V7 (a0 (i4 (a0 (dC (.bl false)) (a0 (dV 0) a6))) (a0 (i4 (a0 (dC (.bl false)) (a0 (dV 1) a6))) a6))) (c8 2)) (c7 (e8 (y8 (i0 (Y1 ["NoJoin"] ["NoOutline", "NoPaper", "NoRow", "NoText", "TooMany"]) (dV 3)) (A0 (i0 (W4 ["NoJoin"]) (dV 3)))) (c8 4)) (i9 (o5 (m6 (i0 (Q8 ["NoJoin"] "NoJoin") (dV 3))) (p8 (m6 (dL 4)))) (e8 (i0 (Y6 ["NoJoin"] "word") (dV 3)) (c8 2)) j9)) ⟨[.val (.tup (AA ++ [pt a, pt b])), .val (.tup (pt b' :: pt c :: BB)), .val (.str "other"), .no, .no], fs⟩ = some (.next, ⟨[.val (.tup (AA ++ [pt a, pt b])), .val (.tup (pt b' :: pt c :: BB)), .val x, .no, .no], fs⟩) ∨
   L6 ["NoJoin"] 3 (M0 (P9 V7 (a0 (i4 (a0 (dC (.bl false)) (a0 (dV 0) a6))) (a0 (i4 (a0 (dC (.bl false)) (a0 (dV 1) a6))) a6))) (c8 2)) (c7 (e8 (y8 (i0 (Y1 ["NoJoin"] ["NoOutline", "NoPaper", "NoRow", "NoText", "TooMany"]) (dV 3)) (A0 (i0 (W4 ["NoJoin"]) (dV 3)))) (c8 4)) (i9 (o5 (m6 (i0 (Q8 ["NoJoin"] "NoJoin") (dV 3))) (p8 (m6 (dL 4)))) (e8 (i0 (Y6 ["NoJoin"] "word") (dV 3)) (c8 2)) j9)) ⟨[.val (.tup (AA ++ [pt a, pt b])), .val (.tup (pt b' :: pt c :: BB)), .val (.str "other"), .no, .no], fs⟩ = some (.next, ⟨[.val (.tup (AA ++ [pt a, pt b])), .val (.tup (pt b' :: pt c :: BB)), .val x, .no, .val (.bl false)], fs⟩) → F5 [.tup (AA ++ [pt a, pt b]), .tup (pt b' :: pt c :: BB)] fs = some (x, fs) := fun x h => by
  rcases h with h | h
  ·exact n4 (s := ⟨[.val (.tup (AA ++ [pt a, pt b])), .val (.tup (pt b' :: pt c :: BB)), .val x, .no, .no], fs⟩) (m7 (s1 := ⟨[.val (.tup (AA ++ [pt a, pt b])), .val (.tup (pt b' :: pt c :: BB)), .val (.str "other"), .no, .no], fs⟩) rfl (m7 h rfl))
  ·exact n4 (s := ⟨[.val (.tup (AA ++ [pt a, pt b])), .val (.tup (pt b' :: pt c :: BB)), .val x, .no, .val (.bl false)], fs⟩) (m7 (s1 := ⟨[.val (.tup (AA ++ [pt a, pt b])), .val (.tup (pt b' :: pt c :: BB)), .val (.str "other"), .no, .no], fs⟩) rfl (m7 h rfl))
 unfold U5
 by_cases ne : b ≠ b'
 ·rw [if_pos ne]
  refine run _ (.inr ?_)
  exact gZ (s2 := ⟨[.val (.tup (AA ++ [pt a, pt b])), .val (.tup (pt b' :: pt c :: BB)), .val (.str "place"), .val (.exc "NoJoin" [.str "place"]), .val (.bl false)], fs⟩) (gY (cE (j6 (B0 rfl rfl) (j6 (B0 rfl rfl) rfl)) (pV AA BB a b b' c fs hb hb' hk ne))) ⟨rfl, by decide⟩ rfl
 ·rw [if_neg ne]
  have e : b = b' := Classical.not_not.mp ne
  subst e
  have j := mT AA BB a b c fs ha hb hc hk lA lB
  by_cases c9 : 9 < (C6 AA BB a b c).length
  ·rw [if_pos c9] at j ⊢
   refine run _ (.inr ?_)
   exact gZ (s2 := ⟨[.val (.tup (AA ++ [pt a, pt b])), .val (.tup (pt b :: pt c :: BB)), .val (.str "many"), .val (.exc "NoJoin" [.str "many"]), .val (.bl false)], fs⟩) (gY (cE (j6 (B0 rfl rfl) (j6 (B0 rfl rfl) rfl)) j)) ⟨rfl, by decide⟩ rfl
  ·rw [if_neg c9] at j ⊢
   refine run _ (.inl ?_)
   exact kz (mO (cE (j6 (B0 rfl rfl) (j6 (B0 rfl rfl) rfl)) j) rfl)
theorem ka {k : Nat} (AA BB : List D) (a b b' c : Pt) (fs : Option FS) (ha : Ps k a) (hb : Ps k b) (hb' : Ps k b') (hc : Ps k c) (hk : k ≤ 900) (lA : AA.length ≤ 30) (lB : BB.length ≤ 30) (hab : a ≠ b) (hbc : b' ≠ c) :
  G5 [.tup (AA ++ [pt a, pt b]), .tup (pt b' :: pt c :: BB)] fs = some (U5 AA BB a b b' c, fs) := by
 unfold U5
 have pn : w8 (pt b) (pt b') = some (.bl (!decide (b = b'))) := X8 hb hb' (by omega) (by omega)
 by_cases ne : b ≠ b'
 ·rw [if_pos ne]
  rw [decide_eq_false ne] at pn
  refine n4 (s := ⟨[.val (.tup (AA ++ [pt a, pt b])), .val (.tup (pt b' :: pt c :: BB)), .no], fs⟩) ?_
  show S9 C3 ⟨[.val (.tup (AA ++ [pt a, pt b])), .val (.tup (pt b' :: pt c :: BB)), .no], fs⟩ = _
  unfold S9
  exact kL (U4 (A2 (k8 (k8 rfl (J0 rfl rfl) ((x8 _ _).trans L9)) (k8 rfl rfl ((x8 _ _).trans (T2 (i := 0) rfl))) pn)) rfl)
 ·rw [if_neg ne]
  have e : b = b' := Classical.not_not.mp ne
  subst e
  rw [decide_eq_true rfl] at pn
  have g := sY a b c fs ha hb hc hk hab hbc
  have cu := iu (pt b) (pt c :: BB)
  generalize eL : (if C4 a b c then AA ++ [pt a] else AA ++ [pt a, pt b]) = L
  have lL : L.length ≤ 32 := by rw [← eL]; split <;> simp <;> omega
  have ej : C6 AA BB a b c = L ++ (pt c :: BB) := by unfold C6; rw [eL]
  rw [ej]
  have ad := bt (as := L) (bs := pt c :: BB) (by rw [List.length_cons]; omega)
  have ad0 := bt (as := AA ++ [pt a, pt b]) (bs := pt c :: BB) (by simp; omega)
  have t : m6 (c6 C3 (a0 (a5 a9 (dL 0) (i0 j8 (dC (.int 2)))) (a0 (a5 a9 (dL 0) (i0 j8 (dC (.int 1)))) (a0 (a5 a9 (dL 1) (dC (.int 1))) a6)))) ⟨[.val (.tup (AA ++ [pt a, pt b])), .val (.tup (pt b :: pt c :: BB)), .val (.tup ((AA ++ [pt a, pt b]) ++ (pt c :: BB)))], fs⟩ = some (C4 a b c, ⟨[.val (.tup (AA ++ [pt a, pt b])), .val (.tup (pt b :: pt c :: BB)), .val (.tup ((AA ++ [pt a, pt b]) ++ (pt c :: BB)))], fs⟩) :=
   aR (o6 (i3 (a8 rfl rfl ((x8 _ _).trans dF)) (i3 (a8 rfl rfl ((x8 _ _).trans L9)) (i3 (a8 rfl rfl ((x8 (pt b :: pt c :: BB) 1).trans (T2 (i := 1) rfl))) rfl))) g)
  have sl1 : ∀ s : DS, s.sl[1]? = some (.val (.tup (pt b :: pt c :: BB))) → K3 (dL 1) (O7 (dC (.int 1))) O5 s = some (.tup (pt c :: BB), s) := fun s hs => by
   have : dL 1 s = some (.tup (pt b :: pt c :: BB), s) := by unfold dL; rw [hs]
   rw [ar (l := some 1) (h := none) this rfl rfl, cu]
  refine n4 (s := ⟨[.val (.tup (AA ++ [pt a, pt b])), .val (.tup (pt b :: pt c :: BB)), .val (.tup (L ++ (pt c :: BB)))], fs⟩) ?_
  show S9 C3 ⟨[.val (.tup (AA ++ [pt a, pt b])), .val (.tup (pt b :: pt c :: BB)), .no], fs⟩ = _
  unfold S9
  refine m7 (F3 (A2 (k8 (k8 rfl (J0 rfl rfl) ((x8 _ _).trans L9)) (k8 rfl rfl ((x8 _ _).trans (T2 (i := 0) rfl))) pn)) rfl) ?_
  refine m7 (s1 := ⟨[.val (.tup (AA ++ [pt a, pt b])), .val (.tup (pt b :: pt c :: BB)), .val (.tup ((AA ++ [pt a, pt b]) ++ (pt c :: BB)))], fs⟩) (A3 (a8 rfl (sl1 _ rfl) ad0) rfl) ?_
  refine m7 (s1 := ⟨[.val (.tup (AA ++ [pt a, pt b])), .val (.tup (pt b :: pt c :: BB)), .val (.tup (L ++ (pt c :: BB)))], fs⟩) ?_ ?_
  ·cases q : C4 a b c with
   | true =>
    rw [q] at t eL
    have eL : AA ++ [pt a] = L := eL
    rw [R7 t]
    have cm := iH AA (pt a) (pt b)
    rw [eL] at cm
    exact A3 (a8 (by rw [ar (ds := AA ++ [pt a, pt b]) (l := none) (h := some (-1)) rfl rfl rfl, cm]) (sl1 _ rfl) ad) rfl
   | false =>
    rw [q] at t eL
    have eL : AA ++ [pt a, pt b] = L := eL
    rw [← eL]
    exact dj t
  ·by_cases c9 : 9 < (L ++ (pt c :: BB)).length
   ·rw [if_pos c9]
    exact cj (oN (A2 (k8 (C8 (p := j7) rfl rfl) rfl (congrArg (fun b => some (D.bl b)) (decide_eq_true (show (9 : Int) < ((L ++ (pt c :: BB)).length : Int) by omega))))) rfl)
   ·rw [if_neg c9]
    exact cj (tI (A2 (k8 (C8 (p := j7) rfl rfl) rfl (congrArg (fun b => some (D.bl b)) (decide_eq_false (show ¬ (9 : Int) < ((L ++ (pt c :: BB)).length : Int) by omega))))) (B0 rfl rfl))
structure Ln7 (ps : List Pt) : Prop where
 sz : ∀ p ∈ ps, PtS 400 p
 nd : Nd ps
 lo : 2 ≤ ps.length
 hi : ps.length ≤ 12
theorem gb {α : Type} {l : List α} (h : 2 ≤ l.length) : ∃ A a b, l = A ++ [a, b] := by
 refine ⟨l.take (l.length - 2), l[l.length - 2], l[l.length - 1], ?_⟩
 apply List.ext_getElem?
 intro i
 by_cases c : i < l.length - 2
 ·rw [List.getElem?_append_left (by rw [List.length_take]; omega), List.getElem?_take_of_lt c]
 ·rw [List.getElem?_append_right (by rw [List.length_take]; omega), List.length_take, Nat.min_eq_left (by omega)]
  have : i = l.length - 2 ∨ i = l.length - 1 ∨ l.length ≤ i := by omega
  rcases this with rfl | rfl | z
  ·rw [Nat.sub_self, List.getElem?_eq_getElem (by omega)]; rfl
  ·rw [show l.length - 1 - (l.length - 2) = 1 by omega, List.getElem?_eq_getElem (by omega)]; rfl
  ·rw [List.getElem?_eq_none z, List.getElem?_eq_none (by simp; omega)]
theorem gO {ps qs : List Pt} (hp : Ln7 ps) (hq : Ln7 qs) (fs : Option FS) : ∃ R, F5 [.tup (ps.map pt), .tup (qs.map pt)] fs = some (R, fs) ∧ G5 [.tup (ps.map pt), .tup (qs.map pt)] fs = some (R, fs) ∧ E5 R = true := by
 obtain ⟨A, a, b, rfl⟩ := gb hp.lo
 obtain ⟨b', c, B, rfl⟩ : ∃ b' c B, qs = b' :: c :: B := by
  match qs, hq.lo with
  | x :: y :: B, _ => exact ⟨x, y, B, rfl⟩
 have S : ∀ {p}, PtS 400 p → Ps 800 p := fun h => h.ps
 have sa := S (hp.sz a (by simp))
 have sb := S (hp.sz b (by simp))
 have sb' := S (hq.sz b' (by simp))
 have sc := S (hq.sz c (by simp))
 have lA : (A.map pt).length ≤ 30 := by have := hp.hi; simp at this ⊢; omega
 have lB : (B.map pt).length ≤ 30 := by have := hq.hi; simp at this ⊢; omega
 have hab : a ≠ b := hp.nd A.length a b (by simp) (by simp)
 have hbc : b' ≠ c := hq.nd 0 b' c rfl rfl
 have e1 : (A ++ [a, b]).map pt = A.map pt ++ [pt a, pt b] := by simp
 have e2 : (b' :: c :: B).map pt = pt b' :: pt c :: B.map pt := rfl
 rw [e1, e2]
 refine ⟨_, kh (A.map pt) (B.map pt) a b b' c fs sa sb sb' sc (by decide) lA lB, ka (A.map pt) (B.map pt) a b b' c fs sa sb sb' sc (by decide) lA lB hab hbc, ?_⟩
 have okS : ∀ x : Str, PyData.strOk x = true → x.length ≤ 8 → E5 (.str x) = true := fun x h l => (Ok.str h).show (by decide) (Nat.le_trans l (by decide))
 unfold U5
 split
 ·exact okS _ (by decide +kernel) (by decide +kernel)
 ·split
  ·exact okS _ (by decide +kernel) (by decide +kernel)
  ·rename_i c9
   have all : ∀ d ∈ C6 (A.map pt) (B.map pt) a b c, Ok 1 3 d := fun d hd => by
    have m : d ∈ (A ++ [a, b] ++ (c :: B)).map pt := by
     unfold C6 at hd
     split at hd <;> simp at hd ⊢ <;> grind
    obtain ⟨p, hp', rfl⟩ := List.mem_map.mp m
    have : PtS 400 p := by
     rcases List.mem_append.mp hp' with h | h
     ·exact hp.sz p h
     ·exact hq.sz p (List.mem_cons_of_mem _ h)
    exact Ok.pt (S this) (by decide)
   have hl : (C6 (A.map pt) (B.map pt) a b c).length ≤ 9 := by omega
   have O1 := Ok.tup (OkL.all all)
   exact (Ok.tup (OkL.cons (Ok.bl false) (OkL.cons O1 OkL.nil))).show (by decide) (by omega)
noncomputable def F9 (K : Nat) (ps : List Pt) : Prop := ∀ p ∈ ps, PtS K p
theorem bE {K : Nat} {ps : List Pt} (h : F9 K ps) {i : Nat} {p : Pt} (hi : ps[i]? = some p) : Ps (K + K) p := (h p (List.mem_of_getElem? hi)).ps
theorem ly {K n : Nat} {f : FS} {F : D} {most many : Int} {ps : List Pt} (x5 x6 : Sl) (hp : F9 K ps) (h5 : 5 ≤ K) (hK : K ≤ 300) (h1 : 1 ≤ ps.length) (h9 : ps.length ≤ 9) (h : Fd3 n f) (hn : n < 2 ^ 28) : ∃ p f', PtS K p ∧ Fd3 (n + 5) f' ∧
  e8 (o7 (dB (a5 (j3 (fun i j => decide (j < i))) (c6 u7 (a0 (dV 0) (a0 (dC (.int 4)) a6))) (dC (.int 0)))) (c6 D1 (a0 (dV 0) a6)) (a5 a9 (dL 3) (c6 u7 (a0 (dV 0) (a0 (i8 (one j7) (a0 (dL 3) a6)) a6))))) (c8 6) (o8 F most many ps x5 x6 f) = some (.next, o8 F most many ps x5 (.val (pt p)) f') := by
 obtain ⟨r1, f1, e1, a1, a2, h1'⟩ := D4 4 h
 by_cases hr : 0 < r1
 ·obtain ⟨p, f2, e2, s2, h2⟩ := bM h1' (by omega)
  exact ⟨p, f2, s2.mono h5, h2.mono (by omega), A3 ((mW (C7 (a8 (G2 rfl e1) rfl (congrArg (fun b => some (D.bl b)) (decide_eq_true hr))))).trans (G2 rfl e2)) rfl⟩
 ·obtain ⟨r2, f2, e2, b1, b2, h2⟩ := D4 ((ps.map pt).length : Int) h1' (by rw [List.length_map]; omega) (by omega) (by rw [List.length_map]; omega)
  obtain ⟨d, m, q⟩ := nR b1 b2
  obtain ⟨p, hp', rfl⟩ := List.mem_map.mp m
  exact ⟨p, f2, hp p hp', h2.mono (by omega), A3 ((ph (C7 (a8 (G2 rfl e1) rfl (congrArg (fun b => some (D.bl b)) (decide_eq_false hr))))).trans (a8 rfl (G2 (i3 rfl (i3 (C8 (p := j7) rfl rfl) rfl)) e2) (G9 q))) rfl⟩
theorem sk {K : Nat} {F : D} {most many : Int} {ps : List Pt} {p : Pt} (x5 : Sl) (f : FS) (hp : F9 K ps) (h5 : 5 ≤ K) (hK : K ≤ 300) (h1 : 1 ≤ ps.length) (hs : PtS K p) : ∃ b : Bool, (b = true → (ps.length : Int) < many ∧ ∀ z, ps[ps.length - 1]? = some z → p ≠ z) ∧
  o5 (dB (a5 (j3 (fun i j => decide (i < j))) (i8 (one j7) (a0 (dL 3) a6)) (dL 4))) (o5 (dB (a5 w8 (dL 6) (a5 a9 (dL 3) (i0 j8 (dC (.int 1)))))) (u6 (dB (a5 (j3 (fun i j => decide (i < j))) (i8 (one j7) (a0 (dL 3) a6)) (dC (.int 2)))) (p8 (m6 (c6 C3 (a0 (a5 a9 (dL 3) (i0 j8 (dC (.int 2)))) (a0 (a5 a9 (dL 3) (i0 j8 (dC (.int 1)))) (a0 (dV 6) a6)))))))) (o8 F most many ps x5 (.val (pt p)) f) = some (b, o8 F most many ps x5 (.val (pt p)) f) := by
 obtain ⟨z, hz⟩ : ∃ z, ps[ps.length - 1]? = some z := ⟨_, List.getElem?_eq_getElem (by omega)⟩
 have l1 := mh hz
 have len : ∀ k : Int, (dB (a5 (j3 (fun i j => decide (i < j))) (i8 (one j7) (a0 (dL 3) a6)) (dC (.int k)))) (o8 F most many ps x5 (.val (pt p)) f) = some (decide (((ps.map pt).length : Int) < k), o8 F most many ps x5 (.val (pt p)) f) := fun k => C7 (a8 (C8 (p := j7) rfl rfl) rfl rfl)
 have lm : (dB (a5 (j3 (fun i j => decide (i < j))) (i8 (one j7) (a0 (dL 3) a6)) (dL 4))) (o8 F most many ps x5 (.val (pt p)) f) = some (decide (((ps.map pt).length : Int) < many), o8 F most many ps x5 (.val (pt p)) f) := C7 (a8 (C8 (p := j7) rfl rfl) rfl rfl)
 by_cases c : ((ps.map pt).length : Int) < many
 ·rw [decide_eq_true c] at lm
  have c' : (ps.length : Int) < many := by rw [List.length_map] at c; exact c
  have ne : (dB (a5 w8 (dL 6) (a5 a9 (dL 3) (i0 j8 (dC (.int 1)))))) (o8 F most many ps x5 (.val (pt p)) f) = some (!decide (p = z), o8 F most many ps x5 (.val (pt p)) f) := C7 (a8 rfl (a8 rfl rfl (G9 l1)) (X8 hs.ps (bE hp hz) (by omega) (by omega)))
  cases hne : (!decide (p = z)) with
  | false =>
   rw [hne] at ne
   exact ⟨false, fun e => (by cases e), P7 lm (bI ne)⟩
  | true =>
   have pz : ∀ z', ps[ps.length - 1]? = some z' → p ≠ z' := fun z' e q => by
    rw [hz] at e; cases e
    rw [decide_eq_true q] at hne; cases hne
   rw [hne] at ne
   have l2 := len 2
   by_cases c2 : ((ps.map pt).length : Int) < 2
   ·rw [decide_eq_true c2] at l2
    exact ⟨true, fun _ => ⟨c', pz⟩, P7 lm (P7 ne (rF l2))⟩
   ·rw [decide_eq_false c2] at l2
    have h2 : 2 ≤ ps.length := by rw [List.length_map] at c2; omega
    obtain ⟨y, hy⟩ : ∃ y, ps[ps.length - 2]? = some y := ⟨_, List.getElem?_eq_getElem (by omega)⟩
    have q2 := mz h2 hy
    obtain ⟨g, hg⟩ := jF y z p (some f) (bE hp hy) (bE hp hz) hs.ps (by omega)
    have t : m6 (c6 C3 (a0 (a5 a9 (dL 3) (i0 j8 (dC (.int 2)))) (a0 (a5 a9 (dL 3) (i0 j8 (dC (.int 1)))) (a0 (dV 6) a6)))) (o8 F most many ps x5 (.val (pt p)) f) = some (g, o8 F most many ps x5 (.val (pt p)) f) := aR (o6 (i3 (a8 rfl rfl (G9 q2)) (i3 (a8 rfl rfl (G9 l1)) (i3 rfl rfl))) hg)
    exact ⟨!g, fun _ => ⟨c', pz⟩, P7 lm (P7 ne (ox l2 (jr t)))⟩
 ·rw [decide_eq_false c] at lm
  exact ⟨false, fun e => (by cases e), bI lm⟩
theorem jT {K n : Nat} {f : FS} {F : D} {most many : Int} {ps : List Pt} (x5 x6 : Sl) (hm : many ≤ 9) (hp : F9 K ps) (h5 : 5 ≤ K) (hK : K ≤ 300) (hd : Nd ps) (h1 : 1 ≤ ps.length) (h9 : ps.length ≤ 9) (h : Fd3 n f) (hn : n < 2 ^ 28) :
  ∃ ps' x6' f', eK (o8 F most many ps x5 x6 f) = some (.next, o8 F most many ps' x5 x6' f') ∧ F9 K ps' ∧ Nd ps' ∧ 1 ≤ ps'.length ∧ ps'.length ≤ 9 ∧ Fd3 (n + 5) f' := by
 obtain ⟨p, f1, sp, hf, e1⟩ := ly (F := F) (most := most) (many := many) x5 x6 hp h5 hK h1 h9 h hn
 obtain ⟨b, hb, e2⟩ := sk (F := F) (most := most) (many := many) x5 f1 hp h5 hK h1 sp
 have ll : (ps.map pt).length < sizeLine := Nat.lt_of_le_of_lt (by rw [List.length_map]; exact h9) (show 9 < sizeLine by decide)
 cases b with
 | true =>
  have := (hb rfl).1
  refine ⟨ps ++ [p], .val (pt p), f1, ?_, fun q hq => ?_, hd.snoc (hb rfl).2, by rw [List.length_append, List.length_singleton]; omega, by rw [List.length_append, List.length_singleton]; omega, hf⟩
  ·show S0 D7 F6 K2 C3 u7 D1 _ = _
   unfold S0
   rw [m8 e1, R7 e2]
   unfold o8
   rw [sX]
   exact iB (s1 := o8 F most many ps x5 (.val (pt p)) f1) rfl rfl rfl ll
  ·rcases List.mem_append.mp hq with hq | hq
   ·exact hp q hq
   ·rw [List.mem_singleton.mp hq]; exact sp
 | false =>
  refine ⟨ps, .val (pt p), f1, ?_, hp, hd, h1, h9, hf⟩
  show S0 D7 F6 K2 C3 u7 D1 _ = _
  unfold S0
  rw [m8 e1, ah e2]
  rfl
theorem gU {K n : Nat} {f : FS} {l0 : List Pt} {most : Int} (hm : 2 ≤ most ∧ most ≤ 9) (h0 : F9 K l0) (n0 : Nd l0) (l1 : 1 ≤ l0.length) (l2 : l0.length ≤ 2) (h5 : 5 ≤ K) (hK : K ≤ 300) (h : Fd3 n f) (hn : n < 2 ^ 27) : ∃ (ps : List Pt) (f' : FS), R8 [.feed, .lst (l0.map pt), .int most] (some f) = some (.tup (ps.map pt), some f') ∧ (∀ p ∈ ps, PtS (K + 2) p) ∧ Nd ps ∧ 2 ≤ ps.length ∧ ps.length ≤ 9 ∧ Fd3 (n + 71) f' := by
 obtain ⟨r, f1, e1, a1, a2, h1⟩ := D4 (most - 1) h
 obtain ⟨s', lp, ps, x5, x6, f', rfl, hp, hd, m1, m9, I⟩ := ak (t := c8 5) (b := eK) (fun i s => ∃ ps x5 x6 f', s = o8 (.lst (l0.map pt)) most (2 + r) ps x5 x6 f' ∧ F9 K ps ∧ Nd ps ∧ 1 ≤ ps.length ∧ ps.length ≤ 9 ∧ Fd3 (n + 1 + 5 * i) f') (B5 0 14) 0 (o8 (.lst (l0.map pt)) most (2 + r) l0 .no .no f1)
  ⟨l0, .no, .no, f1, rfl, h0, n0, l1, Nat.le_trans l2 (by decide), h1⟩ (by
   rintro i d s hd ⟨ps, x5, x6, f', rfl, hp, hn', l1, l9, I⟩
   obtain ⟨rfl, hi⟩ := iy hd
   rw [Nat.zero_add] at *
   obtain ⟨ps', x6', f'', e, hp', hn'', l1', l9', I'⟩ := jT (F := .lst (l0.map pt)) (most := most) (many := 2 + r) (.val (.int ((0 : Int) + i))) x6 (by omega) hp h5 hK hn' l1 l9 I (by omega)
   exact ⟨o8 (.lst (l0.map pt)) most (2 + r) ps (.val (.int ((0 : Int) + i))) x6 f', _, rfl, .inl e, ps', _, x6', f'', rfl, hp', hn'', l1', l9', I'.mono (by omega)⟩)
 rw [Nat.zero_add, V3] at I
 have pre : ∀ R, (c7 (i9 (dB (a5 (j3 (fun i j => decide (i < j))) (i8 (one j7) (a0 (dL 3) a6)) (dC (.int 2)))) (c7 (e8 (c6 K2 (a0 (a5 a9 (dL 3) (dC (.int 0))) a6)) (o9 2 (l4 (c8 7) (l4 (c8 8) p7)))) (B6 3 (c6 D7 (a0 (dV 7) (a0 (c6 F6 (a0 (dV 8) (a0 (i4 (a0 (dC (.int 1)) (a0 (dC (.int 1)) a6))) a6))) a6))))) j9) (i6 (i8 (one S8) (a0 (dL 3) a6)))) (o8 (.lst (l0.map pt)) most (2 + r) ps x5 x6 f') = R → dE D7 F6 K2 C3 u7 D1 ⟨[.val .feed, .val (.lst (l0.map pt)), .val (.int most), .no, .no, .no, .no, .no, .no], some f⟩ = R := fun R er => by
  unfold dE
  rw [m8 (s1 := ⟨[.val .feed, .val (.lst (l0.map pt)), .val (.int most), .own (l0.map pt), .no, .no, .no, .no, .no], some f⟩) (sC (s1 := ⟨[.val .feed, .val (.lst (l0.map pt)), .val (.int most), .no, .no, .no, .no, .no, .no], some f⟩) rfl (show 3 < 9 by decide)),
   m8 (s1 := o8 (.lst (l0.map pt)) most (2 + r) l0 .no .no f1) (A3 (a8 rfl (G2 (i3 rfl (i3 (a8 rfl rfl rfl) rfl)) e1) rfl) rfl),
   m8 ((ni (xs := [.int 14]) (s1 := o8 (.lst (l0.map pt)) most (2 + r) l0 .no .no f1) rfl (eA (n := 14) (by decide))).trans lp)]
  exact er
 have lt : (dB (a5 (j3 (fun i j => decide (i < j))) (i8 (one j7) (a0 (dL 3) a6)) (dC (.int 2)))) (o8 (.lst (l0.map pt)) most (2 + r) ps x5 x6 f') = some (decide (((ps.map pt).length : Int) < 2), o8 (.lst (l0.map pt)) most (2 + r) ps x5 x6 f') := C7 (a8 (C8 (p := j7) rfl rfl) rfl rfl)
 by_cases c : ((ps.map pt).length : Int) < 2
 ·rw [decide_eq_true c] at lt
  rw [List.length_map] at c
  obtain ⟨a, ha⟩ : ∃ a, ps = [a] := by
   cases ps with
   | nil => cases m1
   | cons a t => cases t with
    | nil => exact ⟨a, rfl⟩
    | cons b t => simp at c; omega
  subst ha
  have sa := hp a (List.mem_singleton.mpr rfl)
  have x := bz a (some f') sa.ps (by omega)
  have s1 : Sz 1 (1 : Rat) := Sz.lit (by decide)
  have pl := aD a.2 1 (some f') sa.y s1 (by omega)
  have sp := aQ a.1 (a.2 + 1) (some f') sa.x (sa.y.add s1) (by omega)
  refine ⟨[a, (a.1, a.2 + 1)], f', n4 (s := ⟨[.val .feed, .val (.lst (l0.map pt)), .val (.int most), .own ([a, (a.1, a.2 + 1)].map pt), .val (.int (2 + r)), x5, x6, .val (fr a.1), .val (fr a.2)], some f'⟩) (pre _ ?_), ?_, ?_, Nat.le_refl 2, show 2 ≤ 9 by decide, I.mono (by omega)⟩
  ·rw [m8 (s1 := ⟨[.val .feed, .val (.lst (l0.map pt)), .val (.int most), .own ([a, (a.1, a.2 + 1)].map pt), .val (.int (2 + r)), x5, x6, .val (fr a.1), .val (fr a.2)], some f'⟩) (by
    rw [R7 lt, m8 (s1 := ⟨[.val .feed, .val (.lst (l0.map pt)), .val (.int most), .own ([a].map pt), .val (.int (2 + r)), x5, x6, .val (fr a.1), .val (fr a.2)], some f'⟩) (A3 (o6 (i3 (a8 rfl rfl rfl) rfl) x) rfl)]
    exact iB (ds := [pt a]) (s1 := ⟨[.val .feed, .val (.lst (l0.map pt)), .val (.int most), .own ([a].map pt), .val (.int (2 + r)), x5, x6, .val (fr a.1), .val (fr a.2)], some f'⟩) rfl (o6 (i3 rfl (i3 (o6 (i3 rfl (i3 rfl rfl)) pl) rfl)) sp) rfl (show 1 < sizeLine by decide))]
   exact u9 (C8 rfl rfl)
  ·intro q hq
   rcases List.mem_cons.mp hq with rfl | hq
   ·exact sa.mono (by omega)
   ·rw [List.mem_singleton.mp hq]
    exact ⟨sa.x.mono (by omega), (sa.y.add s1).mono (by omega)⟩
  ·refine Nd.snoc (ps := [a]) (fun i a b _ hb => by rw [List.getElem?_eq_none (by rw [List.length_singleton]; omega)] at hb; cases hb) fun z hz e => ?_
   cases hz
   have := congrArg Prod.snd e
   have : a.2 + 1 = a.2 := this
   grind
 ·rw [decide_eq_false c] at lt
  refine ⟨ps, f', n4 (s := o8 (.lst (l0.map pt)) most (2 + r) ps x5 x6 f') (pre _ ?_), fun p hq => (hp p hq).mono (by omega), hd, by rw [List.length_map] at c; omega, m9, I.mono (by omega)⟩
  rw [m8 (s1 := o8 (.lst (l0.map pt)) most (2 + r) ps x5 x6 f') (by rw [ah lt]; rfl)]
  exact u9 (C8 rfl rfl)
noncomputable abbrev T8 : a7 := dA D7 F6 Y3 bq K2
theorem lF (a b : Pt) (t : Rat) (fs : Option FS) (ha : PtS 7 a) (hb : PtS 7 b) (ht : Sz 2 t) : T8 [pt a, pt b, fr t] fs = some (pt (a.1 + t * (b.1 - a.1), a.2 + t * (b.2 - a.2)), fs) ∧ PtS 30 (a.1 + t * (b.1 - a.1), a.2 + t * (b.2 - a.2)) := by
 have xa := bz a fs ha.ps (by decide)
 have xb := bz b fs hb.ps (by decide)
 have m1 := fL b.1 a.1 fs hb.x ha.x (by decide)
 have m2 := fL b.2 a.2 fs hb.y ha.y (by decide)
 have s1 := hb.x.sub ha.x
 have s2 := hb.y.sub ha.y
 have p1 := gW t (b.1 - a.1) fs ht s1 (by decide)
 have p2 := gW t (b.2 - a.2) fs ht s2 (by decide)
 have u1 := ht.mul s1
 have u2 := ht.mul s2
 have q1 := aD a.1 (t * (b.1 - a.1)) fs ha.x u1 (by decide)
 have q2 := aD a.2 (t * (b.2 - a.2)) fs ha.y u2 (by decide)
 have v1 := ha.x.add u1
 have v2 := ha.y.add u2
 have sp := aQ _ _ fs v1 v2 (by decide)
 refine ⟨?_, ⟨v1.mono (by decide), v2.mono (by decide)⟩⟩
 refine n4 (s := ⟨[.val (pt a), .val (pt b), .val (fr t), .val (fr (a.1 + t * (b.1 - a.1))), .val (fr a.2), .val (fr b.1), .val (fr b.2)], fs⟩) ?_
 show Z6 D7 F6 Y3 bq K2 ⟨[.val (pt a), .val (pt b), .val (fr t), .no, .no, .no, .no], fs⟩ = _
 unfold Z6
 refine m7 (s1 := ⟨[.val (pt a), .val (pt b), .val (fr t), .val (fr a.1), .val (fr a.2), .val (fr b.1), .val (fr b.2)], fs⟩) (K9 (B0 (o6 rfl xa) (o6 rfl xb)) rfl) ?_
 refine m7 (s1 := ⟨[.val (pt a), .val (pt b), .val (fr t), .val (fr (a.1 + t * (b.1 - a.1))), .val (fr a.2), .val (fr b.1), .val (fr b.2)], fs⟩) (K9 (o6 (i3 rfl (i3 (o6 (i3 rfl (i3 (o6 (i3 rfl (i3 rfl rfl)) m1) rfl)) p1) rfl)) q1) rfl) ?_
 exact u9 (o6 (i3 rfl (i3 (o6 (i3 rfl (i3 (o6 (i3 rfl (i3 (o6 (i3 rfl (i3 rfl rfl)) m2) rfl)) p2) rfl)) q2) rfl)) sp)
theorem mJ {a b : Pt} {t : Rat} (h : a ≠ b) (ht : t ≠ 1) : b ≠ (a.1 + t * (b.1 - a.1), a.2 + t * (b.2 - a.2)) := fun e => by
 obtain ⟨a1, a2⟩ := a
 obtain ⟨b1, b2⟩ := b
 have e1 := congrArg Prod.fst e
 have e2 := congrArg Prod.snd e
 simp only at e1 e2
 have f1 : (1 - t) * (b1 - a1) = 0 := by grind
 have f2 : (1 - t) * (b2 - a2) = 0 := by grind
 have nt : 1 - t ≠ 0 := by grind
 have g1 : b1 - a1 = 0 := (Rat.mul_eq_zero.mp f1).resolve_left nt
 have g2 : b2 - a2 = 0 := (Rat.mul_eq_zero.mp f2).resolve_left nt
 exact h (Prod.ext (by grind) (by grind))
theorem qF {r : Int} (h0 : 0 ≤ r) (h1 : r < 4) : ∃ m : Int, k9 [D.int 9, .int 4, .int 2, .int 6] r = some (.int m) ∧ 2 ≤ m ∧ m ≤ 9 := by
 have : r = 0 ∨ r = 1 ∨ r = 2 ∨ r = 3 := by omega
 rcases this with rfl | rfl | rfl | rfl
 ·exact ⟨9, rfl, by decide, by decide⟩
 ·exact ⟨4, rfl, by decide, by decide⟩
 ·exact ⟨2, rfl, by decide, by decide⟩
 ·exact ⟨6, rfl, by decide, by decide⟩
theorem se {r : Int} (h0 : 0 ≤ r) (h1 : r < 4) : ∃ m : Int, k9 [D.int 9, .int 4, .int 3, .int 7] r = some (.int m) ∧ 2 ≤ m ∧ m ≤ 9 := by
 have : r = 0 ∨ r = 1 ∨ r = 2 ∨ r = 3 := by omega
 rcases this with rfl | rfl | rfl | rfl
 ·exact ⟨9, rfl, by decide, by decide⟩
 ·exact ⟨4, rfl, by decide, by decide⟩
 ·exact ⟨3, rfl, by decide, by decide⟩
 ·exact ⟨7, rfl, by decide, by decide⟩
noncomputable def fU : List D := [.tup [.int 3, .int 2], .tup [.int 2, .int 1], .tup [.int 1, .int 2], .tup [.int (-1), .int 1], .tup [.int 0, .int 1]]
theorem V5 {t : Rat} {n d : Int} (h : t.num = n ∧ (t.den : Int) = d) : fr t = .tup [.int n, .int d] := by unfold fr; rw [h.1, h.2]
theorem oH {r : Int} (h0 : 0 ≤ r) (h1 : r < 5) : ∃ t : Rat, k9 fU r = some (fr t) ∧ Sz 2 t ∧ t ≠ 1 := by
 have : r = 0 ∨ r = 1 ∨ r = 2 ∨ r = 3 ∨ r = 4 := by omega
 rcases this with rfl | rfl | rfl | rfl | rfl
 ·exact ⟨3 / 2, congrArg some (V5 (n := 3) (d := 2) (by decide +kernel)).symm, Sz.lit (by decide +kernel), by decide +kernel⟩
 ·exact ⟨2, congrArg some (V5 (n := 2) (d := 1) (by decide +kernel)).symm, Sz.lit (by decide +kernel), by decide +kernel⟩
 ·exact ⟨1 / 2, congrArg some (V5 (n := 1) (d := 2) (by decide +kernel)).symm, Sz.lit (by decide +kernel), by decide +kernel⟩
 ·exact ⟨-1, congrArg some (V5 (n := (-1)) (d := 1) (by decide +kernel)).symm, Sz.lit (by decide +kernel), by decide +kernel⟩
 ·exact ⟨0, congrArg some (V5 (n := 0) (d := 1) (by decide +kernel)).symm, Sz.lit (by decide +kernel), by decide +kernel⟩
noncomputable abbrev S6 : a7 := bZ R8 u7 T8 D1
theorem aA (p : Pt) : Nd [p] := fun i a b _ hb => by rw [List.getElem?_eq_none (by rw [List.length_singleton]; omega)] at hb; cases hb
theorem bh {n : Nat} {f : FS} {l0 : List Pt} (one : D) (x3 : Sl) (h0 : F9 30 l0) (n0 : Nd l0) (l1 : 1 ≤ l0.length) (l2 : l0.length ≤ 2) (h : Fd3 n f) (hn : n < 2 ^ 26) :
  ∃ qs f' s', i6 (i4 (a0 (dV 1) (a0 (c6 R8 (a0 (dV 0) (a0 (dV 2) (a0 (a5 a9 (k7 (l5 (a0 (dC (.int 9)) (a0 (dC (.int 4)) (a0 (dC (.int 3)) (a0 (dC (.int 7)) a6)))))) (c6 u7 (a0 (dV 0) (a0 (dC (.int 4)) a6)))) a6)))) a6))) ⟨[.val .feed, .val one, .own (l0.map pt), x3], some f⟩ = some (.ret (.tup [one, .tup (qs.map pt)]), ⟨s', some f'⟩) ∧ Ln7 qs ∧ Fd3 (n + 72) f' := by
 obtain ⟨r, f1, e1, a1, a2, h1⟩ := D4 4 h
 obtain ⟨m, q, m1, m2⟩ := se a1 a2
 obtain ⟨qs, f2, e2, z, nd, lo, hi, h2⟩ := gU (K := 30) ⟨m1, m2⟩ h0 n0 l1 l2 (by decide) (by decide) h1 (by omega)
 refine ⟨qs, f2, _, cj (B0 rfl (w6 (j6 rfl (j6 rfl (j6 (k8 (x := .lst [D.int 9, .int 4, .int 3, .int 7]) rfl (w6 (j6 rfl rfl) e1) (G9 q)) rfl))) e2)), ⟨fun p hp => (z p hp).mono (by decide), nd, lo, Nat.le_trans hi (by decide)⟩, h2.mono (by omega)⟩
theorem ux {n : Nat} {f : FS} (h : Fd3 n f) (hn : n < 2 ^ 25) : ∃ ps qs f', S6 [.feed] (some f) = some (.tup [.tup (ps.map pt), .tup (qs.map pt)], some f') ∧ Ln7 ps ∧ Ln7 qs ∧ Fd3 (n + 160) f' := by
 obtain ⟨p0, f1, e1, s0, h1⟩ := bM h (by omega)
 obtain ⟨r, f2, e2, a1, a2, h2⟩ := D4 4 h1
 obtain ⟨m, q, m1, m2⟩ := qF a1 a2
 obtain ⟨ps, f3, e3, z, nd, lo, hi, h3⟩ := gU (K := 5) (l0 := [p0]) ⟨m1, m2⟩ (fun p hp => by rw [List.mem_singleton.mp hp]; exact s0) (aA p0) (Nat.le_refl _) (show 1 ≤ 2 by decide) (by decide) (by decide) h2 (by omega)
 obtain ⟨ch, f4, e4, b1, b2, h4⟩ := D4 6 h3
 have L1 : Ln7 ps := ⟨fun p hp => (z p hp).mono (by decide), nd, lo, Nat.le_trans hi (by decide)⟩
 obtain ⟨A, a, b, rfl⟩ := gb lo
 have sa : PtS 7 a := z a (by simp)
 have sb : PtS 7 b := z b (by simp)
 have hab : a ≠ b := nd A.length a b (by simp) (by simp)
 have em : (A ++ [a, b]).map pt = A.map pt ++ [pt a, pt b] := by simp
 have head : ∀ R, (c7 (i9 (dB (a5 B3 (dL 3) (dC (.int 0)))) (F8 2 (l5 (a0 (c6 D1 (a0 (dV 0) a6)) a6))) j9) (c7 (i9 (dB (a5 T4 (dL 3) (i4 (a0 (dC (.int 1)) (a0 (dC (.int 2)) a6))))) (B6 2 (c6 T8 (a0 (a5 a9 (dL 1) (i0 j8 (dC (.int 2)))) (a0 (a5 a9 (dL 1) (i0 j8 (dC (.int 1)))) (a0 (a5 a9 (k7 (l5 (a0 (i4 (a0 (dC (.int 3)) (a0 (dC (.int 2)) a6))) (a0 (i4 (a0 (dC (.int 2)) (a0 (dC (.int 1)) a6))) (a0 (i4 (a0 (dC (.int 1)) (a0 (dC (.int 2)) a6))) (a0 (i4 (a0 (i0 j8 (dC (.int 1))) (a0 (dC (.int 1)) a6))) (a0 (i4 (a0 (dC (.int 0)) (a0 (dC (.int 1)) a6))) a6))))))) (c6 u7 (a0 (dV 0) (a0 (dC (.int 5)) a6)))) a6))))) j9) (i6 (i4 (a0 (dV 1) (a0 (c6 R8 (a0 (dV 0) (a0 (dV 2) (a0 (a5 a9 (k7 (l5 (a0 (dC (.int 9)) (a0 (dC (.int 4)) (a0 (dC (.int 3)) (a0 (dC (.int 7)) a6)))))) (c6 u7 (a0 (dV 0) (a0 (dC (.int 4)) a6)))) a6)))) a6)))))) ⟨[.val .feed, .val (.tup (A.map pt ++ [pt a, pt b])), .own [pt b], .val (.int ch)], some f4⟩ = R →
   T6 R8 u7 T8 D1 ⟨[.val .feed, .no, .no, .no], some f⟩ = R := fun R er => by
  unfold T6
  refine m7 (s1 := ⟨[.val .feed, .val (.tup (A.map pt ++ [pt a, pt b])), .no, .no], some f3⟩) (K9 (w6 (j6 rfl (j6 (hZ (av (j6 (w6 (j6 rfl rfl) e1) rfl) rfl)) (j6 (k8 (x := .lst [D.int 9, .int 4, .int 2, .int 6]) rfl (w6 (j6 rfl rfl) e2) (G9 q)) rfl))) (by rw [← em]; exact e3)) rfl) ?_
  refine m7 (s1 := ⟨[.val .feed, .val (.tup (A.map pt ++ [pt a, pt b])), .own [pt b], .no], some f3⟩) (jg (ds := [pt b]) (s1 := ⟨[.val .feed, .val (.tup (A.map pt ++ [pt a, pt b])), .no, .no], some f3⟩) (av (j6 (x := pt b) (k8 rfl (J0 rfl rfl) ((x8 _ _).trans L9)) rfl) rfl) rfl) ?_
  refine m7 (s1 := ⟨[.val .feed, .val (.tup (A.map pt ++ [pt a, pt b])), .own [pt b], .val (.int ch)], some f4⟩) (K9 (w6 (j6 rfl (j6 rfl rfl)) e4) rfl) er
 have fin : ∀ (qs : List Pt) (f' : FS) (s' : List Sl), T6 R8 u7 T8 D1 ⟨[.val .feed, .no, .no, .no], some f⟩ = some (.ret (.tup [.tup (A.map pt ++ [pt a, pt b]), .tup (qs.map pt)]), ⟨s', some f'⟩) → Ln7 qs → Fd3 (n + 160) f' → ∃ ps qs f', S6 [.feed] (some f) = some (.tup [.tup (ps.map pt), .tup (qs.map pt)], some f') ∧ Ln7 ps ∧ Ln7 qs ∧ Fd3 (n + 160) f' := fun qs f' s' e l hf =>
  ⟨A ++ [a, b], qs, f', by rw [em]; exact n4 (s := ⟨s', some f'⟩) e, L1, l, hf⟩
 have one30 : F9 30 [b] := fun p hp => by rw [List.mem_singleton.mp hp]; exact sb.mono (by decide)
 have c3 : ch = 0 ∨ (ch = 1 ∨ ch = 2) ∨ (ch = 3 ∨ ch = 4 ∨ ch = 5) := by omega
 rcases c3 with rfl | c3 | c3
 ·obtain ⟨q0, f5, e5, s5, h5⟩ := bM h4 (by omega)
  obtain ⟨qs, f6, s', e6, l6, h6⟩ := bh (.tup (A.map pt ++ [pt a, pt b])) (.val (.int 0)) (l0 := [q0]) (fun p hp => by rw [List.mem_singleton.mp hp]; exact s5.mono (by decide)) (aA q0) (Nat.le_refl _) (show 1 ≤ 2 by decide) h5 (by omega)
  refine fin qs f6 s' (head _ ?_) l6 (h6.mono (by omega))
  refine m7 (s1 := ⟨[.val .feed, .val (.tup (A.map pt ++ [pt a, pt b])), .own [pt q0], .val (.int 0)], some f5⟩) (U4 (A2 (k8 rfl rfl (P4 0 0))) (jg (ds := [pt q0]) (s1 := ⟨[.val .feed, .val (.tup (A.map pt ++ [pt a, pt b])), .own [pt b], .val (.int 0)], some f5⟩) (av (j6 (w6 (j6 rfl rfl) e5) rfl) rfl) rfl)) ?_
  exact m7 (F3 (A2 (k8 rfl rfl (show T4 (.int 0) (.tup [.int 1, .int 2]) = some (.bl false) from rfl))) rfl) e6
 ·obtain ⟨r5, f5, e5, d1, d2, h5⟩ := D4 5 h4
  obtain ⟨t, qt, st, nt⟩ := oH d1 d2
  obtain ⟨eb, sx⟩ := lF a b t (some f5) sa sb st
  obtain ⟨qs, f6, s', e6, l6, h6⟩ := bh (.tup (A.map pt ++ [pt a, pt b])) (.val (.int ch)) (l0 := [b, (a.1 + t * (b.1 - a.1), a.2 + t * (b.2 - a.2))]) (fun p hp => by
   rcases List.mem_cons.mp hp with rfl | hp
   ·exact sb.mono (by decide)
   ·rw [List.mem_singleton.mp hp]; exact sx) (Nd.snoc (ps := [b]) (aA b) fun z hz e => by cases hz; exact mJ hab nt e.symm) (show 1 ≤ 2 by decide) (Nat.le_refl _) h5 (by omega)
  have nz : B3 (.int ch) (.int 0) = some (.bl false) := by rw [P4, decide_eq_false (by omega)]
  have isin : T4 (.int ch) (.tup [.int 1, .int 2]) = some (.bl true) := by rcases c3 with rfl | rfl <;> rfl
  refine fin qs f6 s' (head _ ?_) l6 (h6.mono (by omega))
  refine m7 (s1 := ⟨[.val .feed, .val (.tup (A.map pt ++ [pt a, pt b])), .own [pt b], .val (.int ch)], some f4⟩) (F3 (A2 (k8 rfl rfl nz)) rfl) ?_
  refine m7 (s1 := ⟨[.val .feed, .val (.tup (A.map pt ++ [pt a, pt b])), .own [pt b, pt (a.1 + t * (b.1 - a.1), a.2 + t * (b.2 - a.2))], .val (.int ch)], some f5⟩) (U4 (A2 (k8 rfl rfl isin)) ?_) e6
  exact kE (ds := [pt b]) (xs := [pt b]) (s1 := ⟨[.val .feed, .val (.tup (A.map pt ++ [pt a, pt b])), .own [pt b], .val (.int ch)], some f5⟩) rfl (w6 (j6 (k8 rfl (J0 rfl rfl) ((x8 _ _).trans dF)) (j6 (k8 rfl (J0 rfl rfl) ((x8 _ _).trans L9)) (j6 (k8 (x := .lst fU) rfl (w6 (j6 rfl rfl) e5) (G9 qt)) rfl))) eb) rfl rfl
 ·have nz : B3 (.int ch) (.int 0) = some (.bl false) := by rw [P4, decide_eq_false (by omega)]
  have isin : T4 (.int ch) (.tup [.int 1, .int 2]) = some (.bl false) := by rcases c3 with rfl | rfl | rfl <;> rfl
  obtain ⟨qs, f6, s', e6, l6, h6⟩ := bh (.tup (A.map pt ++ [pt a, pt b])) (.val (.int ch)) (l0 := [b]) one30 (aA b) (Nat.le_refl _) (show 1 ≤ 2 by decide) h4 (by omega)
  refine fin qs f6 s' (head _ ?_) l6 (h6.mono (by omega))
  refine m7 (s1 := ⟨[.val .feed, .val (.tup (A.map pt ++ [pt a, pt b])), .own [pt b], .val (.int ch)], some f4⟩) (F3 (A2 (k8 rfl rfl nz)) rfl) ?_
  exact m7 (F3 (A2 (k8 rfl rfl isin)) rfl) e6
section
variable {k : Nat} (hk : k ≤ 2000)
include hk
end
section
variable {g h : Pt} (n : h ≠ g)
include n
end
theorem qL (r s : Int) : DL.pt ((r : Rat), (s : Rat)) = .tup [.int r, .int s, .int 1] := by
 have e : Nat.lcm (r : Rat).den (s : Rat).den = 1 := by simp
 unfold pt pX pY pL
 rw [e]
 simp
noncomputable def D2 (x y : Int) (m : Nat) : List (Int × Int) := (List.range m).map fun k : Nat => (x + ((k : Int) + 1) / 2, y + (k : Int) / 2)
noncomputable def R5 (z : Int × Int) : Pt := ((z.1 : Rat), (z.2 : Rat))
noncomputable def iD (z : Int × Int) : D := .tup [.int z.1, .int z.2, .int 1]
theorem gB (l : List (Int × Int)) : (l.map R5).map pt = l.map iD := by
 rw [List.map_map]
 exact List.map_congr_left fun z _ => qL z.1 z.2
theorem qB {z : Int × Int} (h1 : z.1.natAbs < 100) (h2 : z.2.natAbs < 100) : PtS 400 (R5 z) := by
 have S : ∀ {i : Int}, i.natAbs < 100 → Sz 400 (i : Rat) := fun {i} h => (Sz.int (k := 10) (pG (by omega)) (by decide)).mono (by decide)
 exact ⟨S h1, S h2⟩
theorem ek {x y : Int} {m : Nat} (hx : x.natAbs ≤ 10) (hy : y.natAbs ≤ 10) (lo : 2 ≤ m) (hi : m ≤ 9) : Ln7 ((D2 x y m).map R5) := by
 have len : ((D2 x y m).map R5).length = m := by simp [D2]
 refine ⟨fun p hp => ?_, fun i a b ha hb => ?_, by rw [len]; exact lo, by rw [len]; omega⟩
 ·obtain ⟨z, hz, rfl⟩ := List.mem_map.mp hp
  unfold D2 at hz
  obtain ⟨k, hk, rfl⟩ := List.mem_map.mp hz
  have := List.mem_range.mp hk
  exact qB (by show (x + ((k : Int) + 1) / 2).natAbs < 100; omega) (by show (y + (k : Int) / 2).natAbs < 100; omega)
 ·unfold D2 at ha hb
  rw [List.getElem?_map, List.getElem?_map] at ha hb
  have h1 : i + 1 < m := by
   by_cases c : i + 1 < m
   ·exact c
   ·rw [List.getElem?_eq_none (by rw [List.length_range]; omega)] at hb; cases hb
  rw [List.getElem?_range (by omega)] at ha
  rw [List.getElem?_range h1] at hb
  cases ha
  cases hb
  intro e
  have e1 := congrArg Prod.fst e
  have e2 := congrArg Prod.snd e
  have e1 : ((x + ((i : Int) + 1) / 2 : Int) : Rat) = ((x + (((i + 1 : Nat) : Int) + 1) / 2 : Int) : Rat) := e1
  have e2 : ((y + (i : Int) / 2 : Int) : Rat) = ((y + ((i + 1 : Nat) : Int) / 2 : Int) : Rat) := e2
  have e1 := Rat.intCast_inj.mp e1
  have e2 := Rat.intCast_inj.mp e2
  omega
noncomputable def N4 : List (Nat × Nat) := [(6, 5), (5, 6), (8, 3), (6, 6), (5, 5), (4, 8), (2, 9), (7, 4)]
theorem jM {p : Nat × Nat} (h : p ∈ N4) (fs : Option FS) : O8 [.int 0, .int 0, .int (p.1 : Int)] fs = some (.tup ((D2 0 0 p.1).map iD), fs) ∧ O8 [.int ((p.1 : Int) / 2), .int (((p.1 : Int) - 1) / 2), .int (p.2 : Int)] fs = some (.tup ((D2 ((p.1 : Int) / 2) (((p.1 : Int) - 1) / 2) p.2).map iD), fs) ∧
  (a9 (.tup ((D2 0 0 p.1).map iD)) (.int (-1)) = some (iD ((p.1 : Int) / 2, ((p.1 : Int) - 1) / 2))) := by
 simp only [N4, List.mem_cons, List.not_mem_nil, or_false] at h
 rcases h with rfl | rfl | rfl | rfl | rfl | rfl | rfl | rfl
 all_goals exact ⟨rfl, rfl, rfl⟩
theorem sA {p : Nat × Nat} (h : p ∈ N4) : 2 ≤ p.1 ∧ p.1 ≤ 9 ∧ 2 ≤ p.2 ∧ p.2 ≤ 9 := by
 simp only [N4, List.mem_cons, List.not_mem_nil, or_false] at h
 rcases h with rfl | rfl | rfl | rfl | rfl | rfl | rfl | rfl <;> decide
noncomputable abbrev U3 : a7 := bD F5 G5 O8 u7
noncomputable abbrev cF : DM := iX F5 G5 O8 u7
theorem rY {p : Nat × Nat} (h : p ∈ N4) (x3 x4 : Sl) (fs : Option FS) : ∃ y3 y4, cF ⟨[.val .feed, .val (.int (p.1 : Int)), .val (.int (p.2 : Int)), x3, x4], fs⟩ = some (.next, ⟨[.val .feed, .val (.int (p.1 : Int)), .val (.int (p.2 : Int)), y3, y4], fs⟩) := by
 obtain ⟨e1, e2, e3⟩ := jM h fs
 obtain ⟨b1, b2, b3, b4⟩ := sA h
 have l1 : Ln7 ((D2 0 0 p.1).map R5) := ek (by decide) (by decide) b1 b2
 have l2 : Ln7 ((D2 ((p.1 : Int) / 2) (((p.1 : Int) - 1) / 2) p.2).map R5) := ek (by omega) (by omega) b3 b4
 obtain ⟨R, t1, t2, t3⟩ := gO l1 l2 fs
 rw [gB, gB] at t1 t2
 have rp := iJ t3
 generalize (D2 0 0 p.1).map iD = O1 at *
 generalize (D2 ((p.1 : Int) / 2) (((p.1 : Int) - 1) / 2) p.2).map iD = O2 at *
 refine ⟨.val (.tup O1), .val (.tup O2), ?_⟩
 refine m7 (s1 := ⟨[.val .feed, .val (.int (p.1 : Int)), .val (.int (p.2 : Int)), .val (.tup O1), x4], fs⟩) (K9 (w6 (j6 rfl (j6 rfl (j6 rfl rfl))) e1) rfl) ?_
 refine m7 (s1 := ⟨[.val .feed, .val (.int (p.1 : Int)), .val (.int (p.2 : Int)), .val (.tup O1), .val (.tup O2)], fs⟩) (K9 (w6 (j6 (k8 (k8 rfl (J0 rfl rfl) e3) rfl rfl) (j6 (k8 (k8 rfl (J0 rfl rfl) e3) rfl rfl) (j6 rfl rfl))) e2) rfl) ?_
 exact F3 (A2 (k8 (Z0 (j6 (w6 (j6 rfl (j6 rfl rfl)) t1) rfl) rp) (Z0 (j6 (w6 (j6 rfl (j6 rfl rfl)) t2) rfl) rp) (by rw [gE]; simp))) rfl
noncomputable def pD (p : Nat × Nat) : D := .tup [.int (p.1 : Int), .int (p.2 : Int)]
theorem kQ {ps : List (Nat × Nat)} (h : ∀ p ∈ ps, p ∈ N4) (x1 x2 x3 x4 : Sl) (fs : Option FS) : ∃ y1 y2 y3 y4, A1 (o9 2 (l4 (c8 1) (l4 (c8 2) p7))) cF (ps.map pD) ⟨[.val .feed, x1, x2, x3, x4], fs⟩ = some (.next, ⟨[.val .feed, y1, y2, y3, y4], fs⟩) := by
 obtain ⟨s', e, y1, y2, y3, y4, rfl⟩ := ak (t := o9 2 (l4 (c8 1) (l4 (c8 2) p7))) (b := cF) (fun _ s => ∃ y1 y2 y3 y4, s = ⟨[.val .feed, y1, y2, y3, y4], fs⟩) (ps.map pD) 0 ⟨[.val .feed, x1, x2, x3, x4], fs⟩ ⟨_, _, _, _, rfl⟩ (by
  rintro i d s hd ⟨y1, y2, y3, y4, rfl⟩
  obtain ⟨p, hp, rfl⟩ := List.mem_map.mp (List.mem_of_getElem? hd)
  obtain ⟨z3, z4, e⟩ := rY (h p hp) y3 y4 fs
  exact ⟨_, _, rfl, .inl e, _, _, _, _, rfl⟩)
 exact ⟨y1, y2, y3, y4, e⟩
noncomputable def tabs7 : List (List (Nat × Nat)) := [[(6, 5), (5, 6)], [(8, 3), (6, 6)], [(5, 5), (4, 8)], [(2, 9), (7, 4)]]
theorem kb {r : Int} (h0 : 0 ≤ r) (h1 : r < 4) : ∃ ps : List (Nat × Nat), a9 (.lst (tabs7.map fun l => .lst (l.map pD))) (.int r) = some (.lst (ps.map pD)) ∧ ∀ p ∈ ps, p ∈ N4 := by
 have : r = 0 ∨ r = 1 ∨ r = 2 ∨ r = 3 := by omega
 rcases this with rfl | rfl | rfl | rfl
 ·exact ⟨[(6, 5), (5, 6)], rfl, by decide⟩
 ·exact ⟨[(8, 3), (6, 6)], rfl, by decide⟩
 ·exact ⟨[(5, 5), (4, 8)], rfl, by decide⟩
 ·exact ⟨[(2, 9), (7, 4)], rfl, by decide⟩
theorem pw {n : Nat} {f : FS} (h : Fd3 n f) (hn : n < 2 ^ 25) : ∃ f', U3 [.feed] (some f) = some (.bl true, some f') ∧ Fd3 (n + 1) f' := by
 obtain ⟨r, f1, e1, a1, a2, h1⟩ := D4 4 h
 obtain ⟨ps, q, m⟩ := kb a1 a2
 obtain ⟨y1, y2, y3, y4, e⟩ := kQ m .no .no .no .no (some f1)
 refine ⟨f1, n4 (s := ⟨[.val .feed, y1, y2, y3, y4], some f1⟩) ?_, h1⟩
 show aj F5 G5 O8 u7 ⟨[.val .feed, .no, .no, .no, .no], some f⟩ = _
 unfold aj
 exact m7 (eS (s1 := ⟨[.val .feed, .no, .no, .no, .no], some f1⟩) (k8 (x := .lst (tabs7.map fun l => .lst (l.map pD))) rfl (w6 (j6 rfl (j6 rfl rfl)) e1) q) e) rfl
noncomputable abbrev eE : DM := ji F5 G5 S6 U3 O0
noncomputable abbrev cG : DM := iY F5 G5 S6 U3 O0
theorem hU {ps qs : List Pt} (hp : Ln7 ps) (hq : Ln7 qs) (x0 x1 x2 x3 x4 : Sl) (fs : Option FS) : cG ⟨[x0, x1, x2, x3, x4, .val (.tup (ps.map pt)), .val (.tup (qs.map pt))], fs⟩ = some (.next, ⟨[x0, x1, x2, x3, x4, .val (.tup (ps.map pt)), .val (.tup (qs.map pt))], fs⟩) := by
 obtain ⟨R, t1, t2, t3⟩ := gO hp hq fs
 have rp := iJ t3
 exact F3 (A2 (k8 (Z0 (j6 (w6 (j6 rfl (j6 rfl rfl)) t1) rfl) rp) (Z0 (j6 (w6 (j6 rfl (j6 rfl rfl)) t2) rfl) rp) (by rw [gE]; simp))) rfl
theorem iM {t : D → DS → Option DS} {b : DM} {d : D} {r : List D} {s s1 s2 : DS} (h1 : t d s = some s1) (h2 : b s1 = some (.next, s2)) : A1 t b (d :: r) s = A1 t b r s2 := by simp [A1, h1, h2]
theorem tO {n : Nat} {f : FS} (h : Fd3 n f) (hn : n < 2 ^ 25) (x0 x2 x3 x4 x5 x6 : Sl) : ∃ y3 y4 y5 y6 f', eE ⟨[x0, .val .feed, x2, x3, x4, x5, x6], some f⟩ = some (.next, ⟨[x0, .val .feed, x2, y3, y4, y5, y6], some f'⟩) ∧ Fd3 (n + 160) f' := by
 obtain ⟨ps, qs, f1, e1, hp, hq, h1⟩ := ux h hn
 have c1 := hU hp hq x0 (.val .feed) x2 (.val (.tup (ps.map pt))) (.val (.tup (qs.map pt))) (some f1)
 have c2 := hU hq hp x0 (.val .feed) x2 (.val (.tup (ps.map pt))) (.val (.tup (qs.map pt))) (some f1)
 generalize ps.map pt = O1 at *
 generalize qs.map pt = O2 at *
 refine ⟨.val (.tup O1), .val (.tup O2), .val (.tup O2), .val (.tup O1), f1, ?_, h1⟩
 refine m7 (s1 := ⟨[x0, .val .feed, x2, .val (.tup O1), .val (.tup O2), x5, x6], some f1⟩) (K9 (w6 (j6 rfl rfl) e1) rfl) ?_
 refine eS (ds := [.tup [.tup O1, .tup O2], .tup [.tup O2, .tup O1]]) (s1 := ⟨[x0, .val .feed, x2, .val (.tup O1), .val (.tup O2), x5, x6], some f1⟩) (hZ (av (j6 (B0 rfl rfl) (j6 (B0 rfl rfl) rfl)) rfl)) ?_
 have u1 : cG ⟨[x0, .val .feed, x2, .val (.tup O1), .val (.tup O2), .val (.tup O1), .val (.tup O2)], some f1⟩ = _ := c1
 have u2 : cG ⟨[x0, .val .feed, x2, .val (.tup O1), .val (.tup O2), .val (.tup O2), .val (.tup O1)], some f1⟩ = _ := c2
 exact (iM rfl u1).trans ((iM rfl u2).trans rfl)
theorem math (ns : List Int) (hl : ns.length ≤ 63) : ∃ fs', aF F5 G5 S6 U3 O0 [.scr ns] none = some (.bl true, fs') := by
 have e0 := jL ns
 obtain ⟨f0, es, h0⟩ := pw (Fd3.zero ns) (by decide)
 obtain ⟨s', lp, x2, x3, x4, x5, x6, f', rfl, I⟩ := ak (t := c8 2) (b := eE) (fun i s => ∃ x2 x3 x4 x5 x6 f', s = ⟨[.val (.scr ns), .val .feed, x2, x3, x4, x5, x6], some f'⟩ ∧ Fd3 (1 + 160 * i) f') (B5 0 8) 0 ⟨[.val (.scr ns), .val .feed, .no, .no, .no, .no, .no], some f0⟩
  ⟨_, _, _, _, _, _, rfl, h0.mono (by omega)⟩ (by
   rintro i d s hd ⟨x2, x3, x4, x5, x6, f', rfl, I⟩
   obtain ⟨rfl, hi⟩ := iy hd
   rw [Nat.zero_add] at *
   obtain ⟨y3, y4, y5, y6, f'', e, I'⟩ := tO I (by omega) (.val (.scr ns)) (.val (.int ((0 : Int) + i))) x3 x4 x5 x6
   exact ⟨⟨[.val (.scr ns), .val .feed, .val (.int ((0 : Int) + i)), x3, x4, x5, x6], some f'⟩, _, rfl, .inl e, _, y3, y4, y5, y6, f'', rfl, I'.mono (by omega)⟩)
 refine ⟨some f', n4 (s := ⟨[.val (.scr ns), .val .feed, x2, x3, x4, x5, x6], some f'⟩) ?_⟩
 show af F5 G5 S6 U3 O0 ⟨[.val (.scr ns), .no, .no, .no, .no, .no, .no], none⟩ = _
 unfold af
 refine m7 (s1 := ⟨[.val (.scr ns), .val .feed, .no, .no, .no, .no, .no], some ⟨ns, 0, 0, 0, 1⟩⟩) (K9 (w6 (j6 rfl rfl) e0) rfl) ?_
 refine m7 (s1 := ⟨[.val (.scr ns), .val .feed, .no, .no, .no, .no, .no], some f0⟩) (F3 (tB (nj (w6 (j6 rfl rfl) es) rfl)) rfl) ?_
 exact m7 (lJ rfl (eA (n := 8) (by decide)) lp) rfl
end T
namespace T
open PySem PySem.Spec L2 DL
local macro_rules | `(tactic| wtm_at "c") => `(tactic| first | with_reducible exact lN | with_reducible exact ua | with_reducible exact tY | (with_reducible apply kS); exact cY (by assumption) | (with_reducible apply rK); exact cY (by assumption) | (with_reducible apply nA); exact cY (by assumption))
local macro_rules | `(tactic| wtm_at "o") => `(tactic| first | with_reducible exact mH | with_reducible exact pM | with_reducible exact pW | with_reducible exact tV | with_reducible exact pF | with_reducible exact ml)
local macro_rules | `(tactic| wtm_at "q") => `(tactic| first | with_reducible exact pN | with_reducible exact jx | with_reducible exact lE | with_reducible exact tG | with_reducible exact lM | with_reducible exact mF)
local macro_rules | `(tactic| wtm_at "r") => `(tactic| first | with_reducible exact tH _ | with_reducible exact mS | with_reducible exact mi | with_reducible exact kN)
local macro_rules | `(tactic| wtm_at "k") => `(tactic| first | with_reducible exact qz | with_reducible exact me | with_reducible exact di | (focus (with_reducible apply qC);exact rP (by assumption);exact (by assumption : Room _ _).gd))
local macro_rules | `(tactic| wtm_at "m") => `(tactic| first | with_reducible exact rX | with_reducible exact tK | with_reducible exact aU | with_reducible exact jt)
local macro_rules | `(tactic| wtm_at "b") => `(tactic| first | exact Blt.abs (by assumption) | exact Blt.isinstance (by assumption) | exact Blt.len (by assumption) | exact Blt.list (by assumption) | exact Blt.range (by assumption) | exact Blt.repr (by assumption) | exact Blt.tuple (by assumption))
local macro_rules | `(tactic| wtm_at "t") => `(tactic| first | exact qQ | exact lU | exact eu | exact qq | exact cR)
local macro_rules | `(tactic| wtm_at "n") => `(tactic| first | exact X3 | (refine V8 ?_);wtm_at "n")
local macro_rules | `(tactic| wtm_at "l") => `(tactic| first | exact Or.inl rfl | exact Or.inr rfl)
local macro_rules | `(tactic| wtm_at "x") => `(tactic| first | exact rfl | exact Or.inl rfl | exact Or.inr rfl | decide | (intro _;rfl))
local macro_rules | `(tactic| wtm_at "S") => `(tactic| first | (focus (with_reducible apply W9);all_goals wtm_at "x") | (focus (with_reducible apply E7);wtm_at "s";all_goals wtm_at "x") | (focus (with_reducible apply B4);wtm_at "s";wtm_at "S";all_goals wtm_at "x"))
local macro_rules | `(tactic| wtm_at "s") => `(tactic| first | (focus (with_reducible apply cU);assumption;exact rfl;wtm_at "l";wtm_at "E";all_goals wtm_at "x") | (focus (with_reducible apply Y2);wtm_at "E";all_goals wtm_at "x") | (focus (with_reducible apply X7);wtm_at "T";wtm_at "S";wtm_at "S";all_goals wtm_at "x") | (focus (with_reducible apply rl);wtm_at "E";wtm_at "G";all_goals wtm_at "x") | (focus (with_reducible apply qO);exact pv _;wtm_at "E";all_goals wtm_at "x") | (focus (with_reducible apply gF);assumption;exact rfl;wtm_at "l";wtm_at "F";all_goals wtm_at "x") | (focus (with_reducible apply ku);exact PassesOwn.never;exact rfl;wtm_at "E";wtm_at "G";wtm_at "S";all_goals wtm_at "x") | (focus (with_reducible apply ud);exact PassesOwn.never;wtm_at "T";wtm_at "S";all_goals wtm_at "x") | (focus (with_reducible apply mU);exact PassesOwn.never;exact rfl;exact rfl;exact Blt.range (by assumption);wtm_at "E";wtm_at "G";wtm_at "S";all_goals wtm_at "x") | (focus (with_reducible apply jK);exact pv _;wtm_at "E";all_goals wtm_at "x") | (focus (with_reducible apply tP);exact rfl;assumption;exact rfl;exact rfl;decide;exact rfl;exact rfl;wtm_at "A";exact rfl;all_goals wtm_at "x"))
local macro_rules | `(tactic| wtm_at "B") => `(tactic| first | (focus (with_reducible apply ma);exact pv _;all_goals wtm_at "x") | (focus (with_reducible apply EO.b);wtm_at "E";all_goals wtm_at "x"))
local macro_rules | `(tactic| wtm_at "E") => `(tactic| first | (focus (with_reducible apply N8);exact pv _;all_goals wtm_at "x") | (focus (with_reducible apply qP);all_goals wtm_at "x") | (focus (with_reducible apply qj);exact mB;exact mf;wtm_at "B";wtm_at "B";exact fun _ _ => rfl;all_goals wtm_at "x") | (focus (with_reducible apply sR);rotate_left;wtm_at "q";rotate_right;wtm_at "o";wtm_at "B";wtm_at "B";all_goals wtm_at "x") | (focus (with_reducible apply qH);assumption;assumption;(first | decide | exact Nat.le_refl _ | exact Nat.le_trans (by decide) (Nat.le_add_right _ _));exact rfl;wtm_at "A";wtm_at "n";all_goals wtm_at "x") | (focus (with_reducible apply lY);wtm_at "A";all_goals wtm_at "x") | (focus (with_reducible apply kC);decide +kernel;all_goals wtm_at "x") | (focus (with_reducible apply mj);all_goals wtm_at "x") | (focus (with_reducible apply jE);exact uo;exact nh;wtm_at "B";all_goals wtm_at "x") | (focus (with_reducible apply FO.v);wtm_at "F";all_goals wtm_at "x") | (focus (with_reducible apply lT);rotate_left;wtm_at "r";rotate_right;wtm_at "c";wtm_at "B";wtm_at "B";(first | exact fT _ | exact rfl);all_goals wtm_at "x") | (focus (with_reducible apply uF);wtm_at "T";wtm_at "E";wtm_at "E";all_goals wtm_at "x") | (focus (with_reducible apply pO);wtm_at "B";wtm_at "O";wtm_at "O";all_goals wtm_at "x") | (focus (with_reducible apply dR);wtm_at "E";all_goals wtm_at "x") | (focus (with_reducible apply uv);assumption;exact rfl;all_goals wtm_at "x") | (focus (with_reducible apply nr);rotate_left;wtm_at "m";rotate_right;wtm_at "k";exact rfl;wtm_at "b";wtm_at "t";wtm_at "a";all_goals wtm_at "x") | (focus (with_reducible apply aZ);rotate_left;wtm_at "m";rotate_right;wtm_at "k";exact rfl;wtm_at "b";wtm_at "t";wtm_at "a";all_goals wtm_at "x") | (focus (with_reducible apply uh);exact pv _;all_goals wtm_at "x") | (focus (with_reducible apply dU);wtm_at "E";all_goals wtm_at "x") | (focus (with_reducible apply ur);wtm_at "E";wtm_at "E";all_goals wtm_at "x") | (focus (with_reducible apply fk);wtm_at "E";wtm_at "E";all_goals wtm_at "x"))
local macro_rules | `(tactic| wtm_at "A") => `(tactic| first | (focus (with_reducible apply ac);wtm_at "E";wtm_at "A";all_goals wtm_at "x") | (focus (with_reducible apply cL);all_goals wtm_at "x"))
local macro_rules | `(tactic| wtm_at "a") => `(tactic| first | (focus (with_reducible apply bc);wtm_at "B";wtm_at "a";all_goals wtm_at "x") | (focus (with_reducible apply bL);all_goals wtm_at "x"))
local macro_rules | `(tactic| wtm_at "T") => `(tactic| first | (focus (with_reducible apply qM);rotate_left;wtm_at "r";rotate_right;wtm_at "c";wtm_at "B";wtm_at "B";(first | exact fT _ | exact rfl);all_goals wtm_at "x") | (focus (with_reducible apply WO.t);wtm_at "W";all_goals wtm_at "x") | (focus (with_reducible apply kJ);wtm_at "T";all_goals wtm_at "x") | (focus (with_reducible apply jc);wtm_at "B";all_goals wtm_at "x"))
local macro_rules | `(tactic| wtm_at "W") => `(tactic| first | (focus (with_reducible apply gy);wtm_at "T";wtm_at "W";all_goals wtm_at "x") | (focus (with_reducible apply uw);wtm_at "T";all_goals wtm_at "x") | (focus (with_reducible apply kI);wtm_at "T";wtm_at "W";all_goals wtm_at "x") | (focus (with_reducible apply qY);wtm_at "T";all_goals wtm_at "x"))
local macro_rules | `(tactic| wtm_at "O") => `(tactic| first | (focus (with_reducible apply uG);all_goals wtm_at "x") | (focus (with_reducible apply pU);wtm_at "B";all_goals wtm_at "x"))
local macro_rules | `(tactic| wtm_at "F") => `(tactic| first | (focus (with_reducible apply jY);wtm_at "A";all_goals wtm_at "x"))
local macro_rules | `(tactic| wtm_at "G") => `(tactic| first | (focus (with_reducible apply uN);wtm_at "h";all_goals wtm_at "x") | (focus (with_reducible apply kD);exact rfl;wtm_at "g";all_goals wtm_at "x"))
local macro_rules | `(tactic| wtm_at "h") => `(tactic| first | (focus (with_reducible apply bH);assumption;exact rfl;wtm_at "l";all_goals wtm_at "x"))
local macro_rules | `(tactic| wtm_at "g") => `(tactic| first | (focus (with_reducible apply jH);wtm_at "G";wtm_at "g";all_goals wtm_at "x") | (focus (with_reducible apply tD);all_goals wtm_at "x"))
local macro_rules | `(tactic| wtm_at "R") => `(tactic| first | (refine E7 ?_;wtm_at "s") | (refine B4 ?_ ?_;wtm_at "s";wtm_at "S"))
noncomputable def t5 (i : Nat) : Stmt := PySem.Challenge.pw_widelines_k47_lines_joined.main.body.getD i (.Pass ⟨0, 0, 0, 0⟩)
noncomputable abbrev bK : Stmt := t5 18
theorem sc_law_new_tape : FnScope ["_law_script"] ["_law_script"] (j4 bK) := ⟨rfl, rfl, rfl, by decide +kernel, rfl, by decide +kernel, by decide +kernel⟩
set_option maxHeartbeats 4000000 in
section
variable {P : Program} {w : World} {K : PySem.W.Frag} {mg : Str → Option Value} {base : Heap}
theorem rO {f : Addr} {fd : FuncData} (B : Blt mg) (F : GF K mg "_law_new_tape" bK f fd) : Cal P w K mg base 1 "_law_new_tape" ["_law_script"] (O0) :=
 t8 F (fun _ _ _ _ _ _ => Q0 fun _ => rfl) sc_law_new_tape fun cdv A outer s H E g hr =>
  have nd := sc_law_new_tape.nd
  (E7 (Y2 (lZ (pv 0))))
noncomputable abbrev da : Stmt := t5 19
theorem sc_law_draw : FnScope ["_law_tape", "_law_many", "_law_found", "_law_spot_here", "_law_cell", "_law_seed"] ["_law_tape", "_law_many"] (j4 da) := ⟨rfl, rfl, rfl, by decide +kernel, rfl, by decide +kernel, by decide +kernel⟩
set_option maxHeartbeats 4000000 in
theorem sH {f : Addr} {fd : FuncData} (B : Blt mg) (F : GF K mg "_law_draw" da f fd) : Cal P w K mg base 1 "_law_draw" ["_law_tape", "_law_many"] (N2) :=
 t8 F (fun _ _ _ _ _ _ => on2 fun _ _ => rfl) sc_law_draw fun cdv A outer s H E g hr =>
  have nd := sc_law_draw.nd
  by unfold M3;wtm_at "R"
noncomputable abbrev dD : Stmt := t5 35
theorem sc_law_stairs : FnScope ["_law_x", "_law_y", "_law_many"] ["_law_x", "_law_y", "_law_many"] (j4 dD) := ⟨rfl, rfl, rfl, by decide +kernel, rfl, by decide +kernel, by decide +kernel⟩
set_option maxHeartbeats 4000000 in
theorem nW {f : Addr} {fd : FuncData} (B : Blt mg) (F : GF K mg "_law_stairs" dD f fd) : Cal P w K mg base 1 "_law_stairs" ["_law_x", "_law_y", "_law_many"] (O8) :=
 t8 F (fun _ _ _ _ _ _ => on3 fun _ _ _ => rfl) sc_law_stairs fun cdv A outer s H E g hr =>
  have nd := sc_law_stairs.nd
  (E7 (Y2 (aZ di aU (by rfl) B.tuple cR (bc (EO.b (FO.v (fu (N' := ["_law_k", "_law_x", "_law_y"]) (idx := [0, 1]) rfl (eH (by rfl) (.cons rfl (.cons rfl .nil)) (by decide +kernel) rfl (by decide +kernel) (by rfl) (.cons rfl (by first | exact Or.inl rfl | exact Or.inr rfl) (by first | exact Or.inl rfl | exact Or.inr rfl) (.cons rfl (by first | exact Or.inl rfl | exact Or.inr rfl) (by first | exact Or.inl rfl | exact Or.inr rfl) .nil))) (rb (by rfl) B.range (N8 (pv 2))) (fun _ _ _ _ => bH (i := 0) (show List.Nodup (["_law_k", "_law_x", "_law_y"] : List Str) by decide +kernel) rfl (Or.inl rfl)) (fun _ _ _ _ _ => gm) (fun _ _ _ _ _ => (by wtm_at "E"))))) bL))))
noncomputable abbrev bb : Stmt := t5 10
theorem sc_sign : FnScope ["number"] ["number"] (j4 bb) := ⟨rfl, rfl, rfl, by decide +kernel, rfl, by decide +kernel, by decide +kernel⟩
set_option maxHeartbeats 4000000 in
theorem pg {f : Addr} {fd : FuncData} (B : Blt mg) (F : GF K mg "sign" bb f fd) : Cal P w K mg base 1 "sign" ["number"] (Q2) :=
 t8 F (fun _ _ _ _ _ _ => Q0 fun _ => rfl) sc_sign fun cdv A outer s H E g hr =>
  have nd := sc_sign.nd
  by unfold S5;wtm_at "R"
noncomputable abbrev bG : Stmt := t5 11
theorem sc_turn : FnScope ["a", "b", "c", "spread"] ["a", "b", "c"] (j4 bG) := ⟨rfl, rfl, rfl, by decide +kernel, rfl, by decide +kernel, by decide +kernel⟩
set_option maxHeartbeats 4000000 in
theorem mI {m_sign : a7} (C_sign : Cal P w K mg base 1 "sign" ["number"] m_sign) {f : Addr} {fd : FuncData} (B : Blt mg) (F : GF K mg "turn" bG f fd) : Cal P w K mg base 2 "turn" ["a", "b", "c"] (Z9 m_sign) :=
 t8 F (fun _ _ _ _ _ _ => on3 fun _ _ _ => rfl) sc_turn fun cdv A outer s H E g hr =>
  have nd := sc_turn.nd
  by unfold Y7;wtm_at "R"
noncomputable abbrev cZ : Stmt := t5 9
theorem sc_is_lesser : FnScope ["one", "other", "here", "there"] ["one", "other"] (j4 cZ) := ⟨rfl, rfl, rfl, by decide +kernel, rfl, by decide +kernel, by decide +kernel⟩
set_option maxHeartbeats 4000000 in
theorem qA {f : Addr} {fd : FuncData} (B : Blt mg) (F : GF K mg "is_lesser" cZ f fd) : Cal P w K mg base 1 "is_lesser" ["one", "other"] (P8) :=
 t8 F (fun _ _ _ _ _ _ => on2 fun _ _ => rfl) sc_is_lesser fun cdv A outer s H E g hr =>
  have nd := sc_is_lesser.nd
  by unfold U2;wtm_at "R"
noncomputable abbrev bS : Stmt := t5 13
theorem sc_goes_on : FnScope ["a", "b", "c"] ["a", "b", "c"] (j4 bS) := ⟨rfl, rfl, rfl, by decide +kernel, rfl, by decide +kernel, by decide +kernel⟩
set_option maxHeartbeats 4000000 in
theorem ju {m_is_lesser : a7} {m_turn : a7} (C_is_lesser : Cal P w K mg base 1 "is_lesser" ["one", "other"] m_is_lesser) (C_turn : Cal P w K mg base 2 "turn" ["a", "b", "c"] m_turn) {f : Addr} {fd : FuncData} (B : Blt mg) (F : GF K mg "goes_on" bS f fd) : Cal P w K mg base 3 "goes_on" ["a", "b", "c"] (ax m_is_lesser m_turn) :=
 t8 F (fun _ _ _ _ _ _ => on3 fun _ _ _ => rfl) sc_goes_on fun cdv A outer s H E g hr =>
  have nd := sc_goes_on.nd
  by unfold U0;wtm_at "R"
noncomputable abbrev ck : Stmt := t5 16
theorem sc_joined : FnScope ["one", "other", "ahead", "behind", "told"] ["one", "other"] (j4 ck) := ⟨rfl, rfl, rfl, by decide +kernel, rfl, by decide +kernel, by decide +kernel⟩
set_option maxHeartbeats 4000000 in
theorem pZ {m_goes_on : a7} (C_goes_on : Cal P w K mg base 3 "goes_on" ["a", "b", "c"] m_goes_on) (C_MOST_PLACES : Con K mg "MOST_PLACES" (.int 9)) (R_NoJoin : Rf1 K mg "NoJoin") {f : Addr} {fd : FuncData} (B : Blt mg) (F : GF K mg "joined" ck f fd) : CalX P w K mg base 4 "joined" ["one", "other"] (ai m_goes_on) :=
 uM F (fun _ _ _ _ _ _ => on2 fun _ _ => rfl) sc_joined fun cdv A outer s H E g R hr =>
  have nd := sc_joined.nd
  (B4 (by wtm_at "s") (B4 (by wtm_at "s") (B4 (X7 (by wtm_at "T") (E7 (gu (k := 0) R R_NoJoin (hr.mono (by decide)) rfl (by rfl) (by wtm_at "A") (V8 X3))) W9) (B4 (by wtm_at "s") (B4 (by wtm_at "s") (B4 (X7 (by wtm_at "T") (E7 (gu (k := 0) R R_NoJoin (hr.mono (by decide)) rfl (by rfl) (by wtm_at "A") (V8 X3))) W9) (by wtm_at "S")))))))
noncomputable abbrev cM : Stmt := t5 34
theorem sc_law_told : FnScope ["_law_one", "_law_other", "_law_found", "e", "_law_strange"] ["_law_one", "_law_other"] (j4 cM) := ⟨rfl, rfl, rfl, by decide +kernel, rfl, by decide +kernel, by decide +kernel⟩
set_option maxHeartbeats 4000000 in
theorem pE {m_joined : D3} (C_joined : CalX P w K mg base 4 "joined" ["one", "other"] m_joined) (RA : RfA K mg ["NoJoin"] ["WideError", "NoPaper", "NoOutline", "NoJoin", "TooMany", "NoText", "NoRow"]) (CK_WideError : Ck K mg ["NoJoin"] "WideError") {f : Addr} {fd : FuncData} (B : Blt mg) (F : GF K mg "_law_told" cM f fd) : Cal P w K mg base 5 "_law_told" ["_law_one", "_law_other"] (az m_joined) :=
 t8 F (fun _ _ _ _ _ _ => on2 fun _ _ => rfl) sc_law_told fun cdv A outer s H E g hr =>
  have nd := sc_law_told.nd
  (B4 (by wtm_at "s") (B4 (jz (fun pn xe g1 R _ _ _ => (E7 (nq nd (by rfl) (by first | exact Or.inl rfl | exact Or.inr rfl) (ql C_joined R _ hr (by decide) (by rfl) (by wtm_at "A") (V8 (V8 X3)))))) (fun _ => (B4 (cU (i := 4) nd rfl (by first | exact Or.inl rfl | exact Or.inr rfl) (fk (qW RA (T9 (by rfl) (RA.mm _ (by decide)) (T9 (by rfl) (RA.mm _ (by decide)) (T9 (by rfl) (RA.mm _ (by decide)) (T9 (by rfl) (RA.mm _ (by decide)) (T9 (by rfl) (RA.mm _ (by decide)) oA))))) (by rfl) (by decide) (by rfl) B.isinstance (N8 (pv 3))) (dU (dR (uJ RA.rx (by rfl) B.isinstance (by rfl) RA.ve (N8 (pv 3))))))) (E7 (X7 (WO.t (gy (jc (EO.b (nH RA (by rfl) (by rfl) B.isinstance (by rfl) (N8 (pv 3))))) (by wtm_at "W"))) (E7 (cU (i := 2) nd rfl (by first | exact Or.inl rfl | exact Or.inr rfl) (qI RA.rx (N8 (pv 3)) (by rfl)))) W9)))) CK_WideError (by rfl) nd (by rfl) (by rfl)) (by wtm_at "S")))
noncomputable abbrev aM : Stmt := t5 27
theorem sc_law_way : FnScope ["_law_a", "_law_b"] ["_law_a", "_law_b"] (j4 aM) := ⟨rfl, rfl, rfl, by decide +kernel, rfl, by decide +kernel, by decide +kernel⟩
set_option maxHeartbeats 4000000 in
theorem tm {f : Addr} {fd : FuncData} (B : Blt mg) (F : GF K mg "_law_way" aM f fd) : Cal P w K mg base 1 "_law_way" ["_law_a", "_law_b"] (G6) :=
 t8 F (fun _ _ _ _ _ _ => on2 fun _ _ => rfl) sc_law_way fun cdv A outer s H E g hr =>
  have nd := sc_law_way.nd
  by unfold iZ;wtm_at "R"
noncomputable abbrev aN : Stmt := t5 28
theorem sc_law_goes_on : FnScope ["_law_a", "_law_b", "_law_c", "_law_one", "_law_other"] ["_law_a", "_law_b", "_law_c"] (j4 aN) := ⟨rfl, rfl, rfl, by decide +kernel, rfl, by decide +kernel, by decide +kernel⟩
set_option maxHeartbeats 4000000 in
theorem ue {m_law_way : a7} (C_law_way : Cal P w K mg base 1 "_law_way" ["_law_a", "_law_b"] m_law_way) {f : Addr} {fd : FuncData} (B : Blt mg) (F : GF K mg "_law_goes_on" aN f fd) : Cal P w K mg base 2 "_law_goes_on" ["_law_a", "_law_b", "_law_c"] (U8 m_law_way) :=
 t8 F (fun _ _ _ _ _ _ => on3 fun _ _ _ => rfl) sc_law_goes_on fun cdv A outer s H E g hr =>
  have nd := sc_law_goes_on.nd
  by unfold Q9;wtm_at "R"
noncomputable abbrev aV : Stmt := t5 33
theorem sc_law_due : FnScope ["_law_one", "_law_other", "_law_some"] ["_law_one", "_law_other"] (j4 aV) := ⟨rfl, rfl, rfl, by decide +kernel, rfl, by decide +kernel, by decide +kernel⟩
set_option maxHeartbeats 4000000 in
theorem nU {m_law_goes_on : a7} (C_law_goes_on : Cal P w K mg base 2 "_law_goes_on" ["_law_a", "_law_b", "_law_c"] m_law_goes_on) {f : Addr} {fd : FuncData} (B : Blt mg) (F : GF K mg "_law_due" aV f fd) : Cal P w K mg base 3 "_law_due" ["_law_one", "_law_other"] (X0 m_law_goes_on) :=
 t8 F (fun _ _ _ _ _ _ => on2 fun _ _ => rfl) sc_law_due fun cdv A outer s H E g hr =>
  have nd := sc_law_due.nd
  by unfold S9;wtm_at "R"
noncomputable abbrev bx : Stmt := t5 36
theorem sc_law_stairs_right : FnScope ["_law_tape", "_law_a", "_law_b", "_law_one", "_law_other"] ["_law_tape"] (j4 bx) := ⟨rfl, rfl, rfl, by decide +kernel, rfl, by decide +kernel, by decide +kernel⟩
set_option maxHeartbeats 4000000 in
theorem uu {m_law_told : a7} {m_law_due : a7} {m_law_stairs : a7} {m_law_draw : a7} (C_law_told : Cal P w K mg base 5 "_law_told" ["_law_one", "_law_other"] m_law_told) (C_law_due : Cal P w K mg base 3 "_law_due" ["_law_one", "_law_other"] m_law_due) (C_law_stairs : Cal P w K mg base 1 "_law_stairs" ["_law_x", "_law_y", "_law_many"] m_law_stairs) (C_law_draw : Cal P w K mg base 1 "_law_draw" ["_law_tape", "_law_many"] m_law_draw) {f : Addr} {fd : FuncData} (B : Blt mg) (F : GF K mg "_law_stairs_right" bx f fd) : Cal P w K mg base 6 "_law_stairs_right" ["_law_tape"] (bD m_law_told m_law_due m_law_stairs m_law_draw) :=
 t8 F (fun _ _ _ _ _ _ => Q0 fun _ => rfl) sc_law_stairs_right fun cdv A outer s H E g hr =>
  have nd := sc_law_stairs_right.nd
  by unfold aj;wtm_at "R"
noncomputable abbrev cO : Stmt := t5 20
theorem sc_law_divisor : FnScope ["_law_one", "_law_other"] ["_law_one", "_law_other"] (j4 cO) := ⟨rfl, rfl, rfl, by decide +kernel, rfl, by decide +kernel, by decide +kernel⟩
set_option maxHeartbeats 4000000 in
theorem uc {f : Addr} {fd : FuncData} (B : Blt mg) (F : GF K mg "_law_divisor" cO f fd) : Cal P w K mg base 1 "_law_divisor" ["_law_one", "_law_other"] (B2) :=
 t8 F (fun _ _ _ _ _ _ => on2 fun _ _ => rfl) sc_law_divisor fun cdv A outer s H E g hr =>
  have nd := sc_law_divisor.nd
  by unfold W6;wtm_at "R"
noncomputable abbrev bo : Stmt := t5 21
theorem sc_law_low : FnScope ["_law_top", "_law_bottom", "_law_shared"] ["_law_top", "_law_bottom"] (j4 bo) := ⟨rfl, rfl, rfl, by decide +kernel, rfl, by decide +kernel, by decide +kernel⟩
set_option maxHeartbeats 4000000 in
theorem lH {m_law_divisor : a7} (C_law_divisor : Cal P w K mg base 1 "_law_divisor" ["_law_one", "_law_other"] m_law_divisor) {f : Addr} {fd : FuncData} (B : Blt mg) (F : GF K mg "_law_low" bo f fd) : Cal P w K mg base 2 "_law_low" ["_law_top", "_law_bottom"] (F0 m_law_divisor) :=
 t8 F (fun _ _ _ _ _ _ => on2 fun _ _ => rfl) sc_law_low fun cdv A outer s H E g hr =>
  have nd := sc_law_low.nd
  by unfold au;wtm_at "R"
noncomputable abbrev du : Stmt := t5 26
theorem sc_law_xy : FnScope ["_law_spot_here"] ["_law_spot_here"] (j4 du) := ⟨rfl, rfl, rfl, by decide +kernel, rfl, by decide +kernel, by decide +kernel⟩
set_option maxHeartbeats 4000000 in
theorem ub {m_law_low : a7} (C_law_low : Cal P w K mg base 2 "_law_low" ["_law_top", "_law_bottom"] m_law_low) {f : Addr} {fd : FuncData} (B : Blt mg) (F : GF K mg "_law_xy" du f fd) : Cal P w K mg base 3 "_law_xy" ["_law_spot_here"] (Y0 m_law_low) :=
 t8 F (fun _ _ _ _ _ _ => Q0 fun _ => rfl) sc_law_xy fun cdv A outer s H E g hr =>
  have nd := sc_law_xy.nd
  by unfold iq;wtm_at "R"
noncomputable abbrev dG : Stmt := t5 25
theorem sc_law_spot : FnScope ["_law_x", "_law_y", "_law_some", "_law_shared"] ["_law_x", "_law_y"] (j4 dG) := ⟨rfl, rfl, rfl, by decide +kernel, rfl, by decide +kernel, by decide +kernel⟩
set_option maxHeartbeats 4000000 in
theorem sE {m_law_divisor : a7} (C_law_divisor : Cal P w K mg base 1 "_law_divisor" ["_law_one", "_law_other"] m_law_divisor) {f : Addr} {fd : FuncData} (B : Blt mg) (F : GF K mg "_law_spot" dG f fd) : Cal P w K mg base 2 "_law_spot" ["_law_x", "_law_y"] (R0 m_law_divisor) :=
 t8 F (fun _ _ _ _ _ _ => on2 fun _ _ => rfl) sc_law_spot fun cdv A outer s H E g hr =>
  have nd := sc_law_spot.nd
  (B4 (by wtm_at "s") (B4 (by wtm_at "s") (E7 (Y2 (aZ di aU (by rfl) B.tuple cR (bc (EO.b (FO.v (fu (N' := ["_law_one", "_law_shared"]) (idx := [3]) rfl (eH (by rfl) (.cons rfl .nil) (by decide +kernel) rfl (by decide +kernel) (by rfl) (.cons rfl (by first | exact Or.inl rfl | exact Or.inr rfl) (by first | exact Or.inl rfl | exact Or.inr rfl) .nil)) (rB (N8 (pv 2))) (fun _ _ _ _ => bH (i := 0) (show List.Nodup (["_law_one", "_law_shared"] : List Str) by decide +kernel) rfl (Or.inl rfl)) (fun _ _ _ _ _ => gm) (fun _ _ _ _ _ => (by wtm_at "E"))))) bL))))))
noncomputable abbrev bX : Stmt := t5 29
theorem sc_law_near : FnScope ["_law_tape", "_law_x"] ["_law_tape"] (j4 bX) := ⟨rfl, rfl, rfl, by decide +kernel, rfl, by decide +kernel, by decide +kernel⟩
set_option maxHeartbeats 4000000 in
theorem uE {m_law_spot : a7} {m_law_low : a7} {m_law_draw : a7} (C_law_spot : Cal P w K mg base 2 "_law_spot" ["_law_x", "_law_y"] m_law_spot) (C_law_low : Cal P w K mg base 2 "_law_low" ["_law_top", "_law_bottom"] m_law_low) (C_law_draw : Cal P w K mg base 1 "_law_draw" ["_law_tape", "_law_many"] m_law_draw) {f : Addr} {fd : FuncData} (B : Blt mg) (F : GF K mg "_law_near" bX f fd) : Cal P w K mg base 3 "_law_near" ["_law_tape"] (X5 m_law_spot m_law_low m_law_draw) :=
 t8 F (fun _ _ _ _ _ _ => Q0 fun _ => rfl) sc_law_near fun cdv A outer s H E g hr =>
  have nd := sc_law_near.nd
  by unfold Y5;wtm_at "R"
noncomputable abbrev dI : Stmt := t5 22
theorem sc_law_plus : FnScope ["_law_one", "_law_other"] ["_law_one", "_law_other"] (j4 dI) := ⟨rfl, rfl, rfl, by decide +kernel, rfl, by decide +kernel, by decide +kernel⟩
set_option maxHeartbeats 4000000 in
theorem nZ {m_law_low : a7} (C_law_low : Cal P w K mg base 2 "_law_low" ["_law_top", "_law_bottom"] m_law_low) {f : Addr} {fd : FuncData} (B : Blt mg) (F : GF K mg "_law_plus" dI f fd) : Cal P w K mg base 3 "_law_plus" ["_law_one", "_law_other"] (ae m_law_low) :=
 t8 F (fun _ _ _ _ _ _ => on2 fun _ _ => rfl) sc_law_plus fun cdv A outer s H E g hr =>
  have nd := sc_law_plus.nd
  by unfold fX;wtm_at "R"
noncomputable abbrev dh : Stmt := t5 30
theorem sc_law_chain : FnScope ["_law_tape", "_law_firsts", "_law_most", "_law_some", "_law_many", "_law_k", "_law_one", "_law_x", "_law_y"] ["_law_tape", "_law_firsts", "_law_most"] (j4 dh) := ⟨rfl, rfl, rfl, by decide +kernel, rfl, by decide +kernel, by decide +kernel⟩
set_option maxHeartbeats 4000000 in
theorem qG {m_law_spot : a7} {m_law_plus : a7} {m_law_xy : a7} {m_law_goes_on : a7} {m_law_draw : a7} {m_law_near : a7} (C_law_spot : Cal P w K mg base 2 "_law_spot" ["_law_x", "_law_y"] m_law_spot) (C_law_plus : Cal P w K mg base 3 "_law_plus" ["_law_one", "_law_other"] m_law_plus) (C_law_xy : Cal P w K mg base 3 "_law_xy" ["_law_spot_here"] m_law_xy) (C_law_goes_on : Cal P w K mg base 2 "_law_goes_on" ["_law_a", "_law_b", "_law_c"] m_law_goes_on) (C_law_draw : Cal P w K mg base 1 "_law_draw" ["_law_tape", "_law_many"] m_law_draw) (C_law_near : Cal P w K mg base 3 "_law_near" ["_law_tape"] m_law_near) {f : Addr} {fd : FuncData} (B : Blt mg) (F : GF K mg "_law_chain" dh f fd) : Cal P w K mg base 4 "_law_chain" ["_law_tape", "_law_firsts", "_law_most"] (cX m_law_spot m_law_plus m_law_xy m_law_goes_on m_law_draw m_law_near) :=
 t8 F (fun _ _ _ _ _ _ => on3 fun _ _ _ => rfl) sc_law_chain fun cdv A outer s H E g hr =>
  have nd := sc_law_chain.nd
  (B4 (gF (i := 3) nd rfl (by first | exact Or.inl rfl | exact Or.inr rfl) (nM lV mL (by rfl) B.list eu (by wtm_at "a"))) (by wtm_at "S"))
noncomputable abbrev aC : Stmt := t5 24
theorem sc_law_product : FnScope ["_law_one", "_law_other"] ["_law_one", "_law_other"] (j4 aC) := ⟨rfl, rfl, rfl, by decide +kernel, rfl, by decide +kernel, by decide +kernel⟩
set_option maxHeartbeats 4000000 in
theorem mM {m_law_low : a7} (C_law_low : Cal P w K mg base 2 "_law_low" ["_law_top", "_law_bottom"] m_law_low) {f : Addr} {fd : FuncData} (B : Blt mg) (F : GF K mg "_law_product" aC f fd) : Cal P w K mg base 3 "_law_product" ["_law_one", "_law_other"] (cV m_law_low) :=
 t8 F (fun _ _ _ _ _ _ => on2 fun _ _ => rfl) sc_law_product fun cdv A outer s H E g hr =>
  have nd := sc_law_product.nd
  by unfold dQ;wtm_at "R"
noncomputable abbrev dM : Stmt := t5 23
theorem sc_law_minus : FnScope ["_law_one", "_law_other"] ["_law_one", "_law_other"] (j4 dM) := ⟨rfl, rfl, rfl, by decide +kernel, rfl, by decide +kernel, by decide +kernel⟩
set_option maxHeartbeats 4000000 in
theorem uj {m_law_low : a7} (C_law_low : Cal P w K mg base 2 "_law_low" ["_law_top", "_law_bottom"] m_law_low) {f : Addr} {fd : FuncData} (B : Blt mg) (F : GF K mg "_law_minus" dM f fd) : Cal P w K mg base 3 "_law_minus" ["_law_one", "_law_other"] (cP m_law_low) :=
 t8 F (fun _ _ _ _ _ _ => on2 fun _ _ => rfl) sc_law_minus fun cdv A outer s H E g hr =>
  have nd := sc_law_minus.nd
  by unfold dZ;wtm_at "R"
noncomputable abbrev aG : Stmt := t5 31
theorem sc_law_beyond : FnScope ["_law_a", "_law_b", "_law_share", "_law_x", "_law_y", "_law_far", "_law_high"] ["_law_a", "_law_b", "_law_share"] (j4 aG) := ⟨rfl, rfl, rfl, by decide +kernel, rfl, by decide +kernel, by decide +kernel⟩
set_option maxHeartbeats 4000000 in
theorem sN {m_law_spot : a7} {m_law_plus : a7} {m_law_product : a7} {m_law_minus : a7} {m_law_xy : a7} (C_law_spot : Cal P w K mg base 2 "_law_spot" ["_law_x", "_law_y"] m_law_spot) (C_law_plus : Cal P w K mg base 3 "_law_plus" ["_law_one", "_law_other"] m_law_plus) (C_law_product : Cal P w K mg base 3 "_law_product" ["_law_one", "_law_other"] m_law_product) (C_law_minus : Cal P w K mg base 3 "_law_minus" ["_law_one", "_law_other"] m_law_minus) (C_law_xy : Cal P w K mg base 3 "_law_xy" ["_law_spot_here"] m_law_xy) {f : Addr} {fd : FuncData} (B : Blt mg) (F : GF K mg "_law_beyond" aG f fd) : Cal P w K mg base 4 "_law_beyond" ["_law_a", "_law_b", "_law_share"] (dA m_law_spot m_law_plus m_law_product m_law_minus m_law_xy) :=
 t8 F (fun _ _ _ _ _ _ => on3 fun _ _ _ => rfl) sc_law_beyond fun cdv A outer s H E g hr =>
  have nd := sc_law_beyond.nd
  by unfold Z6;wtm_at "R"
noncomputable abbrev dk : Stmt := t5 32
theorem sc_law_two : FnScope ["_law_tape", "_law_one", "_law_firsts", "_law_choice"] ["_law_tape"] (j4 dk) := ⟨rfl, rfl, rfl, by decide +kernel, rfl, by decide +kernel, by decide +kernel⟩
set_option maxHeartbeats 4000000 in
theorem jA {m_law_chain : a7} {m_law_draw : a7} {m_law_beyond : a7} {m_law_near : a7} (C_law_chain : Cal P w K mg base 4 "_law_chain" ["_law_tape", "_law_firsts", "_law_most"] m_law_chain) (C_law_draw : Cal P w K mg base 1 "_law_draw" ["_law_tape", "_law_many"] m_law_draw) (C_law_beyond : Cal P w K mg base 4 "_law_beyond" ["_law_a", "_law_b", "_law_share"] m_law_beyond) (C_law_near : Cal P w K mg base 3 "_law_near" ["_law_tape"] m_law_near) {f : Addr} {fd : FuncData} (B : Blt mg) (F : GF K mg "_law_two" dk f fd) : Cal P w K mg base 5 "_law_two" ["_law_tape"] (bZ m_law_chain m_law_draw m_law_beyond m_law_near) :=
 t8 F (fun _ _ _ _ _ _ => Q0 fun _ => rfl) sc_law_two fun cdv A outer s H E g hr =>
  have nd := sc_law_two.nd
  by unfold T6;wtm_at "R"
noncomputable abbrev cw : Stmt := t5 37
theorem sc_law : FnScope ["_law_script", "_law_tape", "_law_k", "_law_one", "_law_other", "_law_ahead", "_law_behind"] ["_law_script"] (j4 cw) := ⟨rfl, rfl, rfl, by decide +kernel, rfl, by decide +kernel, by decide +kernel⟩
set_option maxHeartbeats 4000000 in
theorem pT {m_law_told : a7} {m_law_due : a7} {m_law_two : a7} {m_law_stairs_right : a7} {m_law_new_tape : a7} (C_law_told : Cal P w K mg base 5 "_law_told" ["_law_one", "_law_other"] m_law_told) (C_law_due : Cal P w K mg base 3 "_law_due" ["_law_one", "_law_other"] m_law_due) (C_law_two : Cal P w K mg base 5 "_law_two" ["_law_tape"] m_law_two) (C_law_stairs_right : Cal P w K mg base 6 "_law_stairs_right" ["_law_tape"] m_law_stairs_right) (C_law_new_tape : Cal P w K mg base 1 "_law_new_tape" ["_law_script"] m_law_new_tape) {f : Addr} {fd : FuncData} (B : Blt mg) (F : Fun K "law" "law" cw f fd) : X2 P w K mg base 7 f fd ["_law_script"] (aF m_law_told m_law_due m_law_two m_law_stairs_right m_law_new_tape) :=
 dX F sc_law fun cdv A outer s H E g hr =>
  have nd := sc_law.nd
  by unfold af;wtm_at "R"
end
noncomputable abbrev whole : a7 := (aF (az (ai (ax P8 (Z9 Q2)))) (X0 (U8 G6)) (bZ (cX (R0 B2) (ae (F0 B2)) (Y0 (F0 B2)) (U8 G6) N2 (X5 (R0 B2) (F0 B2) N2)) N2 (dA (R0 B2) (ae (F0 B2)) (cV (F0 B2)) (cP (F0 B2)) (Y0 (F0 B2))) (X5 (R0 B2) (F0 B2) N2)) (bD (az (ai (ax P8 (Z9 Q2)))) (X0 (U8 G6)) O8 N2) O0)
set_option maxHeartbeats 4000000 in
theorem all_mk {l : PySem.W.OpenLaw} {w : World} {K : PySem.W.Frag} {h : Heap} {mg : Str → Option Value} {fa : Addr} (X : K.In h) (G : h.Ns mainGlobals mg) (hfa : mg "law" = some (.ref fa)) {f1 f2 f3 f4 f5 f6 f7 f8 f9 f10 f11 f12 f13 f14 f15 f16 f17 f18 f19 f20 f21 f22 f23 f24 f25 : Addr} {d1 d2 d3 d4 d5 d6 d7 d8 d9 d10 d11 d12 d13 d14 d15 d16 d17 d18 d19 d20 d21 d22 d23 d24 d25 : FuncData} {t_MOST_PLACES_1 : Tok}
  (g1 : GF K mg "_law_new_tape" bK f1 d1)
  (g2 : GF K mg "_law_draw" da f2 d2)
  (g3 : GF K mg "_law_stairs" dD f3 d3)
  (g4 : GF K mg "sign" bb f4 d4)
  (g5 : GF K mg "turn" bG f5 d5)
  (g6 : GF K mg "is_lesser" cZ f6 d6)
  (g7 : GF K mg "goes_on" bS f7 d7)
  (g8 : GF K mg "joined" ck f8 d8)
  (g9 : GF K mg "_law_told" cM f9 d9)
  (g10 : GF K mg "_law_way" aM f10 d10)
  (g11 : GF K mg "_law_goes_on" aN f11 d11)
  (g12 : GF K mg "_law_due" aV f12 d12)
  (g13 : GF K mg "_law_stairs_right" bx f13 d13)
  (g14 : GF K mg "_law_divisor" cO f14 d14)
  (g15 : GF K mg "_law_low" bo f15 d15)
  (g16 : GF K mg "_law_xy" du f16 d16)
  (g17 : GF K mg "_law_spot" dG f17 d17)
  (g18 : GF K mg "_law_near" bX f18 d18)
  (g19 : GF K mg "_law_plus" dI f19 d19)
  (g20 : GF K mg "_law_chain" dh f20 d20)
  (g21 : GF K mg "_law_product" aC f21 d21)
  (g22 : GF K mg "_law_minus" dM f22 d22)
  (g23 : GF K mg "_law_beyond" aG f23 d23)
  (g24 : GF K mg "_law_two" dk f24 d24)
  (g25 : GF K mg "law" cw f25 d25)
  (g_MOST_PLACES : PySem.W.nsIn K mainGlobals "MOST_PLACES" = some (some (.int 9 t_MOST_PLACES_1)))
  (R_NoJoin : Rf1 K mg "NoJoin")
  (RA : RfA K mg ["NoJoin"] ["WideError", "NoPaper", "NoOutline", "NoJoin", "TooMany", "NoText", "NoRow"])
  (CK_WideError : Ck K mg ["NoJoin"] "WideError")
  (B : Blt mg) :
  ∃ fd : FuncData, (∀ (s : Shared) (v : Value), BindsTo s fd ⟨[v], []⟩ [("_law_script", v)]) ∧ ∀ base : Heap, K.In base → base.Ns mainGlobals mg → FnOk l.prog w K mg base E6 7 fa fd ["_law_script"] (S7 K 1 whole) := by
 have e := hfa.symm.trans g25.m
 cases e
 refine ⟨d25, uk g25.F fun _ _ _ _ _ _ _ _ => .of_eq rfl, fun base _ _ => ?_⟩
 have C_MOST_PLACES : Con K mg "MOST_PLACES" (.int 9) := ⟨_, PySem.W.mg_of X G g_MOST_PLACES, (nN _ _)⟩
 have C_law_new_tape := rO (P := l.prog) (w := w) (base := base) B g1
 have C_law_draw := sH (P := l.prog) (w := w) (base := base) B g2
 have C_law_stairs := nW (P := l.prog) (w := w) (base := base) B g3
 have C_sign := pg (P := l.prog) (w := w) (base := base) B g4
 have C_turn := mI C_sign B g5
 have C_is_lesser := qA (P := l.prog) (w := w) (base := base) B g6
 have C_goes_on := ju C_is_lesser C_turn B g7
 have C_joined := pZ C_goes_on C_MOST_PLACES R_NoJoin B g8
 have C_law_told := pE C_joined RA CK_WideError B g9
 have C_law_way := tm (P := l.prog) (w := w) (base := base) B g10
 have C_law_goes_on := ue C_law_way B g11
 have C_law_due := nU C_law_goes_on B g12
 have C_law_stairs_right := uu C_law_told C_law_due C_law_stairs C_law_draw B g13
 have C_law_divisor := uc (P := l.prog) (w := w) (base := base) B g14
 have C_law_low := lH C_law_divisor B g15
 have C_law_xy := ub C_law_low B g16
 have C_law_spot := sE C_law_divisor B g17
 have C_law_near := uE C_law_spot C_law_low C_law_draw B g18
 have C_law_plus := nZ C_law_low B g19
 have C_law_chain := qG C_law_spot C_law_plus C_law_xy C_law_goes_on C_law_draw C_law_near B g20
 have C_law_product := mM C_law_low B g21
 have C_law_minus := uj C_law_low B g22
 have C_law_beyond := sN C_law_spot C_law_plus C_law_product C_law_minus C_law_xy B g23
 have C_law_two := jA C_law_chain C_law_draw C_law_beyond C_law_near B g24
 exact pT C_law_told C_law_due C_law_two C_law_stairs_right C_law_new_tape B g25.F
end T
open PySem PySem.W PyProof.Rows
set_option maxRecDepth 100000 in
set_option maxHeartbeats 0 in
theorem PySem.Challenge.cw_widelines_k47_lines_joined_holds : PySem.Challenge.rw_widelines_k47_lines_joined.Holds := by
 w_on; o_law; k_head; (case hw => w_witness2)
 k_fill
 refine DL.walkD (l := PySem.Challenge.rw_widelines_k47_lines_joined) (m := T.whole) (k := 7) rfl rfl ⟨rfl, by decide, by decide, rfl⟩ (fun w h Y => PySem.W.kIn_of Y) ?F T.math
 case F =>
  intro w mg fa h KX G hmg
  refine' T.all_mk KX G hmg (DL.gf_mk KX G ?_ ?_ ?_ ?_) (DL.gf_mk KX G ?_ ?_ ?_ ?_) (DL.gf_mk KX G ?_ ?_ ?_ ?_) (DL.gf_mk KX G ?_ ?_ ?_ ?_) (DL.gf_mk KX G ?_ ?_ ?_ ?_) (DL.gf_mk KX G ?_ ?_ ?_ ?_) (DL.gf_mk KX G ?_ ?_ ?_ ?_) (DL.gf_mk KX G ?_ ?_ ?_ ?_) (DL.gf_mk KX G ?_ ?_ ?_ ?_) (DL.gf_mk KX G ?_ ?_ ?_ ?_) (DL.gf_mk KX G ?_ ?_ ?_ ?_) (DL.gf_mk KX G ?_ ?_ ?_ ?_) (DL.gf_mk KX G ?_ ?_ ?_ ?_) (DL.gf_mk KX G ?_ ?_ ?_ ?_) (DL.gf_mk KX G ?_ ?_ ?_ ?_) (DL.gf_mk KX G ?_ ?_ ?_ ?_) (DL.gf_mk KX G ?_ ?_ ?_ ?_) (DL.gf_mk KX G ?_ ?_ ?_ ?_) (DL.gf_mk KX G ?_ ?_ ?_ ?_) (DL.gf_mk KX G ?_ ?_ ?_ ?_) (DL.gf_mk KX G ?_ ?_ ?_ ?_) (DL.gf_mk KX G ?_ ?_ ?_ ?_) (DL.gf_mk KX G ?_ ?_ ?_ ?_) (DL.gf_mk KX G ?_ ?_ ?_ ?_) (DL.gf_mk KX G ?_ ?_ ?_ ?_) ?_ (DL.rf1_mk KX G ?_ ?_ (DL.xk1_mk (DL.xc_mk ?_ ?_ ?_ ?_ ?_ ?_) ?_ ?_) ?_ ?_ ?_ ?_ ?_ ?_) (DL.rfa_mk KX G ?_ (DL.memC (DL.rfx_mk ?_ (DL.xc_mk ?_ ?_ ?_ ?_ ?_ ?_) ?_ ?_ ?_ (DL.memC (DL.kit_mk KX G ?_ ?_) (DL.memC (DL.kit_mk KX G ?_ ?_) (DL.memC (DL.kit_mk KX G ?_ ?_) (DL.memC (DL.kit_mk KX G ?_ ?_) (DL.memC (DL.kit_mk KX G ?_ ?_) (DL.memC (DL.kit_mk KX G ?_ ?_) (DL.memC (DL.kit_mk KX G ?_ ?_) DL.mem0)))))))) DL.mem0) (DL.memC (DL.cls_mk KX G ?_) (DL.memC (DL.cls_mk KX G ?_) (DL.memC (DL.cls_mk KX G ?_) (DL.memC (DL.cls_mk KX G ?_) (DL.memC (DL.cls_mk KX G ?_) (DL.memC (DL.cls_mk KX G ?_) (DL.memC (DL.cls_mk KX G ?_) DL.mem0)))))))) (DL.ck_mk KX G ?_ ?_ ?_ (DL.memC (DL.sub_mk ?_ ?_) DL.mem0)) (DL.blt_mk KX G ?_ ?_ ?_ ?_ ?_ ?_ ?_ ?_ ?_ ?_ ?_ ?_ ?_ ?_ ?_ ?_ ?_ ?_ ?_)
  all_goals try k_is
  all_goals first | rfl | decide | exact ⟨rfl, rfl, rfl, by decide +kernel⟩ | exact DL.on2 (fun _ _ => rfl) | exact DL.on3 (fun _ _ _ => rfl)
