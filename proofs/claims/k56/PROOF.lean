import PyProof.Rows.All
import Wide.All
import OpenK.AllK
import Wide.FinOn
import Lean
import PyProof.EqAt
import PyProof.EqKinds
import PyProof.TupleCall
import PySem.Challenge.RW_widelines_k56_whole_marks_of_changed_lin
def PySem.W.Fast.tw1747956085281133308 : Unit := ()
def PySem.W.Fast.tw15434081387585063079 : Unit := ()
def PySem.W.Fast.tw17045710591545321727 : Unit := ()
def PySem.W.Fast.tw5236432396647953388 : Unit := ()
def PySem.W.Fast.tw989186754138628922 : Unit := ()
def PySem.W.Fast.tw7897044507350217287 : Unit := ()
def PySem.W.Fast.tw3919702215726286970 : Unit := ()
def PySem.W.Fast.tw3661105553624909501 : Unit := ()
def PySem.W.Fast.tw11869995824193065664 : Unit := ()
def PySem.W.Fast.tw17331901454159750564 : Unit := ()
def PySem.W.Fast.tw5544811325951384800 : Unit := ()
def PySem.W.Fast.tw12065171278272013781 : Unit := ()
def PySem.W.Fast.tw3463836612179380924 : Unit := ()
def PySem.W.Fast.tw3027367803206341785 : Unit := ()
def PySem.W.Fast.tw14197093606901521651 : Unit := ()
def PySem.W.Fast.tw16002004376075961781 : Unit := ()
def PySem.W.Fast.tw6699635238480564779 : Unit := ()
def PySem.W.Fast.tw15084458559903868204 : Unit := ()
def PySem.W.Fast.tw2139398670093233786 : Unit := ()
def PySem.W.Fast.tw2354162839596928239 : Unit := ()
def PySem.W.Fast.tw4775657716711419760 : Unit := ()
def PySem.W.Fast.tw8445551337724401309 : Unit := ()
def PySem.W.Fast.tw6297962886655690016 : Unit := ()
def PySem.W.Fast.tw8400841471373858540 : Unit := ()
def PySem.W.Fast.tw7581752134307768615 : Unit := ()
def PySem.W.Fast.tw17474306354286830085 : Unit := ()
def PySem.W.Fast.tw867255708935449355 : Unit := ()
def PySem.W.Fast.tw9265637721346793281 : Unit := ()
def PySem.W.Fast.tw1501329942021776692 : Unit := ()
local macro_rules | `(tactic| omega) => `(tactic| first | with_reducible assumption | decide | omega +splitMinMax)
theorem PySem.W.Fast.te8318958144794352273 : True := True.intro
set_option Elab.async false
set_option linter.all false
set_option maxRecDepth 100000
set_option bootstrap.genMatcherCode false
set_option genSizeOf false
namespace L2
open PySem PySem.Spec PyProof.Rows
noncomputable abbrev Key := Sum Int Str
noncomputable def a7q : Key → Value → Bool
 | .inl k, v => Value.isInt k v
 | .inr x, v => Value.isStrOf x v
noncomputable def b01 (w : World) : Key → Int
 | .inl k => hashInt k
 | .inr x => hashStr w x
theorem P7 : ∀ {k : Key} {v : Value}, a7q k v = true → (∃ i t, k = Sum.inl i ∧ v = Value.int i t) ∨ (∃ x t, k = Sum.inr x ∧ v = Value.str x t)
 | .inl i, v, h => by
  obtain ⟨t, e⟩ := Value.isInt_shape (k := i) (v := v) h
  exact .inl ⟨i, t, rfl, e⟩
 | .inr x, v, h => by
  obtain ⟨t, e⟩ := Value.isStrOf_shape (x := x) (v := v) h
  exact .inr ⟨x, t, rfl, e⟩
theorem b0P (a b : Int) : decide ((Sum.inl a : Key) = Sum.inl b) = (a == b) := by
 by_cases e : a = b
 ·subst e; simp
 ·have h : ¬ (Sum.inl a : Key) = Sum.inl b := fun q => e (Sum.inl.inj q)
  rw [decide_eq_false h]
  exact (beq_eq_false_iff_ne.mpr e).symm
theorem b2P (a b : Str) : decide ((Sum.inr a : Key) = Sum.inr b) = decide (a = b) := by
 by_cases e : a = b
 ·subst e; simp
 ·have h : ¬ (Sum.inr a : Key) = Sum.inr b := fun q => e (Sum.inr.inj q)
  rw [decide_eq_false h, decide_eq_false e]
theorem b06 (a : Int) (b : Str) : decide ((Sum.inl a : Key) = Sum.inr b) = false := decide_eq_false (fun q => nomatch q)
theorem b2s (a : Str) (b : Int) : decide ((Sum.inr a : Key) = Sum.inl b) = false := decide_eq_false (fun q => nomatch q)
noncomputable def a4E (prog : Program) (w : World) : PySem.KeyKind prog w Key where
 is := a7q
 hash := b01 w
 inj := fun v a b ha hb => by
  rcases P7 ha with ⟨i, t, rfl, rfl⟩ | ⟨x, t, rfl, rfl⟩
  ·rcases P7 hb with ⟨j, u, rfl, e⟩ | ⟨y, u, rfl, e⟩
   ·injection e with e1 _; rw [e1]
   ·exact nomatch e
  ·rcases P7 hb with ⟨j, u, rfl, e⟩ | ⟨y, u, rfl, e⟩
   ·exact nomatch e
   ·injection e with e1 _; rw [e1]
 byValue := fun k v h => by
  rcases P7 h with ⟨i, t, rfl, rfl⟩ | ⟨x, t, rfl, rfl⟩ <;> rfl
 pyHash := fun hv h => by
  rcases P7 hv with ⟨i, t, rfl, rfl⟩ | ⟨x, t, rfl, rfl⟩
  ·exact wpAny_pyHash_int h
  ·exact wpAny_pyHash_str h
 eqBool := fun hu hv h => by
  rcases P7 hu with ⟨i, t, rfl, rfl⟩ | ⟨x, t, rfl, rfl⟩
  ·rcases P7 hv with ⟨j, u, rfl, rfl⟩ | ⟨y, u, rfl, rfl⟩
   ·rw [b0P] at h; exact wpAny_eqBool_int h
   ·rw [b06] at h; exact SeqAt.EqAt.int_str i t y u _ _ _ _ h
  ·rcases P7 hv with ⟨j, u, rfl, rfl⟩ | ⟨y, u, rfl, rfl⟩
   ·rw [b2s] at h; exact SeqAt.EqAt.str_int x t j u _ _ _ _ h
   ·rw [b2P] at h; exact wpAny_eqBool_str h
 «strs» := fun k x t v h => by
  rcases P7 h with ⟨i, u, rfl, e⟩ | ⟨y, u, rfl, e⟩
  ·exact nomatch e
  ·injection e with e1 _
   subst e1
   cases v <;> rfl
inductive V where
 | non | bl (b : Bool) | int (i : Int) | str (x : Str) | byt (b : Array UInt8) | flt (b : UInt64) | ref (a : Addr) | ty (n : String)
 deriving DecidableEq
noncomputable def RelV : V → Value → Prop
 | .non, u => u = Value.none
 | .bl b, u => u = Value.bool b
 | .int i, u => ∃ t, u = Value.int i t
 | .str x, u => ∃ t, u = Value.str x t
 | .byt b, u => ∃ t, u = Value.bytes b t
 | .flt b, u => ∃ t, u = Value.float b t
 | .ref a, u => u = Value.ref a
 | .ty n, u => u = Value.type n
noncomputable abbrev Vals : List V → List Value → Prop := Paired RelV
theorem Vals.length {xs : List V} {us : List Value} (r : Vals xs us) : xs.length = us.length := Paired.length r
theorem Vals.get : ∀ {xs : List V} {us : List Value} {i : Nat} {x : V}, Vals xs us → xs[i]? = some x → ∃ u, us[i]? = some u ∧ RelV x u
 | _, _, _, _, .nil, e => by simp at e
 | _, _, 0, _, .cons r _, e => by simp at e; subst e; exact ⟨_, rfl, r⟩
 | _, _, i + 1, x, .cons _ t, e => by
  obtain ⟨u, h1, h2⟩ := Vals.get (i := i) (x := x) t (by simpa using e)
  exact ⟨u, by simpa using h1, h2⟩
theorem Vals.set {x : V} {u : Value} (r : RelV x u) : ∀ {xs : List V} {us : List Value} (i : Nat), Vals xs us → Vals (xs.set i x) (us.set i u)
 | _, _, _, .nil => .nil
 | _, _, 0, .cons _ t => .cons r t
 | _, _, i + 1, .cons q t => .cons q (Vals.set r i t)
theorem Vals.append : ∀ {xs ys : List V} {us ws : List Value}, Vals xs us → Vals ys ws → Vals (xs ++ ys) (us ++ ws) := by
 intro xs ys us ws h s
 induction h with
 | nil => exact s
 | cons r t ih => exact .cons r ih
theorem Vals.take : ∀ {xs : List V} {us : List Value} (n : Nat), Vals xs us → Vals (xs.take n) (us.take n)
 | _, _, 0, _ => .nil
 | _, _, _ + 1, .nil => .nil
 | _, _, n + 1, .cons r t => .cons r (Vals.take n t)
theorem Vals.drop : ∀ {xs : List V} {us : List Value} (n : Nat), Vals xs us → Vals (xs.drop n) (us.drop n)
 | _, _, 0, r => r
 | _, _, _ + 1, .nil => .nil
 | _, _, n + 1, .cons _ t => Vals.drop n t
noncomputable def a64 : Option V → Option Value → Prop
 | some v, some u => RelV v u
 | none, none => True
 | _, _ => False
noncomputable def KV {κ : Type} : List (κ × V) → List (κ × Value) → Prop := Paired fun (p : κ × V) (q : κ × Value) => p.1 = q.1 ∧ RelV p.2 q.2
noncomputable def kV : Key → V
 | .inl i => .int i
 | .inr x => .str x
inductive HO where
 | lst (xs : List V)
 | tup (xs : List V)
 | dK (kvs : List (Key × V)) | dT (kvs : List (List Key × V))
 | set (S : Int → Bool) (n : Nat)
 | ins (C dx : Addr) (fs : List (Str × V))
 | own (x : Addr)
 | xd (fs : List (Str × V))
 | met (f x : Addr)
 | rng (lo hi : Int)
 | frz (o : Obj) (u : HO)
 | tbl (ps : Array Value)
 | ext (φ : Heap → Prop)
noncomputable abbrev Hp := Addr → Option HO
noncomputable def upd (H : Hp) (a : Addr) (o : HO) : Hp := fun b => if b = a then some o else H b
theorem A9 {H : Hp} {a : Addr} {o : HO} : upd H a o a = some o := by unfold upd; rw [if_pos rfl]
theorem p8 {H : Hp} {a b : Addr} {o : HO} (h : b ≠ a) : upd H a o b = H b := by unfold upd; rw [if_neg h]
theorem L5 {H : Hp} {a b : Addr} {o : HO} (h : H a = some o) (h' : H b = none) : a ≠ b := by
 intro e; subst e; rw [h] at h'; cases h'
section
variable (P : Program) (w : World)
noncomputable def ObjOk (H : Hp) (h : Heap) (a : Addr) : HO → Prop
 | .lst xs => xs.length ≤ sizeLine ∧ ∃ (its : List Value) (n : Nat), Vals xs its ∧ h.get? a = some { cls := .type "list", data := .seq its.toArray n }
 | .tup xs => xs.length ≤ sizeLine ∧ ∃ its : List Value, Vals xs its ∧ IsTup h a its.toArray
 | .dK kvs => kvs.length ≤ sizeLine ∧ (a == sysModules) = false ∧ ∃ vs, KV kvs vs ∧ h.DictOf (a4E P w) a vs
 | .dT kvs => kvs.length ≤ sizeLine ∧ (a == sysModules) = false ∧ ∃ xs : List (List Key × Addr × Value),
   Paired (fun (p : List Key × V) (q : List Key × Addr × Value) => p.1 = q.1 ∧ H q.2.1 = some (.tup (p.1.map kV)) ∧ RelV p.2 q.2.2) kvs xs ∧
   ∃ o es ep, h.get? a = some o ∧ o.ExactDict ∧ o.data = .dict es ep ∧ es.toList = xs.map (entryOfKey (tupleKind (a4E P w))) ∧ (xs.map (·.1)).Nodup
 | .set S n => h.SetOf (intKind P w) a S n
 | .ins C dx fs => H dx = some (.own a) ∧ fs.length ≤ 1000 ∧ dx ≠ a ∧ h.get? a = some (PySem.W.instObj C dx) ∧
   ∃ mA, h.Ns1 dx mA ∧ (∀ f, a64 (fs.lookup f) (mA f)) ∧ PySem.Within mA (fs.map (·.1))
 | .own _ => ∃ o, h.get? a = some o
 | .xd fs => ∃ mA, h.Ns1 a mA ∧ ∀ f, a64 (fs.lookup f) (mA f)
 | .rng lo hi => ∃ t u v, h.get? a = some { cls := .type "range", data := .fields #[.int lo t, .int hi u, .int 1 v] }
 | .frz o u => h.get? a = some o ∧ ObjOk H h a u
 | .tbl ps => h.get? a = some { cls := .none, data := .fields ps }
 | .met f x => h.get? a = some (PySem.W.methodObj (.ref f) (.ref x))
 | .ext φ => φ h ∧ (∃ o, h.get? a = some o) ∧ ∀ h1 h2 : Heap, φ h1 → (∀ o, h1.get? a = some o → h2.get? a = some o) → φ h2
noncomputable def HOk (H : Hp) (h : Heap) : Prop := ∀ a o, H a = some o → ObjOk P w H h a o
end
section
variable {P : Program} {w : World} {H H' : Hp} {h h' : Heap} {a : Addr} {o : HO}
theorem ObjOk.lt (x : ObjOk P w H h a o) : a < h.objs.size := by
 cases o with
 | lst xs => obtain ⟨_, _, _, _, e⟩ := x; exact Heap.lt_size e
 | tup xs => obtain ⟨_, _, _, p⟩ := x; exact p.lt
 | dK kvs => obtain ⟨_, _, _, _, o, _, _, e, _⟩ := x; exact Heap.lt_size e
 | dT kvs => obtain ⟨_, _, _, _, o, _, _, e, _⟩ := x; exact Heap.lt_size e
 | set S n => obtain ⟨o, _, _, _, e, _⟩ := x; exact Heap.lt_size e
 | ins C dx fs => obtain ⟨_, _, _, e, _⟩ := x; exact Heap.lt_size e
 | own y => obtain ⟨_, e⟩ := x; exact Heap.lt_size e
 | xd fs => obtain ⟨_, ⟨_, _, _, e, _⟩, _⟩ := x; exact Heap.lt_size e
 | rng lo hi => obtain ⟨_, _, _, e⟩ := x; exact Heap.lt_size e
 | frz ob u => obtain ⟨e, _⟩ := x; exact Heap.lt_size e
 | tbl ps => exact Heap.lt_size (show h.get? a = some _ from x)
 | met f y => exact Heap.lt_size (show h.get? a = some _ from x)
 | ext φ => obtain ⟨_, ⟨_, e⟩, _⟩ := x; exact Heap.lt_size e
theorem Paired.mapP {α β : Type} {F G : α → β → Prop} : ∀ {l₁ : List α} {l₂ : List β}, Paired F l₁ l₂ → (∀ a b, F a b → G a b) → Paired G l₁ l₂ := by
 intro l₁ l₂ h f
 induction h with
 | nil => exact .nil
 | cons r t ih => exact .cons (f _ _ r) ih
theorem ObjOk.stay (x : ObjOk P w H h a o) (k : ∀ b u, (b = a ∨ H b = some (.own a)) → h.get? b = some u → h'.get? b = some u)
  (ho : ∀ b, H b = some (.own a) → H' b = some (.own a)) (ht : ∀ b xs, H b = some (.tup xs) → H' b = some (.tup xs)) : ObjOk P w H' h' a o := by
 induction o with
 | lst xs => obtain ⟨z, its, n, r, e⟩ := x; exact ⟨z, its, n, r, k _ _ (.inl rfl) e⟩
 | tup xs => obtain ⟨z, its, r, ob, e, c⟩ := x; exact ⟨z, its, r, ob, k _ _ (.inl rfl) e, c⟩
 | dK kvs => obtain ⟨z, y, vs, r, ob, es, ep, e, c⟩ := x; exact ⟨z, y, vs, r, ob, es, ep, k _ _ (.inl rfl) e, c⟩
 | dT kvs =>
  obtain ⟨z, y, xs, r, ob, es, ep, e, c⟩ := x
  exact ⟨z, y, xs, Paired.mapP r fun p q z => ⟨z.1, ht _ _ z.2.1, z.2.2⟩, ob, es, ep, k _ _ (.inl rfl) e, c⟩
 | set S n => obtain ⟨ob, es, ep, t, e, c⟩ := x; exact ⟨ob, es, ep, t, k _ _ (.inl rfl) e, c⟩
 | ins C dx fs =>
  obtain ⟨d, z, ne, e, mA, ⟨od, es, ep, e2, c⟩, r⟩ := x
  exact ⟨ho _ d, z, ne, k _ _ (.inl rfl) e, mA, ⟨od, es, ep, k _ _ (.inr d) e2, c⟩, r⟩
 | own y => obtain ⟨ob, e⟩ := x; exact ⟨ob, k _ _ (.inl rfl) e⟩
 | xd fs => obtain ⟨mA, ⟨od, es, ep, e, c⟩, r⟩ := x; exact ⟨mA, ⟨od, es, ep, k _ _ (.inl rfl) e, c⟩, r⟩
 | rng lo hi => obtain ⟨t, u, v, e⟩ := x; exact ⟨t, u, v, k _ _ (.inl rfl) e⟩
 | frz ob u ih => obtain ⟨e, q⟩ := x; exact ⟨k _ _ (.inl rfl) e, ih q⟩
 | tbl ps =>
  have e : h.get? a = some { cls := .none, data := .fields ps } := x
  show h'.get? a = some { cls := .none, data := .fields ps }
  exact k a _ (.inl rfl) e
 | met f y =>
  have e : h.get? a = some (PySem.W.methodObj (.ref f) (.ref y)) := x
  show h'.get? a = some (PySem.W.methodObj (.ref f) (.ref y))
  exact k a _ (.inl rfl) e
 | ext φ => obtain ⟨p, ⟨o, e⟩, st⟩ := x; exact ⟨st _ _ p fun o q => k _ _ (.inl rfl) q, ⟨o, k _ _ (.inl rfl) e⟩, st⟩
theorem HOk.lt (x : HOk P w H h) (e : H a = some o) : a < h.objs.size := (x a o e).lt
theorem HOk.fresh (x : HOk P w H h) (e : h.objs.size ≤ a) : H a = none := by
 cases q : H a with
 | none => rfl
 | some u => exact absurd (Nat.lt_of_lt_of_le (x.lt q) e) (Nat.lt_irrefl _)
theorem HOk.kept (x : HOk P w H h) (k : ∀ b u, h.get? b = some u → h'.get? b = some u) : HOk P w H h' := fun a o e =>
 (x a o e).stay (fun b u _ q => k b u q) (fun _ q => q) fun _ _ q => q
theorem HOk.laid (x : HOk P w H h) (k : ∀ b u, h.get? b = some u → h'.get? b = some u) (hp : h.objs.size ≤ a) (new : ObjOk P w (upd H a o) h' a o) : HOk P w (upd H a o) h' := fun b u e => by
 have hn := x.fresh hp
 by_cases hb : b = a
 ·subst hb; rw [A9] at e; cases e; exact new
 ·rw [p8 hb] at e
  exact (x b u e).stay (fun c v _ q => k c v q) (fun c q => by rw [p8 (L5 q hn)]; exact q) fun c xs q => by rw [p8 (L5 q hn)]; exact q
end
noncomputable def Rd (H : Hp) (a : Addr) (u : HO) : Prop := H a = some u ∨ ∃ o, H a = some (.frz o u)
theorem Rd.ok {P : Program} {w : World} {H : Hp} {h : Heap} {a : Addr} {u : HO} (r : Rd H a u) (x : HOk P w H h) : ObjOk P w H h a u := by
 rcases r with r | ⟨o, r⟩
 ·exact x a u r
 ·obtain ⟨_, q⟩ := x a _ r
  exact q
noncomputable def Mut : Option HO → Prop
 | some (.lst _) => True
 | some (.dK _) => True
 | some (.dT _) => True
 | some (.set _ _) => True
 | some (.ins _ _ _) => True
 | some (.ext _) => True
 | _ => False
section
variable {P : Program} {w : World} {H : Hp} {h h' : Heap} {x e : Addr} {o' : HO}
theorem HOk.write (ok : HOk P w H h) (mu : Mut (H x)) (he : e = x ∨ H e = some (.own x)) (k : ∀ b u, b ≠ e → h.get? b = some u → h'.get? b = some u) (heo : ∃ u, h'.get? e = some u)
  (new : ObjOk P w (upd H x o') h' x o') : HOk P w (upd H x o') h' := fun b u q => by
 have nown : ∀ c y, H c = some (.own y) → c ≠ x := fun c y r z => by subst z; rw [r] at mu; exact mu
 have ntup : ∀ c xs, H c = some (.tup xs) → c ≠ x := fun c xs r z => by subst z; rw [r] at mu; exact mu
 by_cases hb : b = x
 ·subst hb; rw [A9] at q; cases q; exact new
 ·rw [p8 hb] at q
  by_cases hbe : b = e
  ·have q' : H b = some (.own x) := by
    rcases he with z | z
    ·exact absurd (hbe.trans z) hb
    ·rw [hbe]; exact z
   rw [q] at q'; cases q'
   obtain ⟨v, hv⟩ := heo
   exact ⟨v, by rw [hbe]; exact hv⟩
  ·refine (ok b u q).stay (fun c v hc r => k c v ?_ r) (fun c r => by rw [p8 (nown c b r)]; exact r) fun c xs r => by rw [p8 (ntup c xs r)]; exact r
   rcases hc with rfl | hc
   ·exact hbe
   ·rintro rfl
    rcases he with z | z
    ·exact nown c b hc z
    ·rw [hc] at z; cases z; exact hb rfl
end
structure Un (fs ex : List Addr) (H H' : Hp) (h h' : Heap) : Prop where
 keep : ∀ b o, h.get? b = some o → H b = none → b ∉ fs → b ∉ ex → h'.get? b = some o
 slot : ∀ b o, h.get? b = some o → H b = none → b ∈ fs → b ∉ ex → ∃ sl, h'.get? b = some { o with slots := sl }
 free : ∀ b o, h.get? b = some o → H b = none → b ∉ ex → H' b = none
 there : ∀ b o, h.get? b = some o → b ∉ ex → ∃ o', h'.get? b = some o'
 tups : ∀ b xs, H b = some (.tup xs) → H' b = some (.tup xs)
 frzs : ∀ b o u, H b = some (.frz o u) → H' b = some (.frz o u)
 tbls : ∀ b ps, H b = some (.tbl ps) → ∃ more, H' b = some (.tbl (ps ++ more))
section
variable {fs fs' ex ex' : List Addr} {H H1 H2 : Hp} {h h1 h2 h' : Heap} {a x e : Addr} {o : HO}
theorem Un.any (u : Un fs ex H H1 h h1) {b : Addr} {ob : Obj} (q : h.get? b = some ob) (n : H b = none) (hx : b ∉ ex) : ∃ sl, h1.get? b = some { ob with slots := sl } := by
 by_cases hb : b ∈ fs
 ·exact u.slot b ob q n hb hx
 ·exact ⟨ob.slots, u.keep b ob q n hb hx⟩
theorem Un.kept (k : ∀ b u, h.get? b = some u → h'.get? b = some u) : Un fs ex H H h h' :=
 ⟨fun b ob q _ _ _ => k b ob q, fun b ob q _ _ _ => ⟨ob.slots, k b ob q⟩, fun _ _ _ n _ => n, fun b ob q _ => ⟨ob, k b ob q⟩, fun _ _ q => q, fun _ _ _ q => q, fun _ ps q => ⟨#[], by rw [q]; simp⟩⟩
theorem Un.refl : Un fs ex H H h h := Un.kept fun _ _ q => q
theorem Un.laid (k : ∀ b u, h.get? b = some u → h'.get? b = some u) (hp : h.objs.size ≤ a) (hn : H a = none) : Un fs ex H (upd H a o) h h' where
 keep := fun b u q _ _ _ => k b u q
 slot := fun b u q _ _ _ => ⟨u.slots, k b u q⟩
 free := fun b u q n _ => by rw [p8 (Nat.ne_of_lt (Nat.lt_of_lt_of_le (Heap.lt_size q) hp))]; exact n
 there := fun b u q _ => ⟨u, k b u q⟩
 tups := fun b xs q => by rw [p8 (L5 q hn)]; exact q
 frzs := fun b u xs q => by rw [p8 (L5 q hn)]; exact q
 tbls := fun b ps q => ⟨#[], by rw [p8 (L5 q hn), q]; simp⟩
theorem Un.write (mu : Mut (H x)) (he : e = x ∨ H e = some (.own x)) (k : ∀ b u, b ≠ e → h.get? b = some u → h'.get? b = some u) (heo : ∃ u, h'.get? e = some u) : Un fs ex H (upd H x o) h h' := by
 have hx : ∀ b, H b = none → b ≠ x := fun b n z => by subst z; rw [n] at mu; exact mu
 have hb : ∀ b, H b = none → b ≠ e := fun b n z => by
  subst z
  rcases he with r | r
  ·exact hx b n r
  ·rw [n] at r; cases r
 have hm : ∀ b u, H b = some u → ¬ Mut (some u) → b ≠ x := fun b u q nm z => by subst z; rw [q] at mu; exact nm mu
 refine ⟨fun b u q n _ _ => k b u (hb b n) q, fun b u q n _ _ => ⟨u.slots, k b u (hb b n) q⟩, fun b u q n _ => by rw [p8 (hx b n)]; exact n, fun b u q _ => ?_,
  fun b xs q => by rw [p8 (hm b _ q fun z => z)]; exact q, fun b u xs q => by rw [p8 (hm b _ q fun z => z)]; exact q, fun b ps q => ⟨#[], by rw [p8 (hm b _ q fun z => z), q]; simp⟩⟩
 by_cases hbe : b = e
 ·subst hbe; exact heo
 ·exact ⟨u, k b u hbe q⟩
end
noncomputable def trk (h : Heap) (H : Hp) : List Addr := (List.range h.objs.size).filter fun a => (H a).isSome
noncomputable def O0 (h : Heap) (H : Hp) : Heap := PySem.W.hideAll h (trk h H)
theorem a8y (h : Heap) (H : Hp) : (O0 h H).objs.size = h.objs.size := PySem.W.hideAll_size _ _
theorem b1o {h : Heap} {H : Hp} {b : Addr} {o : Obj} (e : h.get? b = some o) (n : H b = none) : (O0 h H).get? b = some o :=
 PySem.W.hideAll_get _ e fun hm => by
  have q : (H b).isSome = true := (List.mem_filter.mp hm).2
  rw [n] at q; simp at q
theorem a96 {h : Heap} {H : Hp} {b : Addr} {o : Obj} (e : (O0 h H).get? b = some o) : h.get? b = some o ∧ H b = none := by
 have e' : h.get? b = some o := PySem.W.of_hideAll (trk h H) e
 refine ⟨e', ?_⟩
 cases q : H b with
 | none => rfl
 | some x =>
  have hm : b ∈ trk h H := List.mem_filter.mpr ⟨List.mem_range.mpr (Heap.lt_size e'), by simp [q]⟩
  have z : (O0 h H).get? b = none := PySem.W.hideAll_none (trk h H) hm
  rw [z] at e; cases e
structure Mod (K : PySem.W.Frag) (mg : Str → Option Value) (base : Heap) : Prop where
 kin : K.In base
 glob : base.Ns mainGlobals mg
 blt : ∃ mb, base.Ns builtinsNs mb ∧ ∀ x : Str, x ≠ "__name__" → mb x = bootBuiltins x
 nolimit : base.NoLimit
structure Cx where
 prog : Program
 w : World
 K : PySem.W.Frag
 mg : Str → Option Value
 base : Heap
 A : Around
 N : List Str
 s₀ : Shared
 H₀ : Hp
 env : Env
 outer : List Env
 stack : List Env
 ex : List Addr
 fn : Str → Bool
 calm : Bool
 pn : List (Addr × Obj)
 xe : Value → Shared → Prop
noncomputable def frs (l : List Env) : List Addr := l.filterMap (·.frame)
noncomputable abbrev Cx.fs (X : Cx) : List Addr := frs X.outer
noncomputable def Vis (sc : Scope) (x : Str) : Prop := sc.names.lookup x = some .local ∨ sc.names.lookup x = some .cell ∨ sc.names.lookup x = some .free
noncomputable def Loc (sc : Scope) (x : Str) : Prop := sc.names.lookup x = some .local ∨ sc.names.lookup x = some .cell
noncomputable def b0j (env : Env) (h : Heap) (m : Str → Option Value) (x : Str) (u : Value) : Prop :=
 (env.kindOf x = some .local ∧ m x = some u) ∨ ((env.kindOf x = some .cell ∨ env.kindOf x = some .free) ∧ ∃ c, env.cells.lookup x = some c ∧ h.IsCell c (some u))
structure Cx.Ok (X : Cx) : Prop where
 mod : Mod X.K X.mg X.base
 kind : X.env.scope.kind = .function
 glob : X.env.globals = mainGlobals
 blt : X.env.builtins = builtinsNs
 above : X.s₀.heap.objs.size ≤ X.env.locals
 inj : ∀ x y c, X.env.cells.lookup x = some c → X.env.cells.lookup y = some c → x = y
 has : ∀ x, (X.env.kindOf x = some .cell ∨ X.env.kindOf x = some .free) → ∃ c, X.env.cells.lookup x = some c
 cab : ∀ x c, X.fn x = true → X.env.cells.lookup x = some c → X.s₀.heap.objs.size ≤ c
 hd : X.calm = true → X.A.handled = none
 frames : X.A.frames = some X.stack
 stk : X.stack = X.outer ∨ (X.stack = X.env :: X.outer ∧ X.env.frame = some X.env.locals)
 exf : ∀ b ∈ X.ex, b ≠ X.env.locals ∧ ∀ x c, X.env.cells.lookup x = some c → c ≠ b
 bs : ∀ b o, X.base.get? b = some o → X.s₀.heap.get? b = some o ∧ X.H₀ b = none
 bsz : X.base.objs.size ≤ X.s₀.heap.objs.size
 noex : ∀ b o, X.base.get? b = some o → b ∉ X.ex
 exfs : ∀ b ∈ X.ex, b ∉ X.fs
 funs : X.s₀.heap.FunFrames X.base X.outer
 frf : ∀ b ∈ X.fs, X.H₀ b = none
structure Inv (X : Cx) (pins : List (Addr × Obj)) (σ : List (Option V)) (H : Hp) (s : Shared) : Prop where
 ok : X.Ok
 os : s.os = X.s₀.os
 bare : AllBare s.gens
 base : Un X.fs X.ex X.H₀ H X.s₀.heap s.heap
 loc : ∃ m, s.heap.Ns X.env.locals m ∧ ∀ (i : Nat) (x : Str) (v : V), X.N[i]? = some x → σ[i]? = some (some v) → Vis X.env.scope x → ∃ u, RelV v u ∧ b0j X.env s.heap m x u
 cell : ∀ x c, X.env.cells.lookup x = some c → ∃ v, s.heap.IsCell c v
 free : H X.env.locals = none
 freeC : ∀ x c, X.env.cells.lookup x = some c → H c = none
 pin : ∀ p ∈ X.pn ++ pins, s.heap.get? p.1 = some p.2 ∧ H p.1 = none ∧ p.1 ≠ X.env.locals ∧ p.1 ∉ X.fs ∧ ∀ v, p.2.data ≠ .cell v
 hok : HOk X.prog X.w H s.heap
 len : σ.length = X.N.length
section
variable {X : Cx} {pins : List (Addr × Obj)} {σ : List (Option V)} {H H' : Hp} {s : Shared} {h' : Heap}
theorem Cx.Ok.nofr (ok : X.Ok) {b : Addr} {o : Obj} (e : X.base.get? b = some o) : b ∉ X.fs := fun hb => by
 have := (ok.funs.mem hb).1
 rw [e] at this; cases this
theorem Inv.bs (I : Inv X pins σ H s) : ∀ b o, X.base.get? b = some o → s.heap.get? b = some o ∧ H b = none := fun b o e =>
 ⟨I.base.keep b o (I.ok.bs b o e).1 (I.ok.bs b o e).2 (I.ok.nofr e) (I.ok.noex b o e), I.base.free b o (I.ok.bs b o e).1 (I.ok.bs b o e).2 (I.ok.noex b o e)⟩
theorem Inv.bk (I : Inv X pins σ H s) : ∀ b o, X.base.get? b = some o → s.heap.get? b = some o := fun b o e => (I.bs b o e).1
theorem Inv.mod (I : Inv X pins σ H s) : Mod X.K X.mg X.base := I.ok.mod
theorem Inv.kIn (I : Inv X pins σ H s) : X.K.In s.heap := I.ok.mod.kin.keeps I.bk
theorem Inv.lt (I : Inv X pins σ H s) : X.env.locals < s.heap.objs.size := let ⟨_, hn, _⟩ := I.loc; hn.lt
theorem Inv.sz (I : Inv X pins σ H s) : X.s₀.heap.objs.size ≤ s.heap.objs.size := Nat.le_trans I.ok.above (Nat.le_of_lt I.lt)
theorem Inv.nofs (I : Inv X pins σ H s) {a : Addr} (h : s.heap.objs.size ≤ a) : a ∉ X.fs := fun hb => by
 obtain ⟨_, o, ho, _⟩ := I.ok.funs.mem hb
 exact absurd (Nat.lt_of_lt_of_le (Heap.lt_size ho) (Nat.le_trans I.sz h)) (Nat.lt_irrefl _)
theorem Inv.cne (I : Inv X pins σ H s) : ∀ x c, X.env.cells.lookup x = some c → c ≠ X.env.locals := fun x c e z => by
 obtain ⟨v, o, ho, hd⟩ := I.cell x c e
 obtain ⟨m, ⟨o', es, ep, ho', hd', _⟩, _⟩ := I.loc
 rw [z, ho'] at ho; cases ho; rw [hd'] at hd; cases hd
theorem Inv.funs (I : Inv X pins σ H s) : s.heap.FunFrames X.base X.outer := by
 have all : ∀ (l : List Env), (∀ b ∈ frs l, b ∈ X.fs) → X.s₀.heap.FunFrames X.base l → s.heap.FunFrames X.base l := by
  intro l
  induction l with
  | nil => intro _ _; trivial
  | cons env r ih =>
   intro hs hl
   obtain ⟨hk, ⟨L, o, hf, hn, ho, hd⟩, hr⟩ := hl
   have hL : L ∈ X.fs := hs L (by unfold frs; rw [List.filterMap_cons, hf]; exact List.mem_cons_self)
   obtain ⟨sl, e⟩ := I.base.slot L o ho (I.ok.frf L hL) hL fun z => I.ok.exfs L z hL
   exact ⟨hk, ⟨L, _, hf, hn, e, hd⟩, ih (fun b hb => hs b (by unfold frs; rw [List.filterMap_cons, hf]; exact List.mem_cons_of_mem _ hb)) hr⟩
 exact all X.outer (fun _ hb => hb) I.ok.funs
theorem Inv.stack (I : Inv X pins σ H s) : s.heap.FunFrames X.base X.stack := by
 rcases I.ok.stk with e | ⟨e, hf⟩
 ·rw [e]; exact I.funs
 ·rw [e]
  obtain ⟨m, hn, _⟩ := I.loc
  refine .cons (by rw [I.ok.kind]; decide) hf hn ?_ I.funs
  exact Heap.get?_none_of_le (Nat.le_trans I.ok.bsz I.ok.above)
theorem Inv.stkSub (I : Inv X pins σ H s) : ∀ b ∈ frs X.stack, b ∈ X.env.locals :: X.fs := fun b hb => by
 rcases I.ok.stk with e | ⟨e, hf⟩
 ·rw [e] at hb; exact List.mem_cons_of_mem _ hb
 ·rw [e] at hb
  unfold frs at hb
  rw [List.filterMap_cons, hf] at hb
  exact hb
theorem Inv.stkFree (I : Inv X pins σ H s) : ∀ b ∈ frs X.stack, H b = none := fun b hb => by
 rcases List.mem_cons.mp (I.stkSub b hb) with e | hb
 ·rw [e]; exact I.free
 ·obtain ⟨_, o, ho, _⟩ := I.ok.funs.mem hb
  exact I.base.free b o ho (I.ok.frf b hb) fun z => I.ok.exfs b z hb
theorem Inv.step {g' : Array GenState} {t' : Nat} {d' : Drawn} {ch : List Addr} (I : Inv X pins σ H s)
  (hch : ∀ b ∈ ch, (b ∈ X.ex ∨ X.s₀.heap.objs.size ≤ b) ∧ b ≠ X.env.locals ∧ (∀ x c, X.env.cells.lookup x = some c → c ≠ b) ∧ ∀ p ∈ X.pn ++ pins, p.1 ≠ b)
  (keep : ∀ b o, b ≠ X.env.locals → b ∉ X.fs → b ∉ ch → s.heap.get? b = some o → H b = none → h'.get? b = some o)
  (slot : ∀ b o, b ≠ X.env.locals → b ∈ X.fs → b ∉ ch → s.heap.get? b = some o → H b = none → ∃ sl, h'.get? b = some { o with slots := sl }) (free : ∀ b o, b ∉ ch → s.heap.get? b = some o → H b = none → H' b = none)
  (there : ∀ b o, b ∉ ch → s.heap.get? b = some o → ∃ o', h'.get? b = some o')
  (tups : ∀ b xs, H b = some (.tup xs) → H' b = some (.tup xs)) (frzs : ∀ b o u, H b = some (.frz o u) → H' b = some (.frz o u)) (tbls : ∀ b ps, H b = some (.tbl ps) → ∃ more, H' b = some (.tbl (ps ++ more)))
  (ns : ∀ m, s.heap.Ns X.env.locals m → h'.Ns X.env.locals m) (hok : HOk X.prog X.w H' h') (hg : AllBare g') :
  Inv X pins σ H' { s with heap := h', gens := g', drawn := d', toks := t' } := by
 have neL : ∀ b o, X.s₀.heap.get? b = some o → b ≠ X.env.locals := fun b o e => Nat.ne_of_lt (Nat.lt_of_lt_of_le (Heap.lt_size e) I.ok.above)
 have neC : ∀ b o, X.s₀.heap.get? b = some o → b ∉ X.ex → b ∉ ch := fun b o e hx hb => by
  rcases (hch b hb).1 with z | z
  ·exact hx z
  ·exact absurd (Nat.lt_of_lt_of_le (Heap.lt_size e) z) (Nat.lt_irrefl _)
 have cellK : ∀ x c, X.env.cells.lookup x = some c → ∀ v, s.heap.IsCell c v → h'.IsCell c v := fun x c e v hQ__ => by
  obtain ⟨o, ho, hd⟩ := hQ__
  have nch : c ∉ ch := fun z => (hch c z).2.2.1 x c e rfl
  by_cases hc : c ∈ X.fs
  ·obtain ⟨sl, q⟩ := slot c o (I.cne x c e) hc nch ho (I.freeC x c e)
   exact ⟨_, q, hd⟩
  ·exact ⟨o, keep c o (I.cne x c e) hc nch ho (I.freeC x c e), hd⟩
 refine ⟨I.ok, I.os, hg, ⟨fun b o e n hb hx => ?_, fun b o e n hb hx => ?_, fun b o e n hx => ?_, fun b o e hx => ?_, fun b xs e => tups b xs (I.base.tups b xs e), fun b o xs e => frzs b o xs (I.base.frzs b o xs e), fun b ps e => ?_⟩, ?_, fun x c e => ?_, ?_, fun x c e => ?_, fun p hp => ?_, hok, I.len⟩
 ·exact keep b o (neL b o e) hb (neC b o e hx) (I.base.keep b o e n hb hx) (I.base.free b o e n hx)
 ·obtain ⟨sl, e1⟩ := I.base.slot b o e n hb hx
  obtain ⟨sl', e2⟩ := slot b _ (neL b o e) hb (neC b o e hx) e1 (I.base.free b o e n hx)
  exact ⟨sl', e2⟩
 ·obtain ⟨o', e1⟩ := I.base.there b o e hx
  exact free b o' (neC b o e hx) e1 (I.base.free b o e n hx)
 ·obtain ⟨o', e1⟩ := I.base.there b o e hx
  exact there b o' (neC b o e hx) e1
 ·obtain ⟨m1, e1⟩ := I.base.tbls b ps e
  obtain ⟨m2, e2⟩ := tbls b _ e1
  exact ⟨m1 ++ m2, by rw [e2, Array.append_assoc]⟩
 ·obtain ⟨m, hn, hl⟩ := I.loc
  refine ⟨m, ns m hn, fun i x v e1 e2 e3 => ?_⟩
  obtain ⟨u, r, l⟩ := hl i x v e1 e2 e3
  refine ⟨u, r, ?_⟩
  rcases l with l | ⟨k, c, e, z⟩
  ·exact .inl l
  ·exact .inr ⟨k, c, e, cellK x c e _ z⟩
 ·obtain ⟨v, z⟩ := I.cell x c e
  exact ⟨v, cellK x c e v z⟩
 ·obtain ⟨m, ⟨o, _, _, ho, _⟩, _⟩ := I.loc
  exact free _ o (fun z => (hch _ z).2.1 rfl) ho I.free
 ·obtain ⟨v, o, ho, hd⟩ := I.cell x c e
  exact free c o (fun z => (hch c z).2.2.1 x c e rfl) ho (I.freeC x c e)
 ·obtain ⟨e, n, ne, nf, d⟩ := I.pin p hp
  have nch : p.1 ∉ ch := fun z => (hch p.1 z).2.2.2 p hp rfl
  exact ⟨keep p.1 p.2 ne nf nch e n, free p.1 p.2 nch e n, ne, nf, d⟩
theorem Inv.un {t' : Nat} (I : Inv X pins σ H s) (u : Un X.fs [] H H' s.heap h') (hok : HOk X.prog X.w H' h') : Inv X pins σ H' { s with heap := h', toks := t' } := by
 obtain ⟨m, ⟨o, es, ep, ho, r⟩, _⟩ := id I.loc
 obtain ⟨sl, hL⟩ := u.any ho I.free (by simp)
 exact I.step (g' := s.gens) (d' := s.drawn) (ch := []) (fun _ z => nomatch z) (fun b o _ hb _ e n => u.keep b o e n hb (by simp)) (fun b o _ hb _ e n => u.slot b o e n hb (by simp)) (fun b o _ e n => u.free b o e n (by simp)) (fun b o _ e => u.there b o e (by simp)) u.tups u.frzs u.tbls (fun m' hm => by
  obtain ⟨o', es', ep', ho', r'⟩ := hm
  rw [ho] at ho'; cases ho'
  exact ⟨_, es', ep', hL, r'⟩) hok I.bare
theorem Inv.call {g' : Array GenState} {t' : Nat} {d' : Drawn} {ch : List Addr} (I : Inv X pins σ H s) (u : Un (frs X.stack) ch H H' s.heap h') (hok : HOk X.prog X.w H' h') (hg : AllBare g')
  (hch : ∀ b ∈ ch, (b ∈ X.ex ∨ X.s₀.heap.objs.size ≤ b) ∧ b ≠ X.env.locals ∧ (∀ x c, X.env.cells.lookup x = some c → c ≠ b) ∧ ∀ p ∈ X.pn ++ pins, p.1 ≠ b) :
  Inv X pins σ H' { s with heap := h', gens := g', drawn := d', toks := t' } := by
 obtain ⟨m, ⟨o, es, ep, ho, r⟩, _⟩ := id I.loc
 obtain ⟨sl, hL⟩ := u.any ho I.free fun z => (hch _ z).2.1 rfl
 exact I.step (ch := ch) hch (fun b o hL hb hc e n => u.keep b o e n (fun z => (List.mem_cons.mp (I.stkSub b z)).elim hL hb) hc) (fun b o _ _ hc e n => u.any e n hc) (fun b o hc e n => u.free b o e n hc) (fun b o hc e => u.there b o e hc) u.tups u.frzs u.tbls (fun m' hm => by
  obtain ⟨o', es', ep', ho', r'⟩ := hm
  rw [ho] at ho'; cases ho'
  exact ⟨_, es', ep', hL, r'⟩) hok hg
theorem Inv.turned {t' : Nat} {it : Addr} (I : Inv X pins σ H s) (k : ∀ b o, b ≠ it → s.heap.get? b = some o → h'.get? b = some o) (hn : H it = none) (hL : it ≠ X.env.locals)
  (h1 : it ∈ X.ex ∨ X.s₀.heap.objs.size ≤ it) (h2 : ∀ x c, X.env.cells.lookup x = some c → c ≠ it) (h3 : ∀ p ∈ X.pn ++ pins, p.1 ≠ it) : Inv X pins σ H { s with heap := h', toks := t' } := by
 have nit : ∀ b u, H b = some u → b ≠ it := fun b u e z => by rw [z, hn] at e; cases e
 refine I.step (g' := s.gens) (d' := s.drawn) (ch := [it]) (fun b hb => ?_) (fun b o _ _ hc e _ => k b o (fun z => hc (by simp [z])) e) (fun b o _ _ hc e _ => ⟨o.slots, k b o (fun z => hc (by simp [z])) e⟩) (fun _ _ _ _ n => n)
  (fun b o hc e => ⟨o, k b o (fun z => hc (by simp [z])) e⟩) (fun _ _ e => e) (fun _ _ _ e => e) (fun b ps e => ⟨#[], by rw [e]; simp⟩) (fun m hm => ?_) (fun b u e => ?_) I.bare
 ·have e : b = it := by simpa using hb
  subst e
  exact ⟨h1, hL, h2, h3⟩
 ·obtain ⟨o, es, ep, ho, r⟩ := hm
  exact ⟨o, es, ep, k _ o (Ne.symm hL) ho, r⟩
 ·refine (I.hok b u e).stay (fun c v hc q => k c v ?_ q) (fun _ q => q) fun _ _ q => q
  rcases hc with z | z
  ·rw [z]; exact nit b u e
  ·exact nit c _ z
theorem Inv.tok (I : Inv X pins σ H s) (t : Nat) : Inv X pins σ H { s with toks := t } := I.un (h' := s.heap) (t' := t) Un.refl I.hok
theorem Inv.kept {t' : Nat} (I : Inv X pins σ H s) (k : ∀ b u, s.heap.get? b = some u → h'.get? b = some u) : Inv X pins σ H { s with heap := h', toks := t' } := I.un (Un.kept k) (I.hok.kept k)
theorem Inv.laid {a : Addr} {o : HO} {t' : Nat} (I : Inv X pins σ H s) (k : ∀ b u, s.heap.get? b = some u → h'.get? b = some u) (hp : s.heap.objs.size ≤ a) (new : ObjOk X.prog X.w (upd H a o) h' a o) :
  Inv X pins σ (upd H a o) { s with heap := h', toks := t' } := I.un (Un.laid k hp (I.hok.fresh hp)) (I.hok.laid k hp new)
theorem Inv.write {x e : Addr} {o : HO} {t' : Nat} (I : Inv X pins σ H s) (mu : Mut (H x)) (he : e = x ∨ H e = some (.own x)) (k : ∀ b u, b ≠ e → s.heap.get? b = some u → h'.get? b = some u) (heo : ∃ u, h'.get? e = some u)
  (new : ObjOk X.prog X.w (upd H x o) h' x o) : Inv X pins σ (upd H x o) { s with heap := h', toks := t' } := I.un (Un.write mu he k heo) (I.hok.write mu he k heo new)
theorem Inv.weak {σ' : List (Option V)} (I : Inv X pins σ H s) (hl : σ'.length = σ.length) (w : ∀ (i : Nat) v, σ'[i]? = some (some v) → σ[i]? = some (some v)) : Inv X pins σ' H s :=
 ⟨I.ok, I.os, I.bare, I.base, let ⟨m, hn, hl'⟩ := I.loc; ⟨m, hn, fun i x v e1 e2 e3 => hl' i x v e1 (w i v e2) e3⟩, I.cell, I.free, I.freeC, I.pin, I.hok, hl.trans I.len⟩
theorem Inv.pins_of {pins' : List (Addr × Obj)} (I : Inv X pins σ H s) (h : ∀ p ∈ pins', s.heap.get? p.1 = some p.2 ∧ H p.1 = none ∧ p.1 ≠ X.env.locals ∧ p.1 ∉ X.fs ∧ ∀ v, p.2.data ≠ .cell v) : Inv X pins' σ H s :=
 ⟨I.ok, I.os, I.bare, I.base, I.loc, I.cell, I.free, I.freeC, fun p hp => (List.mem_append.mp hp).elim (fun z => I.pin p (List.mem_append_left _ z)) (h p), I.hok, I.len⟩
theorem a5t {N : List Str} (hN : N.Nodup) {i j : Nat} {x : Str} (a : N[i]? = some x) (b : N[j]? = some x) : i = j := by
 obtain ⟨h1, e1⟩ := List.getElem?_eq_some_iff.mp a
 obtain ⟨h2, e2⟩ := List.getElem?_eq_some_iff.mp b
 exact (List.getElem_inj hN).mp (e1.trans e2.symm)
theorem b1c {M : Model} {A : Around} {E : Value → Shared → Prop} {i : Nat} {x : Str} {v : V} {u : Value} {Q : Unit → Shared → Prop} (I : Inv X pins σ H s) (hN : X.N.Nodup) (hi : X.N[i]? = some x) (hx : Loc X.env.scope x) (r : RelV v u)
  (h : ∀ s', Inv X pins (σ.set i (some v)) H s' → (∃ a, Heap.SameBut a s.heap s'.heap ∧ (a = X.env.locals ∨ X.env.cells.lookup x = some a)) → Q () s') (hf : X.fn x = true ∨ X.env.scope.names.lookup x = some .local := by first | exact .inl rfl | exact .inr rfl | assumption) : wpAny M A (storeName X.env x u) Q E s := by
 obtain ⟨m, hn, hl⟩ := id I.loc
 have hcls : (X.env.scope.kind == .class || (X.env.scope.kind == .module && X.env.locals != X.env.globals)) = false := by rw [I.ok.kind]; rfl
 have hiσ : i < σ.length := by rw [I.len]; exact (List.getElem?_eq_some_iff.mp hi).1
 have cne := I.cne
 have tracked : ∀ {a : Addr} {h' : Heap}, (∃ o, s.heap.get? a = some o ∧ H a = none) → Heap.SameBut a s.heap h' → HOk X.prog X.w H h' := fun {a h'} ha hs b ob e => by
  obtain ⟨_, _, hfree⟩ := ha
  refine (I.hok b ob e).stay (fun c w' hc q => (hs.2 c ?_).trans q) (fun _ q => q) fun _ _ q => q
  rintro rfl
  rcases hc with rfl | hc
  ·rw [hfree] at e; cases e
  ·rw [hfree] at hc; cases hc
 rcases hx with hk | hk
 ·refine wpAny_storeName_local hk hn (fun h' hn' hs => ?_) hcls
  obtain ⟨oL, _, _, hoL, _⟩ := id hn
  refine h _ ⟨I.ok, I.os, I.bare, ⟨fun b o e n hb hx => ?_, fun b o e n hb hx => ?_, I.base.free, fun b o e hx => ?_, I.base.tups, I.base.frzs, I.base.tbls⟩, ⟨_, hn', fun j y v' e1 e2 e3 => ?_⟩, fun y c e => ?_, I.free, I.freeC, fun p hp => ?_, tracked ⟨oL, hoL, I.free⟩ hs, by simpa using I.len⟩ ⟨_, hs, .inl rfl⟩
  ·exact (hs.2 b (Nat.ne_of_lt (Nat.lt_of_lt_of_le (Heap.lt_size e) I.ok.above))).trans (I.base.keep b o e n hb hx)
  ·obtain ⟨sl, e1⟩ := I.base.slot b o e n hb hx
   exact ⟨sl, (hs.2 b (Nat.ne_of_lt (Nat.lt_of_lt_of_le (Heap.lt_size e) I.ok.above))).trans e1⟩
  ·obtain ⟨o', e1⟩ := I.base.there b o e hx
   exact ⟨o', (hs.2 b (Nat.ne_of_lt (Nat.lt_of_lt_of_le (Heap.lt_size e) I.ok.above))).trans e1⟩
  ·by_cases hj : j = i
   ·subst hj
    rw [hi] at e1; cases e1
    rw [List.getElem?_set_self hiσ] at e2
    cases e2
    exact ⟨u, r, .inl ⟨hk, by simp⟩⟩
   ·rw [List.getElem?_set_ne (Ne.symm hj)] at e2
    obtain ⟨u', r', q⟩ := hl j y v' e1 e2 e3
    refine ⟨u', r', ?_⟩
    rcases q with ⟨k, e⟩ | ⟨k, c, e, z⟩
    ·refine .inl ⟨k, ?_⟩
     have : y ≠ x := fun e => hj (a5t hN e1 (e ▸ hi))
     simp [this, e]
    ·exact .inr ⟨k, c, e, z.sameBut hs (cne y c e)⟩
  ·obtain ⟨w', z⟩ := I.cell y c e
   exact ⟨w', z.sameBut hs (cne y c e)⟩
  ·obtain ⟨e, n, ne, nf, d⟩ := I.pin p hp
   exact ⟨(hs.2 p.1 ne).trans e, n, ne, nf, d⟩
 ·have hfn : X.fn x = true := by
   rcases hf with z | z
   ·exact z
   ·rw [z] at hk; cases hk
  obtain ⟨c, hc⟩ := I.ok.has x (.inl hk)
  obtain ⟨w', z⟩ := I.cell x c hc
  refine wpAny_storeName_cell I.ok.kind hk hc z (fun h' hc' hs => ?_)
  obtain ⟨oc, hoc, hocd⟩ := id z
  refine h { s with heap := h' } ⟨I.ok, I.os, I.bare, ⟨fun b o e n hb hx => ?_, fun b o e n hb hx => ?_, I.base.free, fun b o e hx => ?_, I.base.tups, I.base.frzs, I.base.tbls⟩, ⟨m, hn.sameBut hs (Ne.symm (cne x c hc)), fun j y v' e1 e2 e3 => ?_⟩, fun y c' e => ?_, I.free, I.freeC, fun p hp => ?_, tracked ⟨oc, hoc, I.freeC x c hc⟩ hs, by simpa using I.len⟩ ⟨c, hs, .inr hc⟩
  ·exact (hs.2 b (Nat.ne_of_lt (Nat.lt_of_lt_of_le (Heap.lt_size e) (I.ok.cab x c hfn hc)))).trans (I.base.keep b o e n hb hx)
  ·obtain ⟨sl, e1⟩ := I.base.slot b o e n hb hx
   exact ⟨sl, (hs.2 b (Nat.ne_of_lt (Nat.lt_of_lt_of_le (Heap.lt_size e) (I.ok.cab x c hfn hc)))).trans e1⟩
  ·obtain ⟨o', e1⟩ := I.base.there b o e hx
   exact ⟨o', (hs.2 b (Nat.ne_of_lt (Nat.lt_of_lt_of_le (Heap.lt_size e) (I.ok.cab x c hfn hc)))).trans e1⟩
  ·by_cases hj : j = i
   ·subst hj
    rw [hi] at e1; cases e1
    rw [List.getElem?_set_self hiσ] at e2
    cases e2
    exact ⟨u, r, .inr ⟨.inl hk, c, hc, hc'⟩⟩
   ·rw [List.getElem?_set_ne (Ne.symm hj)] at e2
    obtain ⟨u', r', q⟩ := hl j y v' e1 e2 e3
    refine ⟨u', r', ?_⟩
    rcases q with q | ⟨k, c', e, z'⟩
    ·exact .inl q
    ·refine .inr ⟨k, c', e, z'.sameBut hs ?_⟩
     rintro rfl
     exact hj (a5t hN e1 (I.ok.inj _ _ _ e hc ▸ hi))
  ·by_cases hcc : c' = c
   ·subst hcc; exact ⟨_, hc'⟩
   ·obtain ⟨w2, z2⟩ := I.cell y c' e
    exact ⟨w2, z2.sameBut hs hcc⟩
  ·obtain ⟨e, n, ne, nf, d⟩ := I.pin p hp
   refine ⟨(hs.2 p.1 ?_).trans e, n, ne, nf, d⟩
   intro q
   rw [q, hoc] at e
   have q' : oc = p.2 := Option.some.inj e
   exact d w' (by rw [← q']; exact hocd)
theorem a02 {M : Model} {A : Around} {E : Value → Shared → Prop} {i : Nat} {x : Str} {v : V} {u : Value} {Q : Unit → Shared → Prop} (I : Inv X pins σ H s) (hN : X.N.Nodup) (hi : X.N[i]? = some x) (hx : Loc X.env.scope x) (r : RelV v u)
  (h : ∀ s', Inv X pins (σ.set i (some v)) H s' → Q () s') (hf : X.fn x = true ∨ X.env.scope.names.lookup x = some .local := by first | exact .inl rfl | exact .inr rfl | assumption) : wpAny M A (storeName X.env x u) Q E s :=
 b1c I hN hi hx r (fun s' I' _ => h s' I') hf
theorem Inv.call' {s' : Shared} {ch : List Addr} (I : Inv X pins σ H s) (ho : s'.os = s.os) (u : Un (frs X.stack) ch H H' s.heap s'.heap) (hok : HOk X.prog X.w H' s'.heap) (hg : AllBare s'.gens)
  (hch : ∀ b ∈ ch, (b ∈ X.ex ∨ X.s₀.heap.objs.size ≤ b) ∧ b ≠ X.env.locals ∧ (∀ x c, X.env.cells.lookup x = some c → c ≠ b) ∧ ∀ p ∈ X.pn ++ pins, p.1 ≠ b) : Inv X pins σ H' s' := by
 obtain ⟨h', g', d', t', o'⟩ := s'
 have e : o' = s.os := ho
 subst e
 exact I.call (g' := g') (t' := t') (d' := d') u hok hg hch
end
noncomputable abbrev XK := Value → Option Addr → Hp → Prop
noncomputable abbrev St := List (Option V)
noncomputable abbrev VK := V → Hp → Prop
noncomputable abbrev TE := St → Hp → VK → Prop
noncomputable abbrev TT := St → Hp → (Bool → Hp → Prop) → Prop
noncomputable abbrev TA := St → Hp → (List V → Hp → Prop) → Prop
structure Ends where
 nx : St → Hp → Prop
 rt : VK
 bk : St → Hp → Prop := fun _ _ => False
 ct : St → Hp → Prop := fun _ _ => False
noncomputable abbrev TS := Ends → St → Hp → Prop
noncomputable def EP (X : Cx) (pins : List (Addr × Obj)) (σ : St) (Q : VK) (u : Value) (s' : Shared) : Prop := ∃ v H', Inv X pins σ H' s' ∧ RelV v u ∧ Q v H'
noncomputable def TP (X : Cx) (pins : List (Addr × Obj)) (σ : St) (Q : Bool → Hp → Prop) (b : Bool) (s' : Shared) : Prop := ∃ H', Inv X pins σ H' s' ∧ Q b H'
noncomputable def AP (X : Cx) (pins : List (Addr × Obj)) (σ : St) (Q : List V → Hp → Prop) (us : List Value) (s' : Shared) : Prop := ∃ vs H', Inv X pins σ H' s' ∧ Vals vs us ∧ Q vs H'
noncomputable def SP (X : Cx) (pins : List (Addr × Obj)) (D : Ends) (f : Flow) (s' : Shared) : Prop :=
 match f with
 | .next => ∃ σ' H', Inv X pins σ' H' s' ∧ D.nx σ' H'
 | .brk => ∃ σ' H', Inv X pins σ' H' s' ∧ D.bk σ' H'
 | .cont => ∃ σ' H', Inv X pins σ' H' s' ∧ D.ct σ' H'
 | .ret u => ∃ v σ' H', Inv X pins σ' H' s' ∧ RelV v u ∧ D.rt v H'
noncomputable def PE (X : Cx) (e : Expr) (t : TE) : Prop :=
 ∀ (pins : List (Addr × Obj)) (s : Shared) (σ : St) (H : Hp) (Q : VK), Inv X pins σ H s → t σ H Q → wpAny (model X.prog X.w) X.A (eval e X.env) (EP X pins σ Q) X.xe s
noncomputable def PT (X : Cx) (e : Expr) (t : TT) : Prop :=
 ∀ (pins : List (Addr × Obj)) (s : Shared) (σ : St) (H : Hp) (Q : Bool → Hp → Prop), Inv X pins σ H s → t σ H Q → wpAny (model X.prog X.w) X.A (isTrue e X.env (eval e X.env)) (TP X pins σ Q) X.xe s
noncomputable def PW (X : Cx) (e : Expr) (t : TT) : Prop :=
 ∀ (whole : Sem Value) (pins : List (Addr × Obj)) (s : Shared) (σ : St) (H : Hp) (Q : Bool → Hp → Prop), Inv X pins σ H s → t σ H Q → wpAny (model X.prog X.w) X.A (isTrue e X.env whole) (TP X pins σ Q) X.xe s
theorem PW.pt {X : Cx} {e : Expr} {t : TT} (h : PW X e t) : PT X e t := h _
noncomputable def PA (X : Cx) (es : List Expr) (t : TA) : Prop :=
 ∀ (pos : Pos) (pins : List (Addr × Obj)) (s : Shared) (σ : St) (H : Hp) (Q : List V → Hp → Prop), Inv X pins σ H s → t σ H Q → wpAny (model X.prog X.w) X.A (spliced (backTo pos (starEach es X.env))) (AP X pins σ Q) X.xe s
noncomputable def PS (X : Cx) (st : Stmt) (t : TS) : Prop :=
 ∀ (pins : List (Addr × Obj)) (s : Shared) (σ : St) (H : Hp) (D : Ends), Inv X pins σ H s → t D σ H → wpAny (model X.prog X.w) X.A (exec st X.env) (SP X pins D) X.xe s
noncomputable def PSs (X : Cx) (st : List Stmt) (t : TS) : Prop :=
 ∀ (pins : List (Addr × Obj)) (s : Shared) (σ : St) (H : Hp) (D : Ends), Inv X pins σ H s → t D σ H → wpAny (model X.prog X.w) X.A (execs st X.env) (SP X pins D) X.xe s
theorem thn {α : Type} {t : Sem α} {Q Q' : α → Shared → Prop} {M : Model} {A : Around} {E : Value → Shared → Prop} {s : Shared} (h : wpAny M A t Q E s) (hQ : ∀ a s, Q a s → Q' a s) : wpAny M A t Q' E s := wpAny_mono h hQ fun _ _ x => x
section
variable {X : Cx}
noncomputable def T3 (i : Nat) : TE := fun σ H Q => ∃ v, σ[i]? = some (some v) ∧ Q v H
noncomputable def tC (v : V) : TE := fun _ H Q => Q v H
theorem b0H {i : Nat} {x : Str} {pos : Pos} (hN : X.N[i]? = some x) (hv : Vis X.env.scope x) (hd : (x == ("__debug__" : Str)) = false := by decide) (hcd : (x == ("__classdict__" : Str)) = false := by decide) : PE X (.Name x pos) (T3 i) := by
 intro pins s σ H Q I h
 obtain ⟨v, e, h⟩ := h
 obtain ⟨m, hn, hl⟩ := I.loc
 obtain ⟨u, r, l⟩ := hl i x v hN e hv
 have fin : EP X pins σ Q u s := ⟨v, H, I, r, h⟩
 rcases l with ⟨hk, hm⟩ | ⟨hk, c, hc, hcell⟩
 ·exact wpAny_Name (wpAny_loadName_local I.ok.kind hk hn hm fin) hd
 ·rcases hk with hk | hk
  ·exact wpAny_Name (wpAny_loadName_cell I.ok.kind hk hc hcell fin) hd
  ·exact wpAny_Name (wpAny_loadName_free I.ok.kind hk hc hcell fin hcd) hd
theorem W1 {i j pos} : PE X (.Constant (.int i) j pos) (tC (.int i)) := fun _ _ _ H _ I h => wpAny_Constant_int ⟨.int i, H, I.tok _, ⟨_, rfl⟩, h⟩
theorem b28 {b j pos} : PE X (.Constant (.bool b) j pos) (tC (.bl b)) := fun _ _ _ H _ I h => Constant_bool ⟨.bl b, H, I, rfl, h⟩
theorem a9g {j pos} : PE X (.Constant .none j pos) (tC .non) := fun _ _ _ H _ I h => Constant_none ⟨.non, H, I, rfl, h⟩
theorem b2C {x j pos} : PE X (.Constant (.str x) j pos) (tC (.str x)) := fun _ _ _ H _ I h => Calls.Constant_str ⟨.str x, H, I.tok _, ⟨_, rfl⟩, h⟩
noncomputable def Gl (X : Cx) (x : Str) : Prop := X.env.kindOf x = some .globalImplicit
theorem a7Y {E : Value → Shared → Prop} {pins : List (Addr × Obj)} {s : Shared} {σ : St} {H : Hp} {x : Str} {u : Value} {pos : Pos} {Q : Value → Shared → Prop} (I : Inv X pins σ H s) (hg : Gl X x) (hm : X.mg x = some u) (h : Q u s)
  (hd : (x == ("__debug__" : Str)) = false := by decide) : wpAny (model X.prog X.w) X.A (eval (.Name x pos) X.env) Q E s :=
 Calls.Name_function_global I.ok.kind hg (Calls.loadGlobal_global (by rw [I.ok.glob]; exact I.mod.glob.keeps I.bk) hm h) hd
theorem X8 {E : Value → Shared → Prop} {pins : List (Addr × Obj)} {s : Shared} {σ : St} {H : Hp} {x : Str} {u : Value} {pos : Pos} {Q : Value → Shared → Prop} (I : Inv X pins σ H s) (hg : Gl X x) (hm : X.mg x = none) (hv : bootBuiltins x = some u) (h : Q u s)
  (hn : x ≠ "__name__" := by decide) (hd : (x == ("__debug__" : Str)) = false := by decide) : wpAny (model X.prog X.w) X.A (eval (.Name x pos) X.env) Q E s := by
 obtain ⟨mb, h1, h2⟩ := I.mod.blt
 exact Calls.Name_function_global I.ok.kind hg (Calls.loadGlobal_builtin (by rw [I.ok.glob]; exact I.mod.glob.keeps I.bk) hm (by rw [I.ok.blt]; exact h1.keeps I.bk) ((h2 x hn).trans hv) h) hd
theorem b1N {x : Str} {v : V} {u : Value} {pos : Pos} (hg : Gl X x) (hm : X.mg x = some u) (r : RelV v u) (hd : (x == ("__debug__" : Str)) = false := by decide) : PE X (.Name x pos) (tC v) :=
 fun _ _ _ H _ I h => a7Y I hg hm ⟨v, H, I, r, h⟩ hd
variable {a b : Expr} {ta tb : TE} {pos : Pos}
variable {tA tB' : TT} {rest : List Expr}
noncomputable def b3L (t u : TT) : TT := fun σ H Q => t σ H fun c H1 => if c = true then u σ H1 Q else Q false H1
noncomputable def tOr (t u : TT) : TT := fun σ H Q => t σ H fun c H1 => if c = true then Q true H1 else u σ H1 Q
noncomputable def a9u (t : TT) : TT := fun σ H Q => t σ H fun c H1 => Q (!c) H1
theorem b03 (ha : PT X a tA) : PW X (.BoolOp .And [a] pos) tA := by
 intro wh pins s σ H Q I h
 refine isTrue_and (thn (ha pins s σ H Q I h) fun c s1 e => ?_)
 cases c with
 | true => exact isTrue_and_nil e
 | false => exact e
theorem a8o (ha : PT X a tA) : PW X (.BoolOp .Or [a] pos) tA := by
 intro wh pins s σ H Q I h
 refine isTrue_or (thn (ha pins s σ H Q I h) fun c s1 e => ?_)
 cases c with
 | false => exact isTrue_or_nil e
 | true => exact e
theorem b2O (ha : PT X a tA) (hb : PW X (.BoolOp .And (b :: rest) pos) tB') : PW X (.BoolOp .And (a :: b :: rest) pos) (b3L tA tB') := by
 intro wh pins s σ H Q I h
 refine isTrue_and (thn (ha pins s σ H _ I h) fun c s1 ⟨H1, I1, q1⟩ => ?_)
 cases c with
 | true => exact hb wh pins s1 σ H1 Q I1 q1
 | false => exact ⟨H1, I1, q1⟩
theorem b24 (ha : PT X a tA) (hb : PW X (.BoolOp .Or (b :: rest) pos) tB') : PW X (.BoolOp .Or (a :: b :: rest) pos) (tOr tA tB') := by
 intro wh pins s σ H Q I h
 refine isTrue_or (thn (ha pins s σ H _ I h) fun c s1 ⟨H1, I1, q1⟩ => ?_)
 cases c with
 | true => exact ⟨H1, I1, q1⟩
 | false => exact hb wh pins s1 σ H1 Q I1 q1
theorem b33 (ha : PT X a tA) : PT X (.UnaryOp .Not a pos) (a9u tA) := by
 intro pins s σ H Q I h
 exact isTrue_not (ha pins s σ H (fun c H1 => Q (!c) H1) I h)
noncomputable def tIf (t : TT) (ta tb : TE) : TE := fun σ H Q => t σ H fun c H1 => if c = true then ta σ H1 Q else tb σ H1 Q
theorem b1z {c : Expr} (hc : PT X c tA) (ha : PE X a ta) (hb : PE X b tb) : PE X (.IfExp c a b pos) (tIf tA ta tb) := by
 intro pins s σ H Q I h
 refine wpAny_IfExp (thn (hc pins s σ H _ I h) fun d s1 ⟨H1, I1, q1⟩ => ?_)
 cases d with
 | true => exact ha pins s1 σ H1 Q I1 q1
 | false => exact hb pins s1 σ H1 Q I1 q1
end
noncomputable def SqL (K : PySem.W.Frag) (H : Hp) (a : Addr) (xs : List V) : Prop :=
 Rd H a (.lst xs) ∨
  ∃ (o : Obj) (its : Array Value) (n : Nat), K.lookup a = some o ∧ o.cls = .type "list" ∧ o.dict = none ∧ o.data = .seq its n ∧ its.size ≤ sizeLine ∧ Vals xs its.toList
noncomputable def SqT (K : PySem.W.Frag) (H : Hp) (a : Addr) (xs : List V) : Prop :=
 Rd H a (.tup xs) ∨
  ∃ (o : Obj) (its : Array Value) (n : Nat), K.lookup a = some o ∧ o.cls = .type "tuple" ∧ o.data = .seq its n ∧ its.size ≤ sizeLine ∧ Vals xs its.toList
noncomputable def a9R : Value → Option V
 | .none => some .non
 | .bool b => some (.bl b)
 | .int i _ => some (.int i)
 | .str x _ => some (.str x)
 | .bytes b _ => some (.byt b)
 | .float b _ => some (.flt b)
 | .ref a => some (.ref a)
 | .type n => some (.ty n)
 | _ => none
theorem RelV.abs {x : V} {u : Value} (r : RelV x u) : a9R u = some x := by
 cases x with
 | non => cases r; rfl
 | bl _ => cases r; rfl
 | int _ => obtain ⟨t, rfl⟩ := r; rfl
 | str _ => obtain ⟨t, rfl⟩ := r; rfl
 | byt _ => obtain ⟨t, rfl⟩ := r; rfl
 | flt _ => obtain ⟨t, rfl⟩ := r; rfl
 | ref _ => cases r; rfl
 | ty _ => cases r; rfl
theorem RelV.inj {x y : V} {u : Value} (r : RelV x u) (q : RelV y u) : x = y := Option.some.inj (r.abs.symm.trans q.abs)
theorem Vals.inj : ∀ {xs ys : List V} {us : List Value}, Vals xs us → Vals ys us → xs = ys := by
 intro xs ys us h
 induction h generalizing ys with
 | nil =>
  intro h2
  cases h2
  rfl
 | cons r t ih =>
  intro h2
  cases h2 with
  | cons r' t' => rw [r.inj r', ih t']
section
variable {X : Cx} {pins : List (Addr × Obj)} {σ : St} {H : Hp} {s : Shared} {a : Addr} {xs ys : List V}
theorem SqL.of {K : PySem.W.Frag} (h : H a = some (.lst xs)) : SqL K H a xs := .inl (.inl h)
theorem SqT.of {K : PySem.W.Frag} (h : H a = some (.tup xs)) : SqT K H a xs := .inl (.inl h)
theorem Inv.list (I : Inv X pins σ H s) (h : SqL X.K H a xs) : ∃ its : List Value, Vals xs its ∧ PlainL s.heap a its.toArray ∧ xs.length ≤ sizeLine := by
 rcases h with h | ⟨o, its, n, hk, hc, hd, hs, hz, r⟩
 ·obtain ⟨z, its, n, r, e⟩ := h.ok I.hok
  exact ⟨its, r, ⟨_, n, e, rfl, rfl, rfl⟩, z⟩
 ·refine ⟨its.toList, r, ⟨o, n, I.kIn a o hk, hc, hd, by simpa using hs⟩, ?_⟩
  have e := r.length
  simp only [Array.length_toList] at e
  omega
theorem Inv.tuple (I : Inv X pins σ H s) (h : SqT X.K H a xs) : ∃ its : List Value, Vals xs its ∧ IsTup s.heap a its.toArray ∧ xs.length ≤ sizeLine := by
 rcases h with h | ⟨o, its, n, hk, hc, hs, hz, r⟩
 ·obtain ⟨z, its, r, p⟩ := h.ok I.hok
  exact ⟨its, r, p, z⟩
 ·refine ⟨its.toList, r, ⟨o, I.kIn a o hk, hc, n, by simpa using hs⟩, ?_⟩
  have e := r.length
  simp only [Array.length_toList] at e
  omega
theorem Inv.list_inj (I : Inv X pins σ H s) (h : SqL X.K H a xs) (h' : SqL X.K H a ys) : xs = ys := by
 obtain ⟨its, r, ⟨o, n, e, _, _, d⟩, _⟩ := I.list h
 obtain ⟨its', r', ⟨o', n', e', _, _, d'⟩, _⟩ := I.list h'
 rw [e] at e'; cases e'
 rw [d] at d'
 injection d' with d1 _
 have : its = its' := by simpa using congrArg Array.toList d1
 subst this
 exact r.inj r'
theorem Inv.tuple_inj (I : Inv X pins σ H s) (h : SqT X.K H a xs) (h' : SqT X.K H a ys) : xs = ys := by
 obtain ⟨its, r, ⟨o, e, _, n, d⟩, _⟩ := I.tuple h
 obtain ⟨its', r', ⟨o', e', _, n', d'⟩, _⟩ := I.tuple h'
 rw [e] at e'; cases e'
 rw [d] at d'
 injection d' with d1 _
 have : its = its' := by simpa using congrArg Array.toList d1
 subst this
 exact r.inj r'
end
noncomputable abbrev Cx.wish (X : Cx) (E : Value → Shared → Prop) : Cx := { X with xe := E }
noncomputable abbrev Cx.nox (X : Cx) : Cx := X.wish fun _ _ => False
theorem Cx.Ok.wish {X : Cx} (ok : X.Ok) (E : Value → Shared → Prop) : (X.wish E).Ok :=
 ⟨ok.mod, ok.kind, ok.glob, ok.blt, ok.above, ok.inj, ok.has, ok.cab, ok.hd, ok.frames, ok.stk, ok.exf, ok.bs, ok.bsz, ok.noex, ok.exfs, ok.funs, ok.frf⟩
theorem Cx.Ok.unwish {X : Cx} {E : Value → Shared → Prop} (ok : (X.wish E).Ok) : X.Ok :=
 ⟨ok.mod, ok.kind, ok.glob, ok.blt, ok.above, ok.inj, ok.has, ok.cab, ok.hd, ok.frames, ok.stk, ok.exf, ok.bs, ok.bsz, ok.noex, ok.exfs, ok.funs, ok.frf⟩
section
variable {X : Cx} {pins : List (Addr × Obj)} {σ : St} {H : Hp} {s : Shared} {E : Value → Shared → Prop}
theorem Inv.wish (I : Inv X pins σ H s) (E : Value → Shared → Prop) : Inv (X.wish E) pins σ H s := ⟨I.ok.wish E, I.os, I.bare, I.base, I.loc, I.cell, I.free, I.freeC, I.pin, I.hok, I.len⟩
theorem Inv.unwish (I : Inv (X.wish E) pins σ H s) : Inv X pins σ H s := ⟨I.ok.unwish, I.os, I.bare, I.base, I.loc, I.cell, I.free, I.freeC, I.pin, I.hok, I.len⟩
theorem SP.unwish {D : Ends} {f : Flow} {s' : Shared} (h : SP (X.wish E) pins D f s') : SP X pins D f s' := by
 cases f with
 | next => obtain ⟨σ', H', I, q⟩ := h; exact ⟨σ', H', I.unwish, q⟩
 | brk => obtain ⟨σ', H', I, q⟩ := h; exact ⟨σ', H', I.unwish, q⟩
 | cont => obtain ⟨σ', H', I, q⟩ := h; exact ⟨σ', H', I.unwish, q⟩
 | ret u => obtain ⟨v, σ', H', I, r, q⟩ := h; exact ⟨v, σ', H', I.unwish, r, q⟩
theorem PSs.nox {st : List Stmt} {t : TS} (h : PSs X.nox st t) : PSs X st t := fun pins s σ H D I hw =>
 wpAny_mono (h pins s σ H D (I.wish _) hw) (fun _ _ q => q.unwish) fun _ _ z => False.elim z
end
section
variable {X : Cx} {st : Stmt} {rest : List Stmt} {t u : TS} {e : Expr} {te : TE} {pos : Pos}
noncomputable def a8x : TS := fun D σ H => D.nx σ H
noncomputable def b3J (t u : TS) : TS := fun D σ H => t { D with nx := u D } σ H
theorem b22 : PSs X [] a8x := fun _ _ σ H _ I h => wpAny_execs_nil ⟨σ, H, I, h⟩
theorem a9S (h1 : PS X st t) (h2 : PSs X rest u) : PSs X (st :: rest) (b3J t u) := by
 intro pins s σ H D I h
 refine wpAny_execs_cons (thn (h1 pins s σ H { D with nx := u D } I h) fun f s1 q => ?_)
 cases f with
 | next =>
  obtain ⟨σ', H', I', q⟩ := q
  exact h2 pins s1 σ' H' D I' q
 | ret v => exact q
 | brk => exact q
 | cont => exact q
theorem b2p (h1 : PS X st t) : PSs X [st] t := by
 intro pins s σ H D I h
 refine wpAny_execs_cons (thn (h1 pins s σ H D I h) fun f s1 q => ?_)
 cases f with
 | next => exact wpAny_execs_nil q
 | ret v => exact q
 | brk => exact q
 | cont => exact q
theorem Inv.quiet {pins : List (Addr × Obj)} {σ : St} {H : Hp} {s : Shared} (I : Inv X pins σ H s) : interactive X.env = false := by simp [interactive, I.ok.kind]
noncomputable def b0s (te : TE) : TS := fun D σ H => te σ H fun _ H1 => D.nx σ H1
theorem b13 (he : PE X e te) (hs : swapsWith e none pos.line X.env = pure false := by rfl) : PS X (.Expr e pos) (b0s te) := by
 intro pins s σ H D I h
 exact wpAny_Expr_any (thn (he pins s σ H _ I h) fun v s1 ⟨x, H1, I1, r1, q1⟩ => ⟨σ, H1, I1, q1⟩) I.quiet hs
noncomputable def b0N (te : TE) : TS := fun D σ H => te σ H D.rt
theorem b4f (he : PE X e te) : PS X (.Return (some e) pos) (b0N te) := by
 intro pins s σ H D I h
 exact wpAny_Return_some (thn (he pins s σ H _ I h) fun v s1 ⟨x, H1, I1, r1, q1⟩ => ⟨x, σ, H1, I1, r1, q1⟩)
noncomputable def a9a (c : TT) (t u : TS) : TS := fun D σ H => c σ H fun b H1 => if b = true then t D σ H1 else u D σ H1
theorem b2M {c : Expr} {a b : List Stmt} {tc : TT} (hc : PT X c tc) (ha : PSs X a t) (hb : PSs X b u) : PS X (.If c a b pos) (a9a tc t u) := by
 intro pins s σ H D I h
 refine wpAny_If (thn (hc pins s σ H _ I h) fun d s1 ⟨H1, I1, q1⟩ => ?_)
 cases d with
 | true => exact ha pins s1 σ H1 D I1 q1
 | false => exact hb pins s1 σ H1 D I1 q1
end
noncomputable abbrev TG := V → St → Hp → (St → Hp → Prop) → Prop
noncomputable abbrev TGs := List V → St → Hp → (St → Hp → Prop) → Prop
noncomputable def PG (X : Cx) (target : Expr) (t : TG) : Prop :=
 ∀ (pins : List (Addr × Obj)) (s : Shared) (σ : St) (H : Hp) (v : V) (u : Value) (Q : St → Hp → Prop), Inv X pins σ H s → RelV v u → t v σ H Q →
  wpAny (model X.prog X.w) X.A (assign target X.env u) (fun _ s' => ∃ σ' H', Inv X pins σ' H' s' ∧ Q σ' H') X.xe s
noncomputable def PGs (X : Cx) (ts : List Expr) (t : TGs) : Prop :=
 ∀ (pins : List (Addr × Obj)) (s : Shared) (σ : St) (H : Hp) (vs : List V) (us : List Value) (Q : St → Hp → Prop), Inv X pins σ H s → Vals vs us → t vs σ H Q →
  wpAny (model X.prog X.w) X.A (assignInOrder ((assignEach ts X.env).map (·.2)) us) (fun _ s' => ∃ σ' H', Inv X pins σ' H' s' ∧ Q σ' H') X.xe s
noncomputable abbrev a3W := V → V → V → Hp → (Hp → Prop) → Prop
noncomputable def a5Q (X : Cx) (t : a3W) : Prop :=
 ∀ (pins : List (Addr × Obj)) (s : Shared) (σ : St) (H : Hp) (o i v : V) (ov iv u : Value) (Q : Hp → Prop), Inv X pins σ H s → RelV o ov → RelV i iv → RelV v u → t o i v H Q →
  wpAny (model X.prog X.w) X.A (setItem ov iv u) (fun _ s' => ∃ H', Inv X pins σ H' s' ∧ Q H') X.xe s
section
variable {X : Cx} {pos : Pos}
noncomputable def K9 (i : Nat) : TG := fun v σ H Q => Q (σ.set i (some v)) H
theorem t6 {i : Nat} {x : Str} (hN : X.N.Nodup) (hi : X.N[i]? = some x) (hx : Loc X.env.scope x) (hf : X.fn x = true ∨ X.env.scope.names.lookup x = some .local := by first | exact .inl rfl | exact .inr rfl | assumption) : PG X (.Name x pos) (K9 i) := by
 intro pins s σ H v u Q I r h
 exact wpAny_assign_Name (a02 I hN hi hx r (fun s' I' => ⟨_, H, I', h⟩) hf)
noncomputable def a2C : TGs := fun vs σ H Q => vs = [] ∧ Q σ H
noncomputable def a0s (t : TG) (u : TGs) : TGs := fun vs σ H Q => ∃ v r, vs = v :: r ∧ t v σ H fun σ' H' => u r σ' H' Q
theorem a1U : PGs X [] a2C := by
 intro pins s σ H vs us Q I r h
 obtain ⟨e, h⟩ := h
 subst e
 cases r
 exact assignInOrder_nil ⟨σ, H, I, h⟩
theorem a0w {e : Expr} {es : List Expr} {t : TG} {u : TGs} (h1 : PG X e t) (h2 : PGs X es u)
  (hs : (assignEach (e :: es) X.env).map (·.2) = assign e X.env :: (assignEach es X.env).map (·.2) := by rfl) : PGs X (e :: es) (a0s t u) := by
 intro pins s σ H vs us Q I r h
 obtain ⟨v, vr, e1, h⟩ := h
 subst e1
 cases r with
 | cons r rr =>
  rw [hs]
  refine assignInOrder_cons (thn (h1 pins s σ H _ _ _ I r h) fun _ s1 ⟨σ1, H1, I1, q1⟩ => ?_)
  exact h2 pins s1 σ1 H1 _ _ Q I1 rr q1
noncomputable def a4r (K : PySem.W.Frag) (n : Nat) (t : TGs) : TG := fun v σ H Q => ∃ a xs, v = .ref a ∧ SqT K H a xs ∧ xs.length = n ∧ t xs σ H Q
theorem a3j {es : List Expr} {k : Nat} {t : TGs} {n : Nat} (hc : X.calm = true) (h : PGs X es t)
  (hn : (assignEach es X.env).length = n := by rfl) (hst : (assignEach es X.env).findIdx? (·.1) = none := by rfl) : PG X (.Tuple es k pos) (a4r X.K n t) := by
 intro pins s σ H v u Q I r hw
 obtain ⟨a, xs, e1, hq, hl, hw⟩ := hw
 subst e1
 cases r
 obtain ⟨its, rv, ht, hz⟩ := I.tuple hq
 refine assign_Tuple_tuple (I.ok.hd hc) ht (by simp [hn, ← hl, rv.length]) hst fun h' hx => ?_
 have I1 : Inv X pins σ H { s with heap := h' } := I.kept (t' := s.toks) fun b o e => hx b o (Nat.ne_of_lt (Heap.lt_size e)) e
 exact h pins _ σ H xs _ Q I1 (by simpa using rv) hw
noncomputable def a8k (to ti : TE) (t : a3W) : TG := fun v σ H Q => to σ H fun o H1 => ti σ H1 fun i H2 => t o i v H2 fun H3 => Q σ H3
theorem b0E {o i : Expr} {to ti : TE} {t : a3W} (ho : PE X o to) (hi : PE X i ti) (hs : a5Q X t)
  (ha : ∀ v, assign (.Subscript o i pos) X.env v = (do
   let ov ← holding [v] (eval o X.env)
   let iv ← holding [v, ov] (eval i X.env)
   standAt pos
   holding [v, ov, iv] (setItem ov iv v)
   release [v, ov, iv] []) := by intro _; rfl) : PG X (.Subscript o i pos) (a8k to ti t) := by
 intro pins s σ H v u Q I r h
 rw [ha]
 refine wpAny_bind (wpAny_holding (thn (ho pins s σ H _ I h) fun ov s1 ⟨x, H1, I1, r1, q1⟩ => ?_))
 refine wpAny_bind (wpAny_holding (thn (hi pins s1 σ H1 _ I1 q1) fun iv s2 ⟨y, H2, I2, r2, q2⟩ => ?_))
 refine wpAny_bind (wpAny_standAt (wpAny_bind (wpAny_holding (thn (hs pins s2 σ H2 x y v ov iv u _ I2 r1 r2 r q2) fun _ s3 ⟨H3, I3, q3⟩ => ?_))))
 exact wpAny_release ⟨σ, H3, I3, q3⟩
noncomputable def Z7 (te : TE) (g : TG) : TS := fun D σ H => te σ H fun x H1 => g x σ H1 D.nx
theorem a4T {tg e : Expr} {te : TE} {g : TG} (he : PE X e te) (hg : PG X tg g) (hs : swapsWithSole [tg] e pos.line X.env = pure false := by rfl) (hw : swappedStores [tg] e X.env = pure none := by rfl)
  (h1 : (assignEach [tg] X.env).map (·.2) = [assign tg X.env] := by rfl) : PS X (.Assign [tg] e pos) (Z7 te g) := by
 intro pins s σ H D I h
 refine wpAny_Assign_stores (thn (he pins s σ H _ I h) fun v s1 ⟨x, H1, I1, r1, q1⟩ => ?_) hs hw
 rw [h1]
 exact thn (hg pins s1 σ H1 x v _ I1 r1 q1) fun _ s2 q => q
theorem a7O {i : Nat} {x : Str} {e : Expr} {te : TE} {pos' : Pos} (hN : X.N.Nodup) (hi : X.N[i]? = some x) (hx : Loc X.env.scope x) (he : PE X e te) (hs : swapsWith e (some (.Name x pos')) pos.line X.env = pure false := by rfl) (hf : X.fn x = true ∨ X.env.scope.names.lookup x = some .local := by first | exact .inl rfl | exact .inr rfl | assumption) :
  PS X (.Assign [.Name x pos'] e pos) (Z7 te (K9 i)) := by
 intro pins s σ H D I h
 refine wpAny_Assign_Name (thn (he pins s σ H _ I h) fun v s1 ⟨y, H1, I1, r1, q1⟩ => ?_) hs
 exact a02 I1 hN hi hx r1 (fun s2 I2 => ⟨_, H1, I2, q1⟩) hf
noncomputable def a9l (i j : Nat) (ta : TA) : TS := fun D σ H => ta σ H fun vs H1 => ∃ v w, vs = [v, w] ∧ D.nx ((σ.set i (some v)).set j (some w)) H1
theorem b3S {i j : Nat} {x y : Str} {a b : Expr} {ta : TA} {px py pt : Pos} {kt k2 pt2} (hc : X.calm = true) (hN : X.N.Nodup) (hi : X.N[i]? = some x) (hj : X.N[j]? = some y) (hij : i ≠ j)
  (hx : X.env.scope.names.lookup x = some .local) (hy : X.env.scope.names.lookup y = some .local) (ha : PA X [a, b] ta)
  (hw : swappedStores [.Tuple [.Name x px, .Name y py] kt pt] (.Tuple [a, b] k2 pt2) X.env = pure (some [x, y]))
  (hs : swapsWithSole [.Tuple [.Name x px, .Name y py] kt pt] (.Tuple [a, b] k2 pt2) pos.line X.env = pure false := by rfl) :
  PS X (.Assign [.Tuple [.Name x px, .Name y py] kt pt] (.Tuple [a, b] k2 pt2) pos) (a9l i j ta) := by
 intro pins s σ H D I h
 rw [exec_Assign_arm]
 refine wpAny_bind (wpAny_standAt ?_)
 rw [hs]
 refine wpAny_bind (wpAny_pure ?_)
 rw [if_neg (by decide)]
 refine wpAny_bind (Tuple_ (thn (ha _ pins s σ H _ I h) fun us s1 ⟨vs, H1, I1, r1, q1⟩ => ?_))
 obtain ⟨v, w, e1, q1⟩ := q1
 subst e1
 obtain ⟨u1, u2, rfl, rv, rw'⟩ : ∃ u1 u2, us = [u1, u2] ∧ RelV v u1 ∧ RelV w u2 := by
  cases r1 with
  | cons p q =>
   cases q with
   | cons p' q' =>
    cases q'
    exact ⟨_, _, rfl, p, p'⟩
 refine wpAny_newObj_type ?_ (by show 2 ≤ sizeLine; decide)
 have I2 : Inv X pins σ H1 { s1 with heap := s1.heap.push { cls := .type "tuple", data := .seq [u1, u2].toArray } } := I1.kept (t' := s1.toks) fun b o e => Heap.get?_push_of_some _ e
 rw [hw]
 refine wpAny_bind (wpAny_pure ?_)
 show wpAny (model X.prog X.w) X.A (do rule "assign.swapped-stores"; let items ← unpackItems (.ref s1.heap.objs.size) 2 none; assignInOrder [fun v => bindName X.env y v, fun v => bindName X.env x v] items.reverse; pure Flow.next) _ _ _
 refine wpAny_bind (wpAny_rule (wpAny_bind (unpackItems_tuple (items := #[u1, u2]) (I.ok.hd hc) (IsTup.new s1.heap _) fun h' hx' => ?_)))
 have I3 := I2.kept (h' := h') (t' := s1.toks) fun b o e => hx' b o (Nat.ne_of_lt (Heap.lt_size e)) e
 show wpAny _ _ (assignInOrder [fun v => bindName X.env y v, fun v => bindName X.env x v] [u2, u1] >>= fun _ => pure Flow.next) _ _ _
 refine wpAny_bind (assignInOrder_cons (wpAny_bindName (a02 I3 hN hj (.inl hy) rw' (fun s2 I4 => ?_) (.inr hy))))
 refine assignInOrder_cons (wpAny_bindName (a02 I4 hN hi (.inl hx) rv (fun s3 I5 => assignInOrder_nil (wpAny_pure ?_)) (.inr hx)))
 rw [List.set_comm _ _ (Ne.symm hij)] at I5
 exact ⟨_, H1, I5, q1⟩
end
section
variable {X : Cx} {pos : Pos}
noncomputable def b1d (c : TT) (tb : TS) : TS := fun D σ H => ∃ W : Nat → St → Hp → Prop, (∃ m, W m σ H) ∧ ∀ m σ H, W m σ H →
 c σ H fun b H1 => if b = true then ∃ N : St → Hp → Prop, (∀ σ' H', N σ' H' → ∃ m', m' < m ∧ W m' σ' H') ∧ tb { D with nx := N, ct := N, bk := D.nx } σ H1 else D.nx σ H1
theorem b4b {c : Expr} {body : List Stmt} {tc : TT} {tb : TS} (hp : PassesOwn (model X.prog X.w) X.A X.env X.xe) (hc : PT X c tc) (hb : PSs X body tb) : PS X (.While c body [] pos) (b1d tc tb) := by
 intro pins s σ H D I h
 obtain ⟨W, ⟨m0, w0⟩, turn⟩ := h
 refine wpAny_While (codeAny_whileLoop (fun n s' => ∃ σ' H', Inv X pins σ' H' s' ∧ W n σ' H') ?_ m0 ⟨σ, H, I, w0⟩)
 rintro n s1 ⟨σ1, H1, I1, w1⟩
 refine wpAny_passesOwn hp (thn (hc pins s1 σ1 H1 _ I1 (turn n σ1 H1 w1)) fun b s2 ⟨H2, I2, q2⟩ => ?_)
 cases b with
 | true =>
  obtain ⟨N, hN, q2⟩ := q2
  rw [if_pos rfl]
  refine wpAny_passesOwn hp (thn (hb pins s2 σ1 H2 _ I2 q2) fun f s3 q3 => ?_)
  cases f with
  | next =>
   obtain ⟨σ3, H3, I3, n3⟩ := q3
   obtain ⟨m', hm, w3⟩ := hN σ3 H3 n3
   exact ⟨m', hm, σ3, H3, I3, w3⟩
  | cont =>
   obtain ⟨σ3, H3, I3, n3⟩ := q3
   obtain ⟨m', hm, w3⟩ := hN σ3 H3 n3
   exact ⟨m', hm, σ3, H3, I3, w3⟩
  | brk => exact q3
  | ret v => exact q3
 | false =>
  rw [if_neg Bool.false_ne_true]
  exact wpAny_execs_nil ⟨σ1, H2, I2, q2⟩
end
structure It where
 go : Nat → Hp → Prop
 yld : Nat → Hp → V → Hp → Prop
 stop : Nat → Hp → Prop
noncomputable def J0 (X : Cx) (pins : List (Addr × Obj)) (H : Hp) (b : Addr) : Prop :=
 H b = none ∧ b ≠ X.env.locals ∧ b ∉ X.fs ∧ (b ∈ X.ex ∨ X.s₀.heap.objs.size ≤ b) ∧ (∀ x c, X.env.cells.lookup x = some c → c ≠ b) ∧ ∀ p ∈ X.pn ++ pins, p.1 ≠ b
theorem Inv.fpOk {X : Cx} {pins : List (Addr × Obj)} {σ : St} {H H' : Hp} {s : Shared} {b : Addr} (I : Inv X pins σ H s) (hb : s.heap.objs.size ≤ b) (hn : H' b = none) : J0 X pins H' b := by
 refine ⟨hn, Nat.ne_of_gt (Nat.lt_of_lt_of_le I.lt hb), I.nofs hb, .inr (Nat.le_trans I.sz hb), fun x c e z => ?_, fun p hp z => ?_⟩
 ·obtain ⟨v, q⟩ := I.cell x c e
  exact absurd (Nat.lt_of_lt_of_le q.lt (by rw [z]; exact hb)) (Nat.lt_irrefl _)
 ·exact absurd (Nat.lt_of_lt_of_le (Heap.lt_size (I.pin p hp).1) (by rw [z]; exact hb)) (Nat.lt_irrefl _)
structure Turn (P : Program) (w : World) (K : PySem.W.Frag) (tg : Expr) (J : It) (fp : List Addr) (it : Addr) (tn : Nat → Heap → Prop) : Prop where
 mem : it ∈ fp
 obj : ∀ i h, tn i h → ∀ b ∈ fp, ∃ o, h.get? b = some o ∧ ∀ v, o.data ≠ .cell v
 keep : ∀ i h h', tn i h → (∀ b ∈ fp, ∀ o, h.get? b = some o → h'.get? b = some o) → tn i h'
 item : ∀ (X : Cx), X.prog = P → X.w = w → X.K = K → X.calm = true → ∀ (i : Nat) (pins : List (Addr × Obj)) (s : Shared) (σ : St) (H : Hp) (E : Value → Shared → Prop), Inv X pins σ H s → (∀ b ∈ fp, J0 X pins H b) → tn i s.heap → J.go i H →
  wpAny (model P w) X.A (pyNext (.ref it)) (fun r s1 => ∃ u, r = some u ∧
   wpAny (model P w) X.A (letOwnedTupleGo tg (.ref it) u) (fun _ s2 => ∃ x H', Inv X pins σ H' s2 ∧ RelV x u ∧ J.yld i H x H' ∧ tn (i + 1) s2.heap ∧ ∀ b ∈ fp, H' b = none) E s1) E s
 done : ∀ (X : Cx), X.prog = P → X.w = w → X.K = K → X.calm = true → ∀ (i : Nat) (pins : List (Addr × Obj)) (s : Shared) (σ : St) (H : Hp) (E : Value → Shared → Prop), Inv X pins σ H s → (∀ b ∈ fp, J0 X pins H b) → tn i s.heap → J.stop i H →
  wpAny (model P w) X.A (pyNext (.ref it)) (fun r s1 => r = none ∧ Inv X pins σ H s1) E s
 self : ∀ (A : Around) (i : Nat) (s : Shared) (Q : Value → Shared → Prop) (E : Value → Shared → Prop), tn i s.heap → Q (.ref it) s → wpAny (model P w) A (pyIter (.ref it)) Q E s
noncomputable abbrev TI := St → Hp → (It → Hp → Prop) → Prop
noncomputable def PIE (X : Cx) (pins : List (Addr × Obj)) (σ : St) (tg : Expr) (R : It → Hp → Prop) (itv : Value) (s2 : Shared) : Prop :=
 ∃ (it : Addr) (fp : List Addr) (tn : Nat → Heap → Prop) (J : It) (H' : Hp), itv = .ref it ∧ Inv X pins σ H' s2 ∧ Turn X.prog X.w X.K tg J fp it tn ∧ tn 0 s2.heap ∧ (∀ b ∈ fp, J0 X pins H' b) ∧ R J H'
noncomputable def PI (X : Cx) (tg iter : Expr) (wi : TI) : Prop :=
 ∀ (pins : List (Addr × Obj)) (s : Shared) (σ : St) (H : Hp) (R : It → Hp → Prop), Inv X pins σ H s → wi σ H R →
  wpAny (model X.prog X.w) X.A (eval iter X.env) (fun v s1 => wpAny (model X.prog X.w) X.A (pyIter v) (PIE X pins σ tg R) X.xe s1) X.xe s
theorem a4J {M : Model} {A : Around} {E : Value → Shared → Prop} {s : Shared} {tg : Expr} {it : Addr} {u : Value} {o : Obj} {n : String} {vs : Array Value} {Q : Unit → Shared → Prop} (ho : s.heap.get? it = some o) (hc : o.cls = .type n) (hd : o.data = .fields vs)
    (hn : ["enumerate", "zip", "dict_itemiterator", "dict_reverseitemiterator", "odict_iterator", "itertools.zip_longest", "itertools.pairwise"].contains n = false) (hQ : Q () s) : wpAny M A (letOwnedTupleGo tg (.ref it) u) Q E s := by
  unfold letOwnedTupleGo
  cases tg <;> first
    | exact wpAny_pure hQ
    | (cases u <;> first
        | exact wpAny_pure hQ
        | (refine wpAny_bind (wpAny_load ho ?_)
           rw [hc, hd]
           show wpAny M A (if (["enumerate", "zip", "dict_itemiterator", "dict_reverseitemiterator", "odict_iterator", "itertools.zip_longest", "itertools.pairwise"].contains n && vs[0]? == some (rawInt _)) = true then _ else _) Q E s
           rw [if_neg (by intro h; rw [hn, Bool.false_and] at h; cases h)]
           exact wpAny_pure hQ))
noncomputable def Itl (K : PySem.W.Frag) (a : Addr) : It :=
 ⟨fun i H => ∃ xs x, SqL K H a xs ∧ xs[i]? = some x, fun i H x H' => H' = H ∧ ∀ xs, SqL K H a xs → xs[i]? = some x, fun i H => ∃ xs, SqL K H a xs ∧ xs.length ≤ i⟩
noncomputable def Itt (K : PySem.W.Frag) (a : Addr) : It :=
 ⟨fun i H => ∃ xs x, SqT K H a xs ∧ xs[i]? = some x, fun i H x H' => H' = H ∧ ∀ xs, SqT K H a xs → xs[i]? = some x, fun i H => ∃ xs, SqT K H a xs ∧ xs.length ≤ i⟩
noncomputable def Itr (lo : Int) (n : Nat) : It := ⟨fun i _ => i < n, fun i H x H' => H' = H ∧ x = .int (lo + i), fun i _ => n ≤ i⟩
theorem b3o {P : Program} {w : World} {K : PySem.W.Frag} {tg : Expr} (a it : Addr) : Turn P w K tg (Itl K a) [it] it (fun i h => h.IsListIter it a i) where
 mem := by simp
 obj := fun i h st b hb => by
  have e : b = it := by simpa using hb
  subst e
  obtain ⟨o, e, c, d⟩ := st
  exact ⟨o, e, fun v z => by rw [d] at z; cases z⟩
 keep := fun i h h' st k => st.at fun o e => k it (by simp) o e
 item := by
  intro X hP hw hK hc i pins s σ H E I hf st hg
  subst hP hw hK
  obtain ⟨xs, x, hq, hx⟩ := hg
  obtain ⟨its, rv, p, hz⟩ := I.list hq
  obtain ⟨u, hu, ru⟩ := rv.get hx
  obtain ⟨f0, f1, f2, f3, f4, f5⟩ := hf it (by simp)
  refine wpAny_pyNext_list_item st p.isList (x := u) (by simpa using hu) fun h' st' sb => ?_
  have I1 : Inv X pins σ H { s with heap := h' } := I.turned (t' := s.toks) (fun b o hb e => (sb.2 b hb).trans e) f0 f1 f3 f4 f5
  obtain ⟨o, e, c, d⟩ := id st'
  exact ⟨u, rfl, a4J (s := { s with heap := h' }) e c d (by decide) ⟨x, H, I1, ru, ⟨rfl, fun ys hy => by rw [I.list_inj hy hq]; exact hx⟩, st', fun b hb => (hf b hb).1⟩⟩
 done := by
  intro X hP hw hK hc i pins s σ H E I hf st hg
  subst hP hw hK
  obtain ⟨xs, hq, hx⟩ := hg
  obtain ⟨its, rv, p, hz⟩ := I.list hq
  obtain ⟨f0, f1, f2, f3, f4, f5⟩ := hf it (by simp)
  have hl := rv.length
  exact wpAny_pyNext_list_end (I.ok.hd hc) st p.isList (by simp; omega) fun h' eb => ⟨rfl, I.turned (t' := s.toks) (fun b o hb e => eb b o hb e) f0 f1 f3 f4 f5⟩
 self := fun _ _ _ _ _ st h => wpAny_pyIter_listiter st h
theorem b2F {P : Program} {w : World} {K : PySem.W.Frag} {tg : Expr} (a it : Addr) : Turn P w K tg (Itt K a) [it] it (fun i h => h.IsTupleIter it a i) where
 mem := by simp
 obj := fun i h st b hb => by
  have e : b = it := by simpa using hb
  subst e
  obtain ⟨o, e, c, d⟩ := st
  exact ⟨o, e, fun v z => by rw [d] at z; cases z⟩
 keep := fun i h h' st k => st.at fun o e => k it (by simp) o e
 item := by
  intro X hP hw hK hc i pins s σ H E I hf st hg
  subst hP hw hK
  obtain ⟨xs, x, hq, hx⟩ := hg
  obtain ⟨its, rv, p, hz⟩ := I.tuple hq
  obtain ⟨u, hu, ru⟩ := rv.get hx
  obtain ⟨f0, f1, f2, f3, f4, f5⟩ := hf it (by simp)
  refine wpAny_pyNext_tuple_item st (show s.heap.IsTuple a its.toArray from p) (x := u) (by simpa using hu) fun h' st' sb => ?_
  have I1 : Inv X pins σ H { s with heap := h' } := I.turned (t' := s.toks) (fun b o hb e => (sb.2 b hb).trans e) f0 f1 f3 f4 f5
  obtain ⟨o, e, c, d⟩ := id st'
  exact ⟨u, rfl, a4J (s := { s with heap := h' }) e c d (by decide) ⟨x, H, I1, ru, ⟨rfl, fun ys hy => by rw [I.tuple_inj hy hq]; exact hx⟩, st', fun b hb => (hf b hb).1⟩⟩
 done := by
  intro X hP hw hK hc i pins s σ H E I hf st hg
  subst hP hw hK
  obtain ⟨xs, hq, hx⟩ := hg
  obtain ⟨its, rv, p, hz⟩ := I.tuple hq
  obtain ⟨f0, f1, f2, f3, f4, f5⟩ := hf it (by simp)
  have hl := rv.length
  exact wpAny_pyNext_tuple_end (I.ok.hd hc) st (show s.heap.IsTuple a its.toArray from p) (by simp; omega) fun h' eb => ⟨rfl, I.turned (t' := s.toks) (fun b o hb e => eb b o hb e) f0 f1 f3 f4 f5⟩
 self := fun _ _ _ _ _ st h => wpAny_pyIter_tupleiter st h
theorem b1L {P : Program} {w : World} {K : PySem.W.Frag} {tg : Expr} (it : Addr) (lo : Int) (n : Nat) : Turn P w K tg (Itr lo n) [it] it (fun i h => IsRangeIter h it (lo + (i : Nat) * 1) ((n : Int) - (i : Nat)) 1) where
 mem := by simp
 obj := fun i h st b hb => by
  have e : b = it := by simpa using hb
  subst e
  exact ⟨_, st, fun v z => by
   have z' : Data.fields _ = Data.cell v := z
   cases z'⟩
 keep := fun i h h' st k => k it (by simp) _ st
 item := by
  intro X hP hw hK hc i pins s σ H E I hf st hg
  subst hP hw hK
  obtain ⟨f0, f1, f2, f3, f4, f5⟩ := hf it (by simp)
  have W := Walks.range (prog := X.prog) (w := X.w) (I.ok.hd hc) it lo 1 n
  refine W.item i s _ _ hg st fun v h' tk hv st' kk => ?_
  obtain ⟨t, rfl⟩ := hv
  have I1 : Inv X pins σ H { s with heap := h', toks := tk } := I.turned (fun b o hb e => kk b o (by simpa using hb) e) f0 f1 f3 f4 f5
  refine ⟨_, rfl, a4J (s := { s with heap := h', toks := tk }) (n := "range_iterator") st' rfl rfl (by decide) ⟨.int (lo + i), H, I1, ⟨t, ?_⟩, ⟨rfl, rfl⟩, st', fun b hb => (hf b hb).1⟩⟩
  rw [Int.mul_one]
 done := by
  intro X hP hw hK hc i pins s σ H E I hf st hg
  subst hP hw hK
  obtain ⟨f0, f1, f2, f3, f4, f5⟩ := hf it (by simp)
  exact wpAny_pyNext_range_end (I.ok.hd hc) st (by have : n ≤ i := hg; omega) fun h' eb => ⟨rfl, I.turned (t' := s.toks) (fun b o hb e => eb b o hb e) f0 f1 f3 f4 f5⟩
 self := fun _ _ _ _ _ st h => wpAny_pyIter_rangeiter st h
section
variable {X : Cx} {tg : Expr}
theorem a8Q {pins : List (Addr × Obj)} {σ : St} {H : Hp} {s : Shared} {R : It → Hp → Prop} {E : Value → Shared → Prop} {lo hi : Int} {t u v : Tok} {tk : Nat} (I : Inv X pins σ H s) (h1 : -(2 ^ 62) ≤ lo) (h2 : lo < 2 ^ 62) (h3 : -(2 ^ 62) ≤ hi) (h4 : hi < 2 ^ 62)
  (q : R (Itr lo (hi - lo).toNat) H) : wpAny (model X.prog X.w) X.A (pyIter (.ref s.heap.objs.size)) (PIE X pins σ tg R) E { s with heap := s.heap.push { cls := .type "range", data := .fields #[.int lo t, .int hi u, .int 1 v] }, toks := tk } := by
 refine wpAny_pyIter_range (IsRange.new ..) (small_one h1 h2 h3 h4) ?_
 have I1 : Inv X pins σ H { s with heap := s.heap.push { cls := .type "range", data := .fields #[.int lo t, .int hi u, .int 1 v] }, toks := tk } := I.kept fun b o e => Heap.get?_push_of_some _ e
 refine ⟨(s.heap.push { cls := .type "range", data := .fields #[.int lo t, .int hi u, .int 1 v] }).objs.size, [(s.heap.push { cls := .type "range", data := .fields #[.int lo t, .int hi u, .int 1 v] }).objs.size], _, _, H, rfl,
  I1.kept (t' := tk) fun b o e => Heap.get?_push_of_some _ e, b1L _ lo (hi - lo).toNat, ?_, fun b hb => ?_, q⟩
 ·have e1 : lo + ((0 : Nat) : Int) * 1 = lo := by simp
  have e2 : (((hi - lo).toNat : Nat) : Int) - ((0 : Nat) : Int) = Builtin.Range.rangeSize lo hi 1 := by rw [rangeSize_one]; split <;> omega
  show IsRangeIter _ _ (lo + ((0 : Nat) : Int) * 1) ((((hi - lo).toNat : Nat) : Int) - ((0 : Nat) : Int)) 1
  rw [e1, e2]
  exact Heap.get?_push_size _ rfl
 ·have e : b = (s.heap.push { cls := .type "range", data := .fields #[.int lo t, .int hi u, .int 1 v] }).objs.size := by simpa using hb
  subst e
  exact I1.fpOk (Nat.le_refl _) (I1.hok.fresh (Nat.le_refl _))
noncomputable def b3H (ta : TA) : TI := fun σ H R => ta σ H fun vs H1 => ∃ j : Int, vs = [.int j] ∧ -(2 ^ 62) ≤ j ∧ j < 2 ^ 62 ∧ R (Itr 0 j.toNat) H1
theorem a58 {a : Expr} {ta : TA} {p pos : Pos} (hg : Gl X "range") (hm : X.mg "range" = none) (ha : PA X [a] ta) (hs : starEach [a] X.env = [(false, eval a X.env)] := by rfl) : PI X tg (.Call (.Name "range" p) [a] [] pos) (b3H ta) := by
 intro pins s σ H R I h
 refine Call_ (X8 I hg hm boot_range (PyProof.Rows.callWith_type1 (thn (ha pos pins s σ H _ I h) fun us s1 ⟨vs, H1, I1, r1, q1⟩ => ?_) hs rfl))
 obtain ⟨j, e, q1, q2, q⟩ := q1
 subst e
 cases r1 with
 | cons r rr =>
  cases rr
  obtain ⟨t, rfl⟩ := r
  exact call_range_1 (a8Q I1 (by omega) (by omega) q1 q2 (by simpa using q))
noncomputable def a8Y (wi : TI) (g : TG) (tb : TS) : TS := fun D σ H => wi σ H fun J H1 => ∃ W : Nat → Nat → St → Hp → Prop, (∃ m, W 0 m σ H1) ∧ ∀ i m σ H, W i m σ H →
 (J.stop i H ∧ D.nx σ H) ∨ (J.go i H ∧ ∃ N : St → Hp → Prop, (∀ σ' H', N σ' H' → ∃ m', m' < m ∧ W (i + 1) m' σ' H') ∧ ∀ x H', J.yld i H x H' → g x σ H' fun σ2 H2 => tb { D with nx := N, ct := N, bk := D.nx } σ2 H2)
noncomputable def Y0 (fp : List Addr) (h : Heap) : List (Addr × Obj) := fp.filterMap fun b => (h.get? b).map fun o => (b, o)
theorem T6 {fp : List Addr} {h : Heap} {b : Addr} {o : Obj} (hb : b ∈ fp) (e : h.get? b = some o) : (b, o) ∈ Y0 fp h := List.mem_filterMap.mpr ⟨b, hb, by rw [e]; rfl⟩
theorem b2N {fp : List Addr} {h : Heap} {p : Addr × Obj} (hp : p ∈ Y0 fp h) : p.1 ∈ fp ∧ h.get? p.1 = some p.2 := by
 obtain ⟨b, hb, e⟩ := List.mem_filterMap.mp hp
 cases q : h.get? b with
 | none => rw [q] at e; cases e
 | some o =>
  rw [q] at e
  have e' : (b, o) = p := Option.some.inj e
  subst e'
  exact ⟨hb, q⟩
theorem Inv.pinned {pins : List (Addr × Obj)} {σ : St} {H : Hp} {s : Shared} {fp : List Addr} (I : Inv X pins σ H s) (hf : ∀ b ∈ fp, J0 X pins H b) (ho : ∀ b ∈ fp, ∃ o, s.heap.get? b = some o ∧ ∀ v, o.data ≠ .cell v) : Inv X (pins ++ Y0 fp s.heap) σ H s :=
 I.pins_of fun p hp => (List.mem_append.mp hp).elim (fun z => I.pin p (List.mem_append_right _ z)) fun z => by
  obtain ⟨hb, e⟩ := b2N z
  obtain ⟨f0, f1, f2, _⟩ := hf p.1 hb
  obtain ⟨o, e', d⟩ := ho p.1 hb
  rw [e] at e'; cases e'
  exact ⟨e, f0, f1, f2, d⟩
theorem Inv.unpinned {pins pl : List (Addr × Obj)} {σ : St} {H : Hp} {s : Shared} (I : Inv X (pins ++ pl) σ H s) : Inv X pins σ H s := I.pins_of fun p hp => I.pin p (List.mem_append_right _ (List.mem_append_left _ hp))
theorem a2u {iter : Expr} {body : List Stmt} {wi : TI} {g : TG} {tb : TS} {pos : Pos} (hp : PassesOwn (model X.prog X.w) X.A X.env X.xe) (hc : X.calm = true) (hi : PI X tg iter wi) (hg : PG X tg g) (hb : PSs X body tb)
  (hs : ∀ x, foldedSetIterable iter X.env x = pure x := by intro _; rfl) : PS X (.For tg iter body [] pos) (a8Y wi g tb) := by
 intro pins s σ H D I h
 refine wpAny_For (thn (hi pins s σ H _ I h) fun v s1 h1 => thn h1 fun itv s2 h2 => ?_) hs
 obtain ⟨it, fp, tn, J, H2, e, I2, T, st2, f2, W, ⟨m0, w0⟩, turn⟩ := h2
 subst e
 have stat : ∀ {H' : Hp}, (∀ b ∈ fp, H' b = none) → ∀ b ∈ fp, J0 X pins H' b := fun hn b hb => ⟨hn b hb, (f2 b hb).2⟩
 refine codeAny_forLoop_any (fun n s' => ∃ i σ' H', Inv X pins σ' H' s' ∧ tn i s'.heap ∧ (∀ b ∈ fp, H' b = none) ∧ W i n σ' H') ?_ m0 ⟨0, σ, H2, I2, st2, fun b hb => (f2 b hb).1, w0⟩
 rintro n s3 ⟨i, σ3, H3, I3, st3, fr3, w3⟩
 rcases turn i n σ3 H3 w3 with ⟨stop, qn⟩ | ⟨go, N, hN, step⟩
 ·refine wpAny_passesOwn hp (thn (T.done X rfl rfl rfl hc i pins s3 σ3 H3 X.xe I3 (stat fr3) st3 stop) fun r s4 ⟨hr, I4⟩ => ?_)
  subst hr
  exact wpAny_execs_nil ⟨σ3, H3, I4, qn⟩
 ·refine wpAny_passesOwn hp (thn (T.item X rfl rfl rfl hc i pins s3 σ3 H3 X.xe I3 (stat fr3) st3 go) fun r s4 ⟨u, hr, h4⟩ => ?_)
  subst hr
  refine wpAny_passesOwn hp (thn h4 fun _ s5 ⟨x, H5, I5, r5, y5, st5, fr5⟩ => ?_)
  have I5' := I5.pinned (stat fr5) (T.obj _ _ st5)
  refine wpAny_passesOwn hp (thn (hg _ s5 σ3 H5 x u _ I5' r5 (step x H5 y5)) fun _ s6 ⟨σ6, H6, I6, q6⟩ => ?_)
  refine wpAny_passesOwn hp (thn (hb _ s6 σ6 H6 _ I6 q6) fun f s7 q7 => ?_)
  have again : ∀ {σ7 : St} {H7 : Hp}, Inv X (pins ++ Y0 fp s5.heap) σ7 H7 s7 → N σ7 H7 → ∃ m, m < n ∧ ∃ i σ' H', Inv X pins σ' H' s7 ∧ tn i s7.heap ∧ (∀ b ∈ fp, H' b = none) ∧ W i m σ' H' := fun {σ7 H7} I7 n7 => by
   obtain ⟨m', hm, w7⟩ := hN σ7 H7 n7
   refine ⟨m', hm, i + 1, σ7, H7, I7.unpinned, T.keep _ _ _ st5 fun b hb o e => (I7.pin (b, o) (List.mem_append_right _ (List.mem_append_right _ (T6 hb e)))).1, fun b hb => ?_, w7⟩
   obtain ⟨o, e, d⟩ := T.obj _ _ st5 b hb
   exact (I7.pin (b, o) (List.mem_append_right _ (List.mem_append_right _ (T6 hb e)))).2.1
  cases f with
  | next => obtain ⟨σ7, H7, I7, n7⟩ := q7; exact again I7 n7
  | cont => obtain ⟨σ7, H7, I7, n7⟩ := q7; exact again I7 n7
  | brk => obtain ⟨σ7, H7, I7, q7⟩ := q7; exact ⟨σ7, H7, I7.unpinned, q7⟩
  | ret v => obtain ⟨x7, σ7, H7, I7, r7, q7⟩ := q7; exact ⟨x7, σ7, H7, I7.unpinned, r7, q7⟩
end
theorem a8i {K : PySem.W.Frag} {a : Addr} {xs : List V} {g : TG} {tb : TS} {D : Ends} {σ : St} {H : Hp} (Pv : Nat → St → Hp → Prop) (h0 : Pv 0 σ H) (hl : ∀ i σ H, i ≤ xs.length → Pv i σ H → SqL K H a xs)
  (hs : ∀ i x σ H, xs[i]? = some x → Pv i σ H → g x σ H fun σ2 H2 => tb { D with nx := Pv (i + 1), ct := Pv (i + 1), bk := D.nx } σ2 H2) (hd : ∀ σ H, Pv xs.length σ H → D.nx σ H) :
  ∃ W : Nat → Nat → St → Hp → Prop, (∃ m, W 0 m σ H) ∧ ∀ i m σ H, W i m σ H →
   ((Itl K a).stop i H ∧ D.nx σ H) ∨ ((Itl K a).go i H ∧ ∃ N : St → Hp → Prop, (∀ σ' H', N σ' H' → ∃ m', m' < m ∧ W (i + 1) m' σ' H') ∧ ∀ x H', (Itl K a).yld i H x H' → g x σ H' fun σ2 H2 => tb { D with nx := N, ct := N, bk := D.nx } σ2 H2) := by
 refine ⟨fun i m σ H => m = xs.length - i ∧ i ≤ xs.length ∧ Pv i σ H, ⟨xs.length, by simp, Nat.zero_le _, h0⟩, ?_⟩
 rintro i m σ H ⟨rfl, hi, p⟩
 have q := hl i σ H hi p
 by_cases hlt : i < xs.length
 ·refine .inr ⟨⟨xs, xs[i], q, by simp [hlt]⟩, Pv (i + 1), fun σ' H' p' => ⟨xs.length - (i + 1), by omega, rfl, hlt, p'⟩, fun x H' y => ?_⟩
  obtain ⟨e, y⟩ := y
  subst e
  exact hs i x σ _ (y xs q) p
 ·have e : i = xs.length := by omega
  subst e
  exact .inl ⟨⟨xs, q, Nat.le_refl _⟩, hd σ H p⟩
theorem a0z {K : PySem.W.Frag} {a : Addr} {xs : List V} {g : TG} {tb : TS} {D : Ends} {σ : St} {H : Hp} (Pv : Nat → St → Hp → Prop) (h0 : Pv 0 σ H) (hl : ∀ i σ H, i ≤ xs.length → Pv i σ H → SqT K H a xs)
  (hs : ∀ i x σ H, xs[i]? = some x → Pv i σ H → g x σ H fun σ2 H2 => tb { D with nx := Pv (i + 1), ct := Pv (i + 1), bk := D.nx } σ2 H2) (hd : ∀ σ H, Pv xs.length σ H → D.nx σ H) :
  ∃ W : Nat → Nat → St → Hp → Prop, (∃ m, W 0 m σ H) ∧ ∀ i m σ H, W i m σ H →
   ((Itt K a).stop i H ∧ D.nx σ H) ∨ ((Itt K a).go i H ∧ ∃ N : St → Hp → Prop, (∀ σ' H', N σ' H' → ∃ m', m' < m ∧ W (i + 1) m' σ' H') ∧ ∀ x H', (Itt K a).yld i H x H' → g x σ H' fun σ2 H2 => tb { D with nx := N, ct := N, bk := D.nx } σ2 H2) := by
 refine ⟨fun i m σ H => m = xs.length - i ∧ i ≤ xs.length ∧ Pv i σ H, ⟨xs.length, by simp, Nat.zero_le _, h0⟩, ?_⟩
 rintro i m σ H ⟨rfl, hi, p⟩
 have q := hl i σ H hi p
 by_cases hlt : i < xs.length
 ·refine .inr ⟨⟨xs, xs[i], q, by simp [hlt]⟩, Pv (i + 1), fun σ' H' p' => ⟨xs.length - (i + 1), by omega, rfl, hlt, p'⟩, fun x H' y => ?_⟩
  obtain ⟨e, y⟩ := y
  subst e
  exact hs i x σ _ (y xs q) p
 ·have e : i = xs.length := by omega
  subst e
  exact .inl ⟨⟨xs, q, Nat.le_refl _⟩, hd σ H p⟩
theorem a8R {lo : Int} {n : Nat} {g : TG} {tb : TS} {D : Ends} {σ : St} {H : Hp} (Pv : Nat → St → Hp → Prop) (h0 : Pv 0 σ H)
  (hs : ∀ i σ H, i < n → Pv i σ H → g (.int (lo + i)) σ H fun σ2 H2 => tb { D with nx := Pv (i + 1), ct := Pv (i + 1), bk := D.nx } σ2 H2) (hd : ∀ σ H, Pv n σ H → D.nx σ H) :
  ∃ W : Nat → Nat → St → Hp → Prop, (∃ m, W 0 m σ H) ∧ ∀ i m σ H, W i m σ H →
   ((Itr lo n).stop i H ∧ D.nx σ H) ∨ ((Itr lo n).go i H ∧ ∃ N : St → Hp → Prop, (∀ σ' H', N σ' H' → ∃ m', m' < m ∧ W (i + 1) m' σ' H') ∧ ∀ x H', (Itr lo n).yld i H x H' → g x σ H' fun σ2 H2 => tb { D with nx := N, ct := N, bk := D.nx } σ2 H2) := by
 refine ⟨fun i m σ H => m = n - i ∧ i ≤ n ∧ Pv i σ H, ⟨n, by simp, Nat.zero_le _, h0⟩, ?_⟩
 rintro i m σ H ⟨rfl, hi, p⟩
 by_cases hlt : i < n
 ·refine .inr ⟨hlt, Pv (i + 1), fun σ' H' p' => ⟨n - (i + 1), by omega, rfl, hlt, p'⟩, fun x H' y => ?_⟩
  obtain ⟨e, y⟩ := y
  subst e y
  exact hs i σ _ hlt p
 ·have e : i = n := by omega
  subst e
  exact .inl ⟨Nat.le_refl _, hd σ H p⟩
noncomputable abbrev R2 := V → V → Hp → VK → Prop
noncomputable def OpR (X : Cx) (f : Value → Value → Sem Value) (r : R2) : Prop :=
 ∀ (pins : List (Addr × Obj)) (s : Shared) (σ : St) (H : Hp) (x y : V) (v u : Value) (Q : VK), Inv X pins σ H s → RelV x v → RelV y u → r x y H Q →
  wpAny (model X.prog X.w) X.A (f v u) (EP X pins σ Q) X.xe s
noncomputable def UnR (X : Cx) (f : Value → Sem Value) (r : V → Hp → VK → Prop) : Prop :=
 ∀ (pins : List (Addr × Obj)) (s : Shared) (σ : St) (H : Hp) (x : V) (v : Value) (Q : VK), Inv X pins σ H s → RelV x v → r x H Q →
  wpAny (model X.prog X.w) X.A (f v) (EP X pins σ Q) X.xe s
noncomputable def CallR (X : Cx) (f : Value) (r : List V → Hp → VK → Prop) : Prop :=
 ∀ (pins : List (Addr × Obj)) (s : Shared) (σ : St) (H : Hp) (xs : List V) (us : List Value) (Q : VK), Inv X pins σ H s → Vals xs us → r xs H Q →
  wpAny (model X.prog X.w) X.A (call f us) (EP X pins σ Q) X.xe s
noncomputable def b0Y (X : Cx) (r : V → Hp → (Bool → Hp → Prop) → Prop) : Prop :=
 ∀ (pins : List (Addr × Obj)) (s : Shared) (σ : St) (H : Hp) (x : V) (v : Value) (Q : Bool → Hp → Prop), Inv X pins σ H s → RelV x v → r x H Q →
  wpAny (model X.prog X.w) X.A (truthy v) (TP X pins σ Q) X.xe s
noncomputable def tOp (r : R2) (ta tb : TE) : TE := fun σ H Q => ta σ H fun x H1 => tb σ H1 fun y H2 => r x y H2 Q
noncomputable def tUn (r : V → Hp → VK → Prop) (ta : TE) : TE := fun σ H Q => ta σ H fun x H1 => r x H1 Q
noncomputable def rI (C : Int → Int → Prop) (g : Int → Int → V) : R2 := fun x y H Q => ∃ i j, x = .int i ∧ y = .int j ∧ C i j ∧ Q (g i j) H
noncomputable def rI0 (g : Int → Int → V) : R2 := fun x y H Q => ∃ i j, x = .int i ∧ y = .int j ∧ Q (g i j) H
noncomputable def rU (g : Int → V) : V → Hp → VK → Prop := fun x H Q => ∃ i, x = .int i ∧ Q (g i) H
section
variable {X : Cx} {a b c : Expr} {ta tb tc : TE} {pos : Pos}
theorem a2h (ha : PE X a ta) (hb : PE X b tb) {pins : List (Addr × Obj)} {s : Shared} {σ : St} {H : Hp} {R : V → V → Hp → Prop} (I : Inv X pins σ H s)
  (h : ta σ H fun x H1 => tb σ H1 fun y H2 => R x y H2) {Q : Value → Shared → Prop} {f : Value → Value → Sem Value}
  (hf : ∀ v u s2 x y H2, Inv X pins σ H2 s2 → RelV x v → RelV y u → R x y H2 → wpAny (model X.prog X.w) X.A (f v u) Q X.xe s2) :
  wpAny (model X.prog X.w) X.A (eval a X.env) (fun v s₁ => wpAny (model X.prog X.w) X.A (eval b X.env) (fun u s₂ => wpAny (model X.prog X.w) X.A (f v u) Q X.xe s₂) X.xe s₁) X.xe s := by
 refine thn (ha pins s σ H _ I h) fun v s1 ⟨x, H1, I1, r1, q1⟩ => ?_
 refine thn (hb pins s1 σ H1 _ I1 q1) fun u s2 ⟨y, H2, I2, r2, q2⟩ => ?_
 exact hf v u s2 x y H2 I2 r1 r2 q2
theorem a5x {op : Operator} {r : R2} (ho : OpR X (binaryOp op) r) (ha : PE X a ta) (hb : PE X b tb) : PE X (.BinOp a op b pos) (tOp r ta tb) := by
 intro pins s σ H Q I h
 exact wpAny_BinOp (a2h ha hb I h fun v u s2 x y H2 I2 rx ry q => ho pins s2 σ H2 x y v u Q I2 rx ry q)
theorem b0f {op : UnaryOp} {r : V → Hp → VK → Prop} (ho : UnR X (unaryOp op) r) (ha : PE X a ta) : PE X (.UnaryOp op a pos) (tUn r ta) := by
 intro pins s σ H Q I h
 exact UnaryOp_ (thn (ha pins s σ H _ I h) fun v s1 ⟨x, H1, I1, r1, q1⟩ => ho pins s1 σ H1 x v Q I1 r1 q1)
theorem opI {f : Value → Value → Sem Value} {C : Int → Int → Prop} {g : Int → Int → Int}
  (rule : ∀ (i j : Int) (t u : Tok) (s : Shared) (Q : Value → Shared → Prop) (E : Value → Shared → Prop), C i j → Q (.int (g i j) s.toks) { s with toks := s.toks + 1 } → wpAny (model X.prog X.w) X.A (f (.int i t) (.int j u)) Q E s) :
  OpR X f (rI C fun i j => .int (g i j)) := by
 intro pins s σ H x y v u Q I rx ry h
 obtain ⟨i, j, rfl, rfl, hc, q⟩ := h
 obtain ⟨t, rfl⟩ := rx
 obtain ⟨t', rfl⟩ := ry
 exact rule i j t t' s _ _ hc ⟨.int (g i j), H, I.tok _, ⟨_, rfl⟩, q⟩
theorem a7o {f : Value → Value → Sem Value} {g : Int → Int → Int}
  (rule : ∀ (i j : Int) (t u : Tok) (s : Shared) (Q : Value → Shared → Prop) (E : Value → Shared → Prop), Q (.int (g i j) s.toks) { s with toks := s.toks + 1 } → wpAny (model X.prog X.w) X.A (f (.int i t) (.int j u)) Q E s) :
  OpR X f (rI0 fun i j => .int (g i j)) := by
 intro pins s σ H x y v u Q I rx ry h
 obtain ⟨i, j, rfl, rfl, q⟩ := h
 obtain ⟨t, rfl⟩ := rx
 obtain ⟨t', rfl⟩ := ry
 exact rule i j t t' s _ _ ⟨.int (g i j), H, I.tok _, ⟨_, rfl⟩, q⟩
theorem a1t {f : Value → Value → Sem Value} {g : Int → Int → Bool}
  (rule : ∀ (i j : Int) (t u : Tok) (s : Shared) (Q : Value → Shared → Prop) (E : Value → Shared → Prop), Q (.bool (g i j)) s → wpAny (model X.prog X.w) X.A (f (.int i t) (.int j u)) Q E s) :
  OpR X f (rI0 fun i j => .bl (g i j)) := by
 intro pins s σ H x y v u Q I rx ry h
 obtain ⟨i, j, rfl, rfl, q⟩ := h
 obtain ⟨t, rfl⟩ := rx
 obtain ⟨t', rfl⟩ := ry
 exact rule i j t t' s _ _ ⟨.bl (g i j), H, I, rfl, q⟩
noncomputable def a7f (i j : Int) : Prop := 0 ≤ j ∧ j ≤ 1000000 ∧ i.natAbs < 2 ^ 64
theorem op_add : OpR X (binaryOp .Add) (rI0 fun i j => .int (i + j)) := a7o fun _ _ _ _ _ _ _ q => add_int q
theorem N6 : OpR X (binaryOp .Sub) (rI0 fun i j => .int (i - j)) := a7o fun _ _ _ _ _ _ _ q => sub_int q
theorem J4 : OpR X (binaryOp .Mod) (rI (fun _ j => j ≠ 0) fun i j => .int (i.fmod j)) := opI fun _ _ _ _ _ _ _ hc q => mod_int' hc q
theorem a5C : OpR X (binaryOp .Pow) (rI a7f fun i j => .int (i ^ j.toNat)) := opI fun _ _ _ _ _ _ _ hc q => pow_int_small hc.1 hc.2.1 hc.2.2 q
theorem unI {f : Value → Sem Value} {g : Int → Int}
  (rule : ∀ (i : Int) (t : Tok) (s : Shared) (Q : Value → Shared → Prop) (E : Value → Shared → Prop), Q (.int (g i) s.toks) { s with toks := s.toks + 1 } → wpAny (model X.prog X.w) X.A (f (.int i t)) Q E s) :
  UnR X f (rU fun i => .int (g i)) := by
 intro pins s σ H x v Q I rx h
 obtain ⟨i, rfl, q⟩ := h
 obtain ⟨t, rfl⟩ := rx
 exact rule i t s _ _ ⟨.int (g i), H, I.tok _, ⟨_, rfl⟩, q⟩
theorem B8 : UnR X (unaryOp .USub) (rU fun i => .int (-i)) := unI fun _ _ _ _ _ q => neg_int q
end
noncomputable def a48 : V → V → Bool
 | .non, .non => true | .non, .int _ => true | .int _, .non => true | .non, .bl _ => true | .bl _, .non => true | .non, .str _ => true | .str _, .non => true
 | .int _, .int _ => true | .bl _, .bl _ => true | .str _, .str _ => true | .byt _, .byt _ => true
 | .int _, .str _ => true | .str _, .int _ => true | .bl _, .str _ => true | .str _, .bl _ => true
 | _, _ => false
noncomputable def rEq : R2 := fun x y H Q => a48 x y = true ∧ Q (.bl (decide (x = y))) H
noncomputable def rNe : R2 := fun x y H Q => a48 x y = true ∧ Q (.bl (!decide (x = y))) H
theorem a6Q {i j : Int} : decide (V.int i = V.int j) = (i == j) := by
 rw [Bool.eq_iff_iff]
 simp
theorem a7l {i j : Bool} : decide (V.bl i = V.bl j) = (i == j) := by
 rw [Bool.eq_iff_iff]
 simp
theorem a5k {i j : Str} : decide (V.str i = V.str j) = (i == j) := by
 rw [Bool.eq_iff_iff]
 simp
theorem a6C {i j : Array UInt8} : decide (V.byt i = V.byt j) = (i.toList == j.toList) := by
 rw [Bool.eq_iff_iff]
 cases i
 cases j
 simp
section
variable {X : Cx} {a b c : Expr} {ta tb tc : TE} {pos : Pos}
theorem y0 {pins : List (Addr × Obj)} {σ : St} {H : Hp} {s : Shared} {Q : VK} {k k' : Bool} (I : Inv X pins σ H s) (q : Q (.bl k) H) (e : k = k') : EP X pins σ Q (.bool k') s := by
 subst e
 exact ⟨.bl k, H, I, rfl, q⟩
theorem op_eq : OpR X (compareOp .Eq) rEq := by
 intro pins s σ H x y v u Q I rx ry h
 obtain ⟨hs, q⟩ := h
 cases x with
 | non =>
  cases rx
  cases y with
  | non => cases ry; exact PySem.EqNone.eq_none_none (y0 I q (by simp))
  | bl j => cases ry; exact PySem.EqNone.eq_none_bool (y0 I q (by simp))
  | int j => obtain ⟨t', rfl⟩ := ry; exact PySem.EqNone.eq_none_int (y0 I q (by simp))
  | str j => obtain ⟨t', rfl⟩ := ry; exact PySem.EqNone.eq_none_str (y0 I q (by simp))
  | _ => exact absurd (show false = true from hs) Bool.false_ne_true
 | bl i =>
  cases rx
  cases y with
  | non => cases ry; exact PySem.EqNone.eq_bool_none (y0 I q (by simp))
  | bl j => cases ry; exact eq_bool (y0 I q a7l)
  | str j => obtain ⟨t', rfl⟩ := ry; exact PySem.EqMixed.eq_bool_str (y0 I q (by simp))
  | _ => exact absurd (show false = true from hs) Bool.false_ne_true
 | int i =>
  obtain ⟨t, rfl⟩ := rx
  cases y with
  | non => cases ry; exact PySem.EqNone.eq_int_none (y0 I q (by simp))
  | int j => obtain ⟨t', rfl⟩ := ry; exact eq_int (y0 I q a6Q)
  | str j => obtain ⟨t', rfl⟩ := ry; exact PySem.EqMixed.eq_int_str (y0 I q (by simp))
  | _ => exact absurd (show false = true from hs) Bool.false_ne_true
 | str i =>
  obtain ⟨t, rfl⟩ := rx
  cases y with
  | non => cases ry; exact PySem.EqNone.eq_str_none (y0 I q (by simp))
  | bl j => cases ry; exact PySem.EqMixed.eq_str_bool (y0 I q (by simp))
  | int j => obtain ⟨t', rfl⟩ := ry; exact PySem.EqMixed.eq_str_int (y0 I q (by simp))
  | str j => obtain ⟨t', rfl⟩ := ry; exact eq_str (y0 I q a5k)
  | _ => exact absurd (show false = true from hs) Bool.false_ne_true
 | byt i =>
  obtain ⟨t, rfl⟩ := rx
  cases y with
  | byt j => obtain ⟨t', rfl⟩ := ry; exact PySem.W.eq_bytes (y0 I q a6C)
  | _ => exact absurd (show false = true from hs) Bool.false_ne_true
 | _ => cases y <;> exact absurd (show false = true from hs) Bool.false_ne_true
theorem op_ne : OpR X (compareOp .NotEq) rNe := by
 intro pins s σ H x y v u Q I rx ry h
 obtain ⟨hs, q⟩ := h
 cases x with
 | non =>
  cases rx
  cases y with
  | non => cases ry; exact PySem.EqNone.ne_none_none (y0 I q (by simp))
  | bl j => cases ry; exact PySem.EqNone.ne_none_bool (y0 I q (by simp))
  | int j => obtain ⟨t', rfl⟩ := ry; exact PySem.EqNone.ne_none_int (y0 I q (by simp))
  | str j => obtain ⟨t', rfl⟩ := ry; exact PySem.EqNone.ne_none_str (y0 I q (by simp))
  | _ => exact absurd (show false = true from hs) Bool.false_ne_true
 | bl i =>
  cases rx
  cases y with
  | non => cases ry; exact PySem.EqNone.ne_bool_none (y0 I q (by simp))
  | bl j => cases ry; exact ne_bool (y0 I q (congrArg not a7l))
  | str j => obtain ⟨t', rfl⟩ := ry; exact PySem.EqMixed.ne_bool_str (y0 I q (by simp))
  | _ => exact absurd (show false = true from hs) Bool.false_ne_true
 | int i =>
  obtain ⟨t, rfl⟩ := rx
  cases y with
  | non => cases ry; exact PySem.EqNone.ne_int_none (y0 I q (by simp))
  | int j => obtain ⟨t', rfl⟩ := ry; exact ne_int (y0 I q (congrArg not a6Q))
  | str j => obtain ⟨t', rfl⟩ := ry; exact PySem.EqMixed.ne_int_str (y0 I q (by simp))
  | _ => exact absurd (show false = true from hs) Bool.false_ne_true
 | str i =>
  obtain ⟨t, rfl⟩ := rx
  cases y with
  | non => cases ry; exact PySem.EqNone.ne_str_none (y0 I q (by simp))
  | bl j => cases ry; exact PySem.EqMixed.ne_str_bool (y0 I q (by simp))
  | int j => obtain ⟨t', rfl⟩ := ry; exact PySem.EqMixed.ne_str_int (y0 I q (by simp))
  | str j => obtain ⟨t', rfl⟩ := ry; exact ne_str (y0 I q (congrArg not a5k))
  | _ => exact absurd (show false = true from hs) Bool.false_ne_true
 | byt i =>
  obtain ⟨t, rfl⟩ := rx
  cases y with
  | byt j => obtain ⟨t', rfl⟩ := ry; exact PySem.W.ne_bytes (y0 I q (congrArg not a6C))
  | _ => exact absurd (show false = true from hs) Bool.false_ne_true
 | _ => cases y <;> exact absurd (show false = true from hs) Bool.false_ne_true
theorem V5 : OpR X (compareOp .Lt) (rI0 fun i j => .bl (decide (i < j))) := a1t fun _ _ _ _ _ _ _ q => lt_int q
theorem a5w : OpR X (compareOp .LtE) (rI0 fun i j => .bl (decide (i ≤ j))) := a1t fun _ _ _ _ _ _ _ q => le_int q
theorem Y4 : OpR X (compareOp .Gt) (rI0 fun i j => .bl (decide (j < i))) := a1t fun _ _ _ _ _ _ _ q => gt_int q
theorem a8J : OpR X (compareOp .GtE) (rI0 fun i j => .bl (decide (j ≤ i))) := a1t fun _ _ _ _ _ _ _ q => ge_int q
theorem OpR.or {f : Value → Value → Sem Value} {r r' : R2} (h : OpR X f r) (h' : OpR X f r') : OpR X f (fun x y H Q => r x y H Q ∨ r' x y H Q) := by
 intro pins s σ H x y v u Q I rx ry q
 rcases q with q | q
 ·exact h pins s σ H x y v u Q I rx ry q
 ·exact h' pins s σ H x y v u Q I rx ry q
theorem v3 (b : Expr) {op : CmpOp} (h : op ≠ .In := by decide) (h2 : op ≠ .NotIn := by decide) : behindInMarks op b = false := by
 have e1 : (op == CmpOp.In) = false := by cases op <;> first | rfl | exact absurd rfl h
 have e2 : (op == CmpOp.NotIn) = false := by cases op <;> first | rfl | exact absurd rfl h2
 cases b <;> simp [behindInMarks, e1, e2]
theorem b2U {op : CmpOp} {r : R2} (ho : OpR X (compareOp op) r) (ha : PE X a ta) (hb : PE X b tb) (hm : behindInMarks op b = false) : PE X (.Compare a [op] [b] pos) (tOp r ta tb) := by
 intro pins s σ H Q I h
 exact wpAny_Compare1 (a2h ha hb I h fun v u s2 x y H2 I2 rx ry q => ho pins s2 σ H2 x y v u Q I2 rx ry q) hm
noncomputable def b18 (t : TE) : TT := fun σ H Q => t σ H fun x H' => ∃ k, x = .bl k ∧ Q k H'
theorem b3k {op : CmpOp} {r : R2} (ho : OpR X (compareOp op) r) (ha : PE X a ta) (hb : PE X b tb) (hm : behindInMarks op b = false) : PT X (.Compare a [op] [b] pos) (b18 (tOp r ta tb)) := by
 intro pins s σ H Q I h
 refine wpAny_isTrue_Compare1 (thn (ha pins s σ H _ I h) fun v s1 ⟨x, H1, I1, r1, q1⟩ => thn (hb pins s1 σ H1 _ I1 q1) fun u s2 ⟨y, H2, I2, r2, q2⟩ =>
  thn (ho pins s2 σ H2 x y v u _ I2 r1 r2 q2) fun c s3 ⟨z, H3, I3, r3, k, e, q3⟩ => ?_) hm
 subst e
 cases r3
 exact wpAny_truthy_bool ⟨H3, I3, q3⟩
noncomputable def a5N (K : PySem.W.Frag) (x : V) (H : Hp) (k : Bool) : Prop :=
 match x with
 | .non => k = false
 | .bl b => k = b
 | .int i => k = (i != 0)
 | .str y => y.length ≤ sizeLine ∧ k = ((y.length : Int) != 0)
 | .byt y => y.size ≤ sizeLine ∧ k = ((y.size : Int) != 0)
 | .ref p => (∃ xs, SqL K H p xs ∧ k = !xs.isEmpty) ∨ (∃ xs, SqT K H p xs ∧ k = !xs.isEmpty) ∨ ∃ kvs, H p = some (.dK kvs) ∧ k = !kvs.isEmpty
 | _ => False
theorem b0c {κ : Type} {kvs : List (κ × V)} {vs : List (κ × Value)} (r : KV kvs vs) : (!vs.isEmpty) = !kvs.isEmpty := by
 cases r <;> rfl
theorem a4Y {xs : List V} {its : List Value} (r : Vals xs its) : (!its.toArray.isEmpty) = !xs.isEmpty := by
 cases r <;> simp
theorem X1 : (sizeLine : Nat) < 2 ^ 63 := by rw [sizeLine_eq]; decide
theorem b1X : b0Y X (fun x H Q => ∃ k, a5N X.K x H k ∧ Q k H) := by
 intro pins s σ H x v Q I rx h
 obtain ⟨k, e, q⟩ := h
 have hl := X1
 have hs : sizeLine = 16777216 := sizeLine_eq
 cases x with
 | non =>
  cases rx
  have e' : k = false := e
  subst e'
  exact truthy_none ⟨H, I, q⟩
 | bl b =>
  cases rx
  have e' : k = b := e
  subst e'
  exact wpAny_truthy_bool ⟨H, I, q⟩
 | int i =>
  obtain ⟨t, rfl⟩ := rx
  have e' : k = (i != 0) := e
  subst e'
  exact PySem.P.truthy_int ⟨H, I, q⟩
 | str y =>
  obtain ⟨t, rfl⟩ := rx
  obtain ⟨hy, e'⟩ : y.length ≤ sizeLine ∧ k = ((y.length : Int) != 0) := e
  subst e'
  exact PySem.P.truthy_str (by omega) ⟨H, I.tok _, q⟩
 | byt y =>
  obtain ⟨t, rfl⟩ := rx
  obtain ⟨hy, e'⟩ : y.size ≤ sizeLine ∧ k = ((y.size : Int) != 0) := e
  subst e'
  exact PySem.W.truthy_bytes (by omega) ⟨H, I.tok _, q⟩
 | ref p =>
  cases rx
  have e' : (∃ xs, SqL X.K H p xs ∧ k = !xs.isEmpty) ∨ (∃ xs, SqT X.K H p xs ∧ k = !xs.isEmpty) ∨ ∃ kvs, H p = some (.dK kvs) ∧ k = !kvs.isEmpty := e
  rcases e' with ⟨xs, hx, e'⟩ | ⟨xs, hx, e'⟩ | ⟨kvs, hx, e'⟩
  ·subst e'
   obtain ⟨its, r, pl, hz⟩ := I.list hx
   have hlen := r.length
   exact wpAny_truthy_list pl.isList (by simp only [List.size_toArray]; omega) ⟨H, I.tok _, by rw [a4Y r]; exact q⟩
  ·subst e'
   obtain ⟨its, r, pl, hz⟩ := I.tuple hx
   have hlen := r.length
   exact truthy_tuple pl (by simp only [List.size_toArray]; omega) ⟨H, I.tok _, by rw [a4Y r]; exact q⟩
  ·subst e'
   obtain ⟨hz, hS, vs, r, m⟩ : kvs.length ≤ sizeLine ∧ (p == sysModules) = false ∧ ∃ vs, KV kvs vs ∧ s.heap.DictOf (a4E X.prog X.w) p vs := I.hok p _ hx
   have hlen : kvs.length = vs.length := Paired.length r
   exact wpAny_truthy_dict hS m (by omega) ⟨H, I.tok _, by rw [b0c r]; exact q⟩
 | _ => exact (show False from e).elim
theorem b0u (ha : PE X a ta) (he : ∀ whole, isTrue a X.env whole = (do let v ← whole; standAt a.pos; holding [v] (truthy v))) :
  PT X a (fun σ H Q => ta σ H fun x H' => ∃ k, a5N X.K x H' k ∧ Q k H') := by
 intro pins s σ H Q I h
 exact isTrue_plain (thn (ha pins s σ H _ I h) fun v s1 ⟨x, H1, I1, r1, q1⟩ => b1X pins s1 σ H1 x v Q I1 r1 q1) (he _)
theorem b0m : OpR X (binaryOp .Add) (fun x y H Q => ∃ i j, x = .str i ∧ y = .str j ∧ i.length + j.length ≤ sizeLine ∧ Q (.str (i ++ j)) H) := by
 intro pins s σ H x y v u Q I rx ry h
 obtain ⟨i, j, rfl, rfl, hz, q⟩ := h
 obtain ⟨t, rfl⟩ := rx
 obtain ⟨t', rfl⟩ := ry
 exact add_str (fun t' tk => ⟨.str (i ++ j), H, I.tok _, ⟨_, rfl⟩, q⟩) hz
theorem U1 {x : V} {us : List Value} (r : Vals [x] us) : ∃ u, us = [u] ∧ RelV x u := by
 cases r with
 | cons r1 r2 => cases r2; exact ⟨_, rfl, r1⟩
theorem a1e : CallR X (.builtin "abs") (fun xs H Q => ∃ i, xs = [.int i] ∧ Q (.int (if i < 0 then -i else i)) H) := by
 intro pins s σ H xs us Q I r h
 obtain ⟨i, rfl, q⟩ := h
 obtain ⟨u, rfl, t, rfl⟩ := U1 r
 exact call_abs_int fun u tk => ⟨.int (if i < 0 then -i else i), H, I.tok _, ⟨_, rfl⟩, q⟩
theorem b35 : CallR X (.type "int") (fun xs H Q => (∃ i, xs = [.int i] ∧ Q (.int i) H) ∨ ∃ k, xs = [.bl k] ∧ Q (.int (if k then 1 else 0)) H) := by
 intro pins s σ H xs us Q I r h
 rcases h with ⟨i, rfl, q⟩ | ⟨k, rfl, q⟩
 ·obtain ⟨u, rfl, t, rfl⟩ := U1 r
  exact call_int_int ⟨.int i, H, I, ⟨_, rfl⟩, q⟩
 ·obtain ⟨u, rfl, r1⟩ := U1 r
  cases r1
  exact call_int_bool ⟨.int (if k then 1 else 0), H, I.tok _, ⟨_, rfl⟩, q⟩
end
structure Room (k : Nat) (A : Around) : Prop where
 hd : A.handled = none
 dp : A.depth + 3 * k + 5 < recursionLimit
 un : A.units + 16 * k + 200 < cLine
 gd : A.guards = some []
theorem Room.mono {j k : Nat} {A : Around} (r : Room k A) (h : j ≤ k) : Room j A := ⟨r.hd, by have := r.dp; omega, by have := r.un; omega, r.gd⟩
theorem Room.deeper {k : Nat} {A : Around} (r : Room (k + 1) A) (env : Env) : Room k (A.deeper env) :=
 ⟨r.hd, by have := r.dp; show A.depth + 1 + 3 * k + 5 < _; omega, by have := r.un; show A.units + 3 + 16 * k + 200 < _; omega, r.gd⟩
theorem Room.depth {k : Nat} {A : Around} (r : Room k A) : A.depth < recursionLimit := by have := r.dp; omega
noncomputable def a9x : TA := fun _ H Q => Q [] H
noncomputable def b2X (ta : TE) (tr : TA) : TA := fun σ H Q => ta σ H fun x H1 => tr σ H1 fun xs H2 => Q (x :: xs) H2
section
variable {X : Cx} {e : Expr} {es : List Expr} {te : TE} {t : TA} {pos : Pos}
theorem a1k : PA X [] a9x := fun _ _ _ _ H Q I h => Calls.spliced_nil ⟨[], H, I, .nil, h⟩
theorem X7 (ha : PE X e te) (hr : PA X es t) (hs : starEach (e :: es) X.env = (false, eval e X.env) :: starEach es X.env := by rfl) : PA X (e :: es) (b2X te t) := by
 intro pos pins s σ H Q I h
 rw [hs]
 show wpAny _ _ (spliced ((false, eval e X.env) :: backTo pos (starEach es X.env))) _ _ s
 refine Calls.spliced_cons (thn (ha pins s σ H _ I h) fun u s1 ⟨x, H1, I1, r1, q1⟩ => ?_)
 exact thn (hr pos pins s1 σ H1 _ I1 q1) fun us s2 ⟨xs, H2, I2, r2, q2⟩ => ⟨x :: xs, H2, I2, .cons r1 r2, q2⟩
noncomputable def b0r (t : TA) : TE := fun σ H Q => t σ H fun xs H1 => xs.length ≤ sizeLine ∧ ∀ p, H1 p = none → Q (.ref p) (upd H1 p (.tup xs))
noncomputable def b3N (t : TA) : TE := fun σ H Q => t σ H fun xs H1 => xs.length ≤ sizeLine ∧ ∀ p, H1 p = none → Q (.ref p) (upd H1 p (.lst xs))
theorem b2g {x1} (h : PA X es t) : PE X (.Tuple es x1 pos) (b0r t) := by
 intro pins s σ H Q I hq
 refine wpAny_Tuple_spliced (thn (h pos pins s σ H _ I hq) fun us s1 ⟨xs, H1, I1, r, z, q⟩ => ⟨by rw [← r.length]; exact z, ?_⟩)
 have hf : H1 s1.heap.objs.size = none := I1.hok.fresh (Nat.le_refl _)
 refine ⟨.ref s1.heap.objs.size, upd H1 s1.heap.objs.size (.tup xs), I1.laid (t' := s1.toks) (fun b u e => Heap.get?_push_of_some _ e) (Nat.le_refl _) ?_, rfl, q _ hf⟩
 exact ⟨z, us, r, ⟨_, Heap.get?_push_size _ rfl, rfl, _, rfl⟩⟩
theorem a7v (h : PA X es t) : PE X (.List es pos) (b3N t) := by
 intro pins s σ H Q I hq
 refine wpAny_List_spliced (thn (h pos pins s σ H _ I hq) fun us s1 ⟨xs, H1, I1, r, z, q⟩ => ⟨by rw [← r.length]; exact z, ?_⟩)
 have hf : H1 s1.heap.objs.size = none := I1.hok.fresh (Nat.le_refl _)
 refine ⟨.ref s1.heap.objs.size, upd H1 s1.heap.objs.size (.lst xs), I1.laid (t' := s1.toks) (fun b u e => Heap.get?_push_of_some _ e) (Nat.le_refl _) ?_, rfl, q _ hf⟩
 exact ⟨z, us, 0, r, Heap.get?_push_size _ rfl⟩
end
noncomputable abbrev Sp := List V → Hp → VK → XK → Prop
noncomputable abbrev CXT := List Env → Hp → Shared → XK → Value → Shared → Prop
structure Env0 (P : Program) (w : World) (K : PySem.W.Frag) (mg : Str → Option Value) (base : Heap) (A : Around) (outer : List Env) (s : Shared) (H : Hp) : Prop where
 frames : A.frames = some outer
 mod : Mod K mg base
 bs : ∀ b o, base.get? b = some o → s.heap.get? b = some o ∧ H b = none
 bsz : base.objs.size ≤ s.heap.objs.size
 funs : s.heap.FunFrames base outer
 frf : ∀ b ∈ frs outer, H b = none
 hok : HOk P w H s.heap
 bare : AllBare s.gens
noncomputable def CE (outer : List Env) (P : Program) (w : World) (H : Hp) (s : Shared) (Q : VK) (u : Value) (s' : Shared) : Prop :=
 ∃ v H', s'.os = s.os ∧ AllBare s'.gens ∧ Un (frs outer) [] H H' s.heap s'.heap ∧ HOk P w H' s'.heap ∧ RelV v u ∧ Q v H'
noncomputable def CR (CX : CXT) (outer : List Env) (P : Program) (w : World) (H : Hp) (s : Shared) (Q : VK) (E : XK) (r : Result) (s' : Shared) : Prop :=
 match r with
 | .ok (.ret u) => CE outer P w H s Q u s'
 | .ok _ => False
 | .error e => CX outer H s E e s'
structure FnOk (P : Program) (w : World) (K : PySem.W.Frag) (mg : Str → Option Value) (base : Heap) (CX : CXT) (k : Nat) (f : Addr) (fd : FuncData) (ps : List Str) (sp : Sp) : Prop where
 len : ∀ vs H Q E, sp vs H Q E → vs.length = ps.length
 run : ∀ (A : Around) (outer : List Env) (s : Shared) (H : Hp) (args : Args) (us : List Value) (vs : List V) (Q : VK) (E : XK), Room k A → Env0 P w K mg base A outer s H → BindsTo s fd args (ps.zip us) → Vals vs us → sp vs H Q E →
  codeAny (model P w) A (.call (.ref f) args) (CR CX outer P w H s Q E) s
section
variable {X : Cx} {pins : List (Addr × Obj)} {σ : St} {H : Hp} {s s' : Shared}
theorem Inv.env0 (I : Inv X pins σ H s) : Env0 X.prog X.w X.K X.mg X.base X.A X.stack s H :=
 ⟨I.ok.frames, I.ok.mod, I.bs, Nat.le_trans I.ok.bsz I.sz, I.stack, I.stkFree, I.hok, I.bare⟩
theorem Inv.after {Q : VK} {u : Value} (I : Inv X pins σ H s) (h : CE X.stack X.prog X.w H s Q u s') : EP X pins σ Q u s' := by
 obtain ⟨v, H', os, bare, un, hok, r, q⟩ := h
 obtain ⟨hh, g, d, t, os'⟩ := s'
 obtain rfl : os' = s.os := os
 exact ⟨v, H', I.call (h' := hh) (g' := g) (d' := d) (t' := t) (ch := []) un hok bare (fun b z => absurd z (by simp)), r, q⟩
end
noncomputable def a5u (sp : Sp) (dvs : List V) (E : XK) (t : TA) : TE := fun σ H Q => t σ H fun vs H1 => sp (vs ++ dvs) H1 Q E
noncomputable def Binds (K : PySem.W.Frag) (fd : FuncData) (ps : List Str) (ds : List Value) : Prop :=
 ∀ (s : Shared) (us : List Value), K.In s.heap → (us ++ ds).length = ps.length → BindsTo s fd ⟨us, []⟩ (ps.zip (us ++ ds))
theorem Binds.all {K : PySem.W.Frag} {fd : FuncData} {ps : List Str} (h : ∀ us : List Value, us.length = ps.length → bindArgs fd ⟨us, []⟩ = pure (ps.zip us)) : Binds K fd ps [] := fun s us _ hl => by
 rw [List.append_nil] at hl ⊢
 exact .of_eq (h us hl)
noncomputable def a2V (CX : CXT) (X : Cx) (E : XK) : Prop := ∀ (pins : List (Addr × Obj)) (σ : St) (H : Hp) (s : Shared) (e : Value) (s' : Shared), Inv X pins σ H s → CX X.stack H s E e s' → X.xe e s'
section
variable {X : Cx} {CX : CXT} {k : Nat} {f C : Addr} {fd : FuncData} {ps : List Str} {sp : Sp} {dvs : List V} {ds : List Value} {E : XK} {x m : Str} {p pos apos : Pos} {e o : Expr} {es : List Expr} {ta : TE} {t : TA}
theorem b1F {pins : List (Addr × Obj)} {σ : St} {H : Hp} {s : Shared} {Q : VK} {us : List Value} {vs : List V} (F : FnOk X.prog X.w X.K X.mg X.base CX k f fd ps sp) (hr : Room k X.A) (hb : Binds X.K fd ps ds) (hd : Vals dvs ds) (hx : a2V CX X E)
  (I : Inv X pins σ H s) (r : Vals vs us) (h : sp (vs ++ dvs) H Q E) : wpAny (model X.prog X.w) X.A (call (.ref f) us) (EP X pins σ Q) X.xe s := by
 have r2 : Vals (vs ++ dvs) (us ++ ds) := r.append hd
 have hl : (us ++ ds).length = ps.length := by rw [← r2.length]; exact F.len _ _ _ _ h
 refine wpAny_call (codeAny_mono (F.run X.A X.stack s H ⟨us, []⟩ (us ++ ds) (vs ++ dvs) Q E hr I.env0 (hb s us I.kIn hl) r2 h) fun r s' hq => ?_)
 cases r with
 | error e => exact hx pins σ H s e s' I hq
 | ok fl =>
  cases fl with
  | ret u => exact I.after hq
  | next => exact False.elim hq
  | brk => exact False.elim hq
  | cont => exact False.elim hq
theorem b2d (F : FnOk X.prog X.w X.K X.mg X.base CX k f fd ps sp) (hr : Room k X.A) (hg : Gl X x) (hm : X.mg x = some (.ref f)) (hk : PySem.W.keepIn X.K (.ref f) = true) (hb : Binds X.K fd ps ds) (hd : Vals dvs ds) (hx : a2V CX X E)
  (ha : PA X (e :: es) t) (hdb : (x == ("__debug__" : Str)) = false := by decide) (he : starEach (e :: es) X.env = (false, eval e X.env) :: starEach es X.env := by rfl) (hpl : (backTo pos (starEach es X.env)).any (·.1) = false := by rfl) :
  PE X (.Call (.Name x p) (e :: es) [] pos) (a5u sp dvs E t) := by
 intro pins s σ H Q I h
 refine wpAny_Call_Name_kw (a7Y I hg hm ?_ hdb)
 refine PySem.W.callWith_K (h₀ := X.base) I.ok.mod.kin hk (thn (ha pos pins s σ H _ I h) fun us s1 ⟨vs, H1, I1, r, q⟩ => ⟨I1.kIn, ?_⟩) he hpl
 exact b1F F hr hb hd hx I1 r q
end
structure FnScope (N P : List Str) (sc : Scope) : Prop where
 kind : sc.kind = .function
 co : sc.isCoroutine = false
 gen : sc.isGenerator = false
 nd : N.Nodup
 pre : N.take P.length = P
 par : ∀ x ∈ P, sc.names.lookup x = some .local ∨ sc.names.lookup x = some .cell
 nofree : ∀ y ∈ sc.names, y.2 ≠ .free
theorem a5m {kindOf : Str → Option NameKind} {x : Str} : ∀ {binds : List (Str × Value)} {m : Str → Option Value}, (∀ v, (x, v) ∉ binds) → bindL kindOf binds m x = m x
 | [], _, _ => rfl
 | (n, v) :: r, m, h => by
  unfold bindL
  rw [a5m fun w hw => h w (List.mem_cons_of_mem _ hw)]
  split
  ·have : x ≠ n := by rintro rfl; exact h v List.mem_cons_self
   simp [this]
  ·rfl
theorem a7z {kindOf : Str → Option NameKind} {x : Str} : ∀ {binds : List (Str × Value)} {m : Str → Option Value}, (∀ v, (x, v) ∉ binds) → bindC kindOf binds m x = m x
 | [], _, _ => rfl
 | (n, v) :: r, m, h => by
  unfold bindC
  rw [a7z fun w hw => h w (List.mem_cons_of_mem _ hw)]
  split
  ·rfl
  ·have : x ≠ n := by rintro rfl; exact h v List.mem_cons_self
   simp [this]
theorem a6Z {kindOf : Str → Option NameKind} {x : Str} {v : Value} : ∀ {P : List Str} {vs : List Value} {i : Nat} {m : Str → Option Value}, P.Nodup → P[i]? = some x → vs[i]? = some v → kindOf x = some .local →
  bindL kindOf (P.zip vs) m x = some v
 | [], _, _, _, _, h, _, _ => by simp at h
 | _ :: _, [], _, _, _, _, h, _ => by simp at h
 | p :: P, w :: vs, 0, m, nd, h1, h2, hk => by
  simp at h1 h2; subst h1; subst h2
  show bindL kindOf ((p, w) :: P.zip vs) m p = _
  unfold bindL
  rw [a5m fun v hv => (List.nodup_cons.mp nd).1 (List.of_mem_zip hv).1, if_pos hk]
  simp
 | p :: P, w :: vs, i + 1, m, nd, h1, h2, hk => by
  show bindL kindOf ((p, w) :: P.zip vs) m x = _
  unfold bindL
  exact a6Z (i := i) (List.nodup_cons.mp nd).2 (by simpa using h1) (by simpa using h2) hk
theorem a6A {kindOf : Str → Option NameKind} {x : Str} {v : Value} : ∀ {P : List Str} {vs : List Value} {i : Nat} {m : Str → Option Value}, P.Nodup → P[i]? = some x → vs[i]? = some v → kindOf x ≠ some .local →
  bindC kindOf (P.zip vs) m x = some v
 | [], _, _, _, _, h, _, _ => by simp at h
 | _ :: _, [], _, _, _, _, h, _ => by simp at h
 | p :: P, w :: vs, 0, m, nd, h1, h2, hk => by
  simp at h1 h2; subst h1; subst h2
  show bindC kindOf ((p, w) :: P.zip vs) m p = _
  unfold bindC
  rw [a7z fun v hv => (List.nodup_cons.mp nd).1 (List.of_mem_zip hv).1, if_neg hk]
  simp
 | p :: P, w :: vs, i + 1, m, nd, h1, h2, hk => by
  show bindC kindOf ((p, w) :: P.zip vs) m x = _
  unfold bindC
  exact a6A (i := i) (List.nodup_cons.mp nd).2 (by simpa using h1) (by simpa using h2) hk
noncomputable def start (N : List Str) (vs : List V) : St := vs.map some ++ List.replicate (N.length - vs.length) none
noncomputable def O6 (CX : CXT) (P : Program) (w : World) (K : PySem.W.Frag) (mg : Str → Option Value) (base : Heap) (N : List Str) (qual : Str) (scope : Scope) (f : Addr) (cd : Value) (A : Around) (outer : List Env) (s : Shared) (H : Hp) (E : XK) : Cx where
 prog := P
 w := w
 K := K
 mg := mg
 base := base
 A := A.deeper (envOfC qual scope s.heap.objs.size f cd)
 N := N
 s₀ := s
 H₀ := H
 env := envOfC qual scope s.heap.objs.size f cd
 outer := outer
 stack := envOfC qual scope s.heap.objs.size f cd :: outer
 ex := []
 calm := true
 fn := fun _ => true
 pn := []
 xe := fun e s' => wpAny (model P w) (A.deeper (envOfC qual scope s.heap.objs.size f cd)) (leaving (envOfC qual scope s.heap.objs.size f cd) e) (fun _ s'' => CX outer H s E e s'') (fun e' s'' => CX outer H s E e' s'') s'
theorem a5G {sc : Scope} {n : Nat} {x : Str} (h : sc.names.lookup x = some .cell) : ∃ c, (cellsFrom n sc.names []).lookup x = some c := by
 have q := PySem.W.cellsFrom_some sc.names n [] (.inl h)
 exact Option.isSome_iff_exists.mp q
theorem a9d {CX : CXT} {P : Program} {w : World} {K : PySem.W.Frag} {mg : Str → Option Value} {base : Heap} {N ps : List Str} {qual : Str} {scope : Scope} {f : Addr} {cd : Value} {A : Around} {outer : List Env} {s s1 : Shared} {H : Hp} {E : XK} {us : List Value} {vs : List V}
  (S : FnScope N ps scope) (hd : A.handled = none) (e0 : Env0 P w K mg base A outer s H) (hl : vs.length = ps.length) (r : Vals vs us)
  (x : InCallC s s.heap.objs.size (bindL (envOfC qual scope s.heap.objs.size f cd).kindOf (ps.zip us) fun _ => none) (cellsFrom (s.heap.objs.size + 1) scope.names []) (bindC (envOfC qual scope s.heap.objs.size f cd).kindOf (ps.zip us) fun _ => none) s1) :
  Inv (O6 CX P w K mg base N qual scope f cd A outer s H E) [] (start N vs) H s1 := by
 have hpl : ps.length ≤ N.length := by have := congrArg List.length S.pre; rw [List.length_take] at this; omega
 obtain ⟨h1, tk, rfl, hk⟩ := x.done
 have noA : ∀ b : Addr, b ∉ (O6 CX P w K mg base N qual scope f cd A outer s H E).ex := fun b z => absurd (show b ∈ ([] : List Addr) from z) (by simp)
 refine ⟨⟨e0.mod, S.kind, rfl, rfl, Nat.le_refl _, fun y z c h1 h2 => ?_, fun y hy => ?_, fun y c _ h => ?_, fun _ => hd, Around.frames_deeper e0.frames, .inr ⟨rfl, rfl⟩, fun b z => absurd z (noA b), e0.bs, e0.bsz, fun b _ _ => noA b, fun b z => absurd z (noA b), e0.funs, e0.frf⟩,
  rfl, e0.bare, Un.kept hk, ⟨_, x.toInCall.ns, fun i y v h1 h2 h3 => ?_⟩, fun y c h => ⟨_, x.cell y c h⟩, e0.hok.fresh (Nat.le_refl _), fun y c h => ?_, fun p hp => absurd (show p ∈ ([] : List (Addr × Obj)) from hp) (by simp), e0.hok.kept hk, ?_⟩
 ·exact name_of_addr x.apart (PySem.mem_of_lookup h1) (PySem.mem_of_lookup h2)
 ·have hy : scope.names.lookup y = some .cell ∨ scope.names.lookup y = some .free := hy
  rcases hy with hy | hy
  ·exact a5G hy
  ·exact absurd rfl (S.nofree _ (PySem.mem_of_lookup hy))
 ·exact Nat.le_of_lt (x.above y c (PySem.mem_of_lookup h))
 ·have hi : i < vs.length := by
   unfold start at h2
   by_cases hi : i < vs.length
   ·exact hi
   ·rw [List.getElem?_append_right (by simpa using hi)] at h2
    rw [List.getElem?_replicate] at h2
    split at h2 <;> cases h2
  have ha : vs[i]? = some v := by
   unfold start at h2
   rw [List.getElem?_append_left (by simpa using hi), List.getElem?_map] at h2
   cases e : vs[i]? with
   | none => rw [e] at h2; cases h2
   | some a => rw [e] at h2; cases h2; rfl
  obtain ⟨u, hu, rv⟩ := r.get ha
  have hp : ps[i]? = some y := by
   rw [← S.pre, List.getElem?_take_of_lt (by omega)]; exact h1
  have ndP : ps.Nodup := by rw [← S.pre]; exact S.nd.sublist (List.take_sublist _ _)
  refine ⟨u, rv, ?_⟩
  rcases S.par y (List.mem_of_getElem? hp) with k | k
  ·exact .inl ⟨k, a6Z ndP hp hu k⟩
  ·obtain ⟨c, e⟩ := a5G (n := s.heap.objs.size + 1) k
   refine .inr ⟨.inl k, c, e, ?_⟩
   have q := x.cell y c e
   rw [a6A ndP hp hu (by show scope.names.lookup y ≠ _; rw [k]; decide)] at q
   exact q
 ·exact e0.hok.fresh (Nat.le_of_lt (x.above y c (PySem.mem_of_lookup h)))
 ·unfold start
  show _ = N.length
  rw [List.length_append, List.length_map, List.length_replicate]
  omega
theorem a9I {CX : CXT} {P : Program} {w : World} {K : PySem.W.Frag} {mg : Str → Option Value} {base : Heap} {k : Nat} {f : Addr} {name qual : Str} {params : Arguments} {body : List Stmt} {scope : Scope} {dV kV doc pm cdv ct oc : Value} {an od : Option Addr}
  {osl : Array (Option Value)} {N ps : List Str} {sp : Sp} (lk : K.lookup f = some ⟨oc, od, .func (PySem.W.fnOf name qual params body scope dV kV doc pm an cdv ct), osl⟩) (hcd : PySem.W.codeIn K cdv qual = true) (S : FnScope N ps scope)
  (len : ∀ vs H Q E, sp vs H Q E → vs.length = ps.length)
  (hbody : ∀ (A : Around) (outer : List Env) (s : Shared) (H : Hp) (vs : List V) (Q : VK) (E : XK), Room k (A.deeper (envOfC qual scope s.heap.objs.size f cdv)) → sp vs H Q E →
   ∃ t, PSs (O6 CX P w K mg base N qual scope f cdv A outer s H E) body t ∧ t { nx := fun _ H' => Q .non H', rt := Q } (start N vs) H) :
  FnOk P w K mg base CX (k + 1) f (PySem.W.fnOf name qual params body scope dV kV doc pm an cdv ct) ps sp := by
 refine ⟨len, fun A outer s H args us vs Q E hr e0 hb r hsp => ?_⟩
 have hl := len _ _ _ _ hsp
 have KX : K.In s.heap := e0.mod.kin.keeps fun b o e => (e0.bs b o e).1
 have lim : s.heap.NoLimit := e0.mod.nolimit.keeps fun b o e => (e0.bs b o e).1
 have hkind : ∀ y ∈ ps.zip us, scope.names.lookup y.1 = some .local ∨ (scope.names.lookup y.1 = some .cell ∧ ((cellsFrom (s.heap.objs.size + 1) scope.names []).lookup y.1).isSome = true) := fun ⟨n, v⟩ hy => by
  rcases S.par n (List.of_mem_zip hy).1 with q | q
  ·exact .inl q
  ·exact .inr ⟨q, PySem.W.cellsFrom_some _ _ _ (.inl q)⟩
 refine codeAny_call_function hr.depth (KX _ _ lk) rfl S.co S.gen rfl (PySem.W.codeRec_of KX hcd) (hb _ _ _ _ ?_)
 refine wpAny_newFunctionEnv_cells S.kind hkind fun env he s1 x => ?_
 subst he
 refine ⟨lim.keeps x.toInCall.keep, codeAny_func ?_⟩
 obtain ⟨t, ht, hq⟩ := hbody A outer s H vs Q E (hr.deeper _) hsp
 have I : Inv (O6 CX P w K mg base N qual scope f cdv A outer s H E) [] (start N vs) H s1 := a9d S hr.hd e0 hl r x
 refine wpAny_mono (ht [] s1 (start N vs) H _ I hq) (fun fl s' hs => ?_) fun e s' hs => hs
 have fin : ∀ {σ' : St} {H' : Hp} {v : V} {u : Value}, Inv (O6 CX P w K mg base N qual scope f cdv A outer s H E) [] σ' H' s' → RelV v u → Q v H' → CE outer P w H s Q u s' :=
  fun {σ' H' v u} J rv q => ⟨v, H', J.os, J.bare, J.base, J.hok, rv, q⟩
 cases fl with
 | ret u =>
  obtain ⟨v, σ', H', J, rv, q⟩ := hs
  exact fin J rv q
 | next =>
  obtain ⟨σ', H', J, q⟩ := hs
  exact fin (v := V.non) (u := Value.none) J rfl q
 | brk =>
  obtain ⟨_, _, _, q⟩ := hs
  exact False.elim q
 | cont =>
  obtain ⟨_, _, _, q⟩ := hs
  exact False.elim q
section
variable {X : Cx} {x : Str} {p pos : Pos} {e : Expr} {es : List Expr} {t : TA} {id T : String} {r : List V → Hp → VK → Prop}
noncomputable def tCB (r : List V → Hp → VK → Prop) (t : TA) : TE := fun σ H Q => t σ H fun vs H1 => r vs H1 Q
theorem b3e (hc : CallR X (.builtin id) r) (hg : Gl X x) (hm : X.mg x = none) (hv : bootBuiltins x = some (.builtin id)) (ha : PA X (e :: es) t) (hn : x ≠ "__name__" := by decide) (hdb : (x == ("__debug__" : Str)) = false := by decide)
  (he : starEach (e :: es) X.env = (false, eval e X.env) :: starEach es X.env := by rfl) (hpl : (backTo pos (starEach es X.env)).any (·.1) = false := by rfl) : PE X (.Call (.Name x p) (e :: es) [] pos) (tCB r t) := by
 intro pins s σ H Q I h
 refine wpAny_Call_Name_kw (X8 I hg hm hv ?_ hn hdb)
 exact PyProof.Rows.callWith_builtin1 (thn (ha pos pins s σ H _ I h) fun us s1 ⟨vs, H1, I1, r1, q1⟩ => hc pins s1 σ H1 vs us Q I1 r1 q1) he hpl
theorem a80 (hc : CallR X (.type T) r) (hg : Gl X x) (hm : X.mg x = none) (hv : bootBuiltins x = some (.type T)) (ha : PA X (e :: es) t) (hn : x ≠ "__name__" := by decide) (hdb : (x == ("__debug__" : Str)) = false := by decide)
  (he : starEach (e :: es) X.env = (false, eval e X.env) :: starEach es X.env := by rfl) (hpl : (backTo pos (starEach es X.env)).any (·.1) = false := by rfl) : PE X (.Call (.Name x p) (e :: es) [] pos) (tCB r t) := by
 intro pins s σ H Q I h
 refine wpAny_Call_Name_kw (X8 I hg hm hv ?_ hn hdb)
 exact PyProof.Rows.callWith_type1 (thn (ha pos pins s σ H _ I h) fun us s1 ⟨vs, H1, I1, r1, q1⟩ => hc pins s1 σ H1 vs us Q I1 r1 q1) he hpl
end
end L2
namespace HT
open PySem PyProof.Rows
section
variable {prog : Program} {w : World} {A : Around} {E : Value → Shared → Prop} {s : Shared}
theorem cat_tup {t b : Addr} {vs ws : List Value} {Q : Value → Shared → Prop} (ht : IsTup s.heap t vs.toArray) (hb : IsTup s.heap b ws.toArray) (hv : vs ≠ [])
  (h1 : ws = [] → Q (.ref t) s) (h2 : ws ≠ [] → Q (.ref s.heap.objs.size) { s with heap := s.heap.push { cls := .type "tuple", data := .seq (vs ++ ws).toArray } })
  (hsz : vs.length + ws.length ≤ sizeLine) : wpAny (model prog w) A (binaryOp .Add (.ref t) (.ref b)) Q E s := by
 obtain ⟨⟨cls, dd, data, sl⟩, ho, hc, n, hd⟩ := id ht
 obtain ⟨⟨cls2, dd2, data2, sl2⟩, ho2, hc2, n2, hd2⟩ := id hb
 simp only at hc hd hc2 hd2
 subst hc hd hc2 hd2
 have e : vs.toArray ++ ws.toArray = (vs ++ ws).toArray := by simp
 by_cases hw : ws = []
 ·exact concat_meets ⟨_, ho, rfl⟩ ⟨_, ho2, rfl⟩ noFill_tuple_add seq_tuple_add PySem.F.slot_tuple_add PySem.F.entry_tuple_add (PySem.F.args_tuple_add_2 _ _)
   (tuple_addW1 t b vs.toArray ws.toArray n n2 dd dd2 sl sl2 (by simpa using hv) (by simp [hw])) ⟨ho, ho2, h1 hw⟩
 ·refine concat_meets ⟨_, ho, rfl⟩ ⟨_, ho2, rfl⟩ noFill_tuple_add seq_tuple_add PySem.F.slot_tuple_add PySem.F.entry_tuple_add (PySem.F.args_tuple_add_2 _ _)
   (tuple_addW2 t b vs.toArray ws.toArray n n2 dd dd2 sl sl2 (by simpa using hv) (by simpa using hw) (by rw [List.size_toArray, List.size_toArray]; exact hsz)) ⟨ho, ho2, ?_⟩
  rw [e]
  exact h2 hw
noncomputable def sIx (n d : Nat) : Option Int → Nat
 | none => d
 | some v => if v < 0 then (v + (n : Int)).toNat else min v.toNat n
theorem sIx_nat (n d k : Nat) : sIx n d (some (k : Int)) = min k n := by
 show (if (k : Int) < 0 then ((k : Int) + (n : Int)).toNat else min (k : Int).toNat n) = min k n
 rw [if_neg (by omega), Int.toNat_natCast]
theorem b1E (n d : Nat) (hd : d ≤ n) (o : Option Int) : sIx n d o ≤ n := by
 cases o with
 | none => exact hd
 | some v =>
  show (if v < 0 then (v + (n : Int)).toNat else min v.toNat n) ≤ n
  by_cases hv : v < 0
  ·rw [if_pos hv]; omega
  ·rw [if_neg hv]; exact Nat.min_le_right _ _
theorem a7n (v : Int) (n d : Nat) : (if v < 0 then max (v + (n : Int)) 0 else min v (n : Int)) = ((sIx n d (some v) : Nat) : Int) := by
 show (if v < 0 then max (v + (n : Int)) 0 else min v (n : Int)) = (((if v < 0 then (v + (n : Int)).toNat else min v.toNat n) : Nat) : Int)
 by_cases hv : v < 0
 ·simp only [if_pos hv]; omega
 ·simp only [if_neg hv]; omega
theorem a6B (lo hi : Option Int) (n : Nat) : Builtin.Slice.sliceAdjust lo hi 1 (n : Int) = (((sIx n 0 lo : Nat) : Int), ((sIx n n hi : Nat) : Int)) := by
 have h1 : ¬ ((1 : Int) < 0) := by omega
 unfold Builtin.Slice.sliceAdjust
 simp only [h1, if_false]
 refine Prod.ext ?_ ?_
 ·cases lo with
  | none => rfl
  | some v => exact a7n v n 0
 ·cases hi with
  | none => rfl
  | some v => exact a7n v n n
theorem a6q (i j : Nat) : Builtin.Slice.slicePlaces (i : Int) (j : Int) 1 = j - i := by
 unfold Builtin.Slice.slicePlaces
 have h1 : (1 : Int) > 0 := by omega
 simp only [h1, if_true, Int.ediv_one]
 split <;> omega
theorem a6n {v : Value} {o : Option Int} {Q : Option Int → Shared → Prop} (p : IsPart v o) (h : Q o s) : wpAny (model prog w) A (Builtin.Slice.slicePartIndex v) Q E s := by
 cases p with
 | none => exact slicePart_none h
 | int i t => exact slicePart_int h
theorem a6U {sl : Addr} {vl vu : Value} {lo hi : Option Int} {n : Nat} {Q : Int × Int × Nat → Shared → Prop} (hs : s.heap.IsSliceOf sl vl vu .none) (pl : IsPart vl lo) (pu : IsPart vu hi)
  (h : Q (((sIx n 0 lo : Nat) : Int), 1, sIx n n hi - sIx n 0 lo) s) : wpAny (model prog w) A (Builtin.Slice.sliceApplied (.ref sl) (pure (n : Int))) Q E s := by
 obtain ⟨os, hos, hcs, hds⟩ := id hs
 unfold Builtin.Slice.sliceApplied Builtin.Slice.sliceFields
 refine wpAny_bind (wpAny_bind (wpAny_field hos hds (x := vl) rfl (wpAny_bind (wpAny_field hos hds (x := vu) rfl (wpAny_bind (wpAny_field hos hds (x := .none) rfl (wpAny_pure ?_)))))))
 refine wpAny_bind (slicePart_none ?_)
 show wpAny _ _ (if ((1 : Int) == 0) = true then _ else _) _ _ s
 rw [if_neg (by decide)]
 refine wpAny_bind (a6n pl (wpAny_bind (a6n pu (wpAny_bind (wpAny_pure ?_)))))
 show wpAny _ _ (match Builtin.Slice.sliceAdjust lo hi 1 (n : Int) with | (lo, hi) => pure (lo, (1 : Int), Builtin.Slice.slicePlaces lo hi 1)) _ _ s
 rw [a6B lo hi n]
 show wpAny _ _ (pure (((sIx n 0 lo : Nat) : Int), (1 : Int), Builtin.Slice.slicePlaces ((sIx n 0 lo : Nat) : Int) ((sIx n n hi : Nat) : Int) 1)) _ _ s
 rw [a6q]
 exact wpAny_pure h
theorem b1j (xs : Array Value) (i k : Nat) : ((List.range k).filterMap fun (m : Nat) => xs[((i : Int) + (m : Int) * 1).toNat]?).toArray = ((xs.toList.drop i).take k).toArray := by
 have e : (fun (m : Nat) => xs[((i : Int) + (m : Int) * 1).toNat]?) = fun m => xs[i + m]? := by
  funext m
  have : ((i : Int) + (m : Int) * 1).toNat = i + m := by omega
  rw [this]
 rw [e]
 have := pick_run xs i k
 rw [List.filterMap_map] at this
 have e2 : ((fun x => xs[x]?) ∘ fun x => i + x) = fun m => xs[i + m]? := rfl
 rw [e2] at this
 rw [this]
theorem getItem_tuple_cut {t sl : Addr} {items : Array Value} {vl vu : Value} {lo hi : Option Int} {Q : Value → Shared → Prop} (ht : IsTup s.heap t items) (hs : s.heap.IsSliceOf sl vl vu .none) (pl : IsPart vl lo) (pu : IsPart vu hi)
  (hw : ¬ (sIx items.size 0 lo = 0 ∧ sIx items.size items.size hi = items.size))
  (h : Q (.ref s.heap.objs.size) { s with heap := s.heap.push { cls := .type "tuple", data := .seq ((items.toList.drop (sIx items.size 0 lo)).take (sIx items.size items.size hi - sIx items.size 0 lo)).toArray } })
  (hsz : items.size ≤ sizeLine) : wpAny (model prog w) A (getItem (.ref t) (.ref sl)) Q E s := by
 have htake : sizeOk (.seq ((items.toList.drop (sIx items.size 0 lo)).take (sIx items.size items.size hi - sIx items.size 0 lo)).toArray) := by
  show ((items.toList.drop (sIx items.size 0 lo)).take (sIx items.size items.size hi - sIx items.size 0 lo)).toArray.size ≤ sizeLine
  rw [List.size_toArray, List.length_take, List.length_drop, Array.length_toList]
  omega
 have hj : sIx items.size items.size hi ≤ items.size := b1E _ _ (Nat.le_refl _) hi
 obtain ⟨os, hos, hcs, hds⟩ := id hs
 have hTs : s.TypeIs (.ref sl) "slice" := ⟨os, hos, hcs⟩
 unfold getItem
 try with_reducible refine wpAny_holding ?_
 first | refine wpAny_bind (wpAny_pure ?_) | skip
 refine wpAny_bind (wpAny_sequenceKey ht.typeIs (by decide) ?_)
 refine wpAny_bind (wpAny_callSpecial?_slot (name := Str.ofString "__getitem__") ht.typeIs PyProof.Rows.slot_tuple_getitem
  (wpAny_call_entry PyProof.Rows.slot_tuple_getitem ht.typeIs entry_tuple_getitem ?_ (args_tuple_getitem _ _)))
 show wpAny _ _ (Builtin.Tuple.tupleItemsOf (.ref t) >>= _) _ _ s
 refine wpAny_bind (tupleItemsOf_ ht ?_)
 refine wpAny_bind (wpAny_typeOf hTs ?_)
 rw [if_pos (by decide)]
 refine wpAny_bind (a6U hs pl pu ?_)
 have hno : ¬ ((((sIx items.size 0 lo : Nat) : Int) == 0 && (1 : Int) == 1 && (sIx items.size items.size hi - sIx items.size 0 lo) == items.size) = true) := by
  intro q
  rw [Bool.and_eq_true, Bool.and_eq_true] at q
  have q1 : ((sIx items.size 0 lo : Nat) : Int) = 0 := eq_of_beq q.1.1
  have q2 : sIx items.size items.size hi - sIx items.size 0 lo = items.size := eq_of_beq q.2
  exact hw ⟨by omega, by omega⟩
 show wpAny _ _ (if (((sIx items.size 0 lo : Nat) : Int) == 0 && (1 : Int) == 1 && (sIx items.size items.size hi - sIx items.size 0 lo) == items.size) = true then _ else _) _ _ s
 rw [if_neg hno, b1j]
 first
  | exact wpAny_bind (m := Builtin.Tuple.tupleExact _) (wpAny_newObj_type (wpAny_pure ⟨_, rfl, wpAny_pure h⟩) htake)
  | exact wpAny_bind (m := Builtin.Tuple.tupleExact _) (wpAny_newObj_type (wpAny_bind (wpAny_pure (wpAny_pure ⟨_, rfl, wpAny_pure h⟩))) htake)
  | exact wpAny_bind (wpAny_bind (m := Builtin.Tuple.tupleExact _) (wpAny_newObj_type (wpAny_pure (wpAny_pure ⟨_, rfl, wpAny_pure h⟩)) htake))
  | exact wpAny_bind (wpAny_bind (m := Builtin.Tuple.tupleExact _) (wpAny_newObj_type (wpAny_pure ⟨_, rfl, wpAny_pure h⟩) htake))
end
end HT
namespace L2
open PySem PySem.Spec PyProof.Rows
noncomputable abbrev TO := St → Hp → (Option Int → Hp → Prop) → Prop
noncomputable def PO (X : Cx) (e : Option Expr) (t : TO) : Prop :=
 ∀ (pins : List (Addr × Obj)) (s : Shared) (σ : St) (H : Hp) (Q : Option Int → Hp → Prop), Inv X pins σ H s → t σ H Q →
  wpAny (model X.prog X.w) X.A (evalPart e X.env) (fun u s' => ∃ o H', Inv X pins σ H' s' ∧ IsPart u o ∧ Q o H') X.xe s
noncomputable def a8W : TO := fun _ H Q => Q none H
noncomputable def a9E (t : TE) : TO := fun σ H Q => t σ H fun x H1 => ∃ i, x = .int i ∧ Q (some i) H1
section
variable {X : Cx} {e : Expr} {te : TE} {lo hi : Option Expr} {tl th : TO} {pos p2 : Pos}
theorem a6I : PO X none a8W := by
 intro pins s σ H Q I h
 rw [evalPart_none]
 exact wpAny_pure ⟨none, H, I, .none, h⟩
theorem a5H (h : PE X e te) : PO X (some e) (a9E te) := by
 intro pins s σ H Q I hw
 rw [evalPart_some]
 refine thn (h pins s σ H _ I hw) fun u s1 ⟨x, H1, I1, r1, q1⟩ => ?_
 obtain ⟨i, rfl, q⟩ := q1
 obtain ⟨t, rfl⟩ := r1
 exact ⟨some i, H1, I1, .int i t, q⟩
noncomputable def SlR (X : Cx) (r : V → Option Int → Option Int → Hp → VK → Prop) : Prop :=
 ∀ (pins : List (Addr × Obj)) (s : Shared) (σ : St) (H : Hp) (x : V) (v vl vu : Value) (lo hi : Option Int) (sl : Addr) (Q : VK), Inv X pins σ H s → RelV x v → s.heap.IsSliceOf sl vl vu .none → IsPart vl lo → IsPart vu hi → r x lo hi H Q →
  ∃ T id, typeLookup (.type T) "__getitem__" = pure (some (.builtin id)) ∧ s.TypeIs v T ∧ wpAny (model X.prog X.w) X.A (getItem v (.ref sl)) (EP X pins σ Q) X.xe s
theorem SlR.or {r r' : V → Option Int → Option Int → Hp → VK → Prop} (h : SlR X r) (h' : SlR X r') : SlR X (fun x lo hi H Q => r x lo hi H Q ∨ r' x lo hi H Q) := by
 intro pins s σ H x v vl vu lo hi sl Q I rx hs pl pu q
 rcases q with q | q
 ·exact h pins s σ H x v vl vu lo hi sl Q I rx hs pl pu q
 ·exact h' pins s σ H x v vl vu lo hi sl Q I rx hs pl pu q
noncomputable def tSl (r : V → Option Int → Option Int → Hp → VK → Prop) (te : TE) (tl th : TO) : TE := fun σ H Q => te σ H fun x H1 => tl σ H1 fun l H2 => th σ H2 fun u H3 => r x l u H3 Q
theorem a5z {r : V → Option Int → Option Int → Hp → VK → Prop} (hr : SlR X r) (he : PE X e te) (hl : PO X lo tl) (hu : PO X hi th) : PE X (.Subscript e (.Slice lo hi none p2) pos) (tSl r te tl th) := by
 intro pins s σ H Q I h
 refine Subscript_ (thn (he pins s σ H _ I h) fun v s1 ⟨x, H1, I1, r1, q1⟩ => ?_)
 refine wpAny_Slice (thn (hl pins s1 σ H1 _ I1 q1) fun vl s2 ⟨l, H2, I2, pl, q2⟩ => thn (hu pins s2 σ H2 _ I2 q2) fun vu s3 ⟨u, H3, I3, pu, q3⟩ => ?_)
 rw [evalPart_none]
 refine wpAny_pure ?_
 have I4 : Inv X pins σ H3 { s3 with heap := s3.heap.push { cls := .type "slice", data := .fields #[vl, vu, .none] } } := I3.kept (t' := s3.toks) fun b ob q => Heap.get?_push_of_some _ q
 obtain ⟨T, id, hT, ht, hg⟩ := hr pins { s3 with heap := s3.heap.push { cls := .type "slice", data := .fields #[vl, vu, .none] } } σ H3 x v vl vu l u s3.heap.objs.size Q I4 r1 (Heap.IsSliceOf.new ..) pl pu q3
 show wpAny (model X.prog X.w) X.A (subscriptTail e (.Slice lo hi none p2) v (.ref s3.heap.objs.size)) (EP X pins σ Q) X.xe { s3 with heap := s3.heap.push { cls := .type "slice", data := .fields #[vl, vu, .none] } }
 exact tail_any (ops := [.ref s3.heap.objs.size, v]) ht hT hg (by with_unfolding_all rfl)
noncomputable def K1 (xs : List V) (lo hi : Option Int) : List V := (xs.drop (HT.sIx xs.length 0 lo)).take (HT.sIx xs.length xs.length hi - HT.sIx xs.length 0 lo)
theorem a55 (xs : List V) (lo hi : Option Int) : (K1 xs lo hi).length ≤ xs.length := by
 unfold K1
 rw [List.length_take, List.length_drop]
 omega
noncomputable def b1M (K : PySem.W.Frag) : V → Option Int → Option Int → Hp → VK → Prop := fun x lo hi H Q => ∃ a xs, x = .ref a ∧ SqT K H a xs ∧
 ¬ (HT.sIx xs.length 0 lo = 0 ∧ HT.sIx xs.length xs.length hi = xs.length) ∧ ∀ p, H p = none → Q (.ref p) (upd H p (.tup (K1 xs lo hi)))
theorem b3g : SlR X (b1M X.K) := by
 intro pins s σ H x v vl vu lo hi sl Q I rx hs pl pu h
 obtain ⟨a, xs, rfl, hx, hw, q⟩ := h
 cases rx
 obtain ⟨its, r, ht, hz⟩ := I.tuple hx
 have hlen : its.toArray.size = xs.length := by rw [List.size_toArray]; exact r.length.symm
 refine ⟨"tuple", _, PyProof.Rows.slot_tuple_getitem.lookup, ht.typeIs, ?_⟩
 refine HT.getItem_tuple_cut ht hs pl pu (by rw [hlen]; exact hw) ?_ (by rw [hlen]; exact hz)
 rw [hlen]
 refine ⟨.ref s.heap.objs.size, _, I.laid (t' := s.toks) (o := .tup (K1 xs lo hi)) (fun b ob q => Heap.get?_push_of_some _ q) (Nat.le_refl _) ?_, rfl, q _ (I.hok.fresh (Nat.le_refl _))⟩
 exact ⟨Nat.le_trans (a55 xs lo hi) hz, _, (r.drop (HT.sIx xs.length 0 lo)).take (HT.sIx xs.length xs.length hi - HT.sIx xs.length 0 lo), IsTup.new _ _⟩
noncomputable def a7H (K : PySem.W.Frag) : R2 := fun x y H Q => ∃ a b xs ys, x = .ref a ∧ y = .ref b ∧ SqT K H a xs ∧ SqT K H b ys ∧ xs ≠ [] ∧ xs.length + ys.length ≤ sizeLine ∧
 (ys = [] → Q (.ref a) H) ∧ (ys ≠ [] → ∀ p, H p = none → Q (.ref p) (upd H p (.tup (xs ++ ys))))
theorem Vals.nil_iff {xs : List V} {us : List Value} (r : Vals xs us) : us = [] ↔ xs = [] := by
 cases r with
 | nil => simp
 | cons _ _ => simp
theorem b3a : OpR X (binaryOp .Add) (a7H X.K) := by
 intro pins s σ H x y v u Q I rx ry h
 obtain ⟨a, b, xs, ys, rfl, rfl, ha, hb, hx, hz, q1, q2⟩ := h
 cases rx
 cases ry
 obtain ⟨its, r1, p1, _⟩ := I.tuple ha
 obtain ⟨its2, r2, p2, _⟩ := I.tuple hb
 refine HT.cat_tup p1 p2 (fun z => hx (r1.nil_iff.mp z)) (fun z => ⟨.ref a, H, I, rfl, q1 (r2.nil_iff.mp z)⟩) (fun z => ?_) (by rw [← r1.length, ← r2.length]; exact hz)
 refine ⟨.ref s.heap.objs.size, _, I.laid (t' := s.toks) (o := .tup (xs ++ ys)) (fun b ob q => Heap.get?_push_of_some _ q) (Nat.le_refl _) ?_, rfl, q2 (fun w => z (r2.nil_iff.mpr w)) _ (I.hok.fresh (Nat.le_refl _))⟩
 exact ⟨by rw [List.length_append]; exact hz, _, r1.append r2, IsTup.new _ _⟩
end
noncomputable def ixN (n : Nat) (i : Int) : Option Nat := if 0 ≤ i then (if i < n then some i.toNat else none) else if -(n : Int) ≤ i then some (i + n).toNat else none
noncomputable def atI {α : Type} (xs : List α) (i : Int) : Option α := (ixN xs.length i).bind fun j => xs[j]?
theorem a6v {n : Nat} {i : Int} {j : Nat} (h : ixN n i = some j) : seqIndex? i n = some j ∧ j < n ∧ -(n : Int) ≤ i ∧ i < n := by
 unfold ixN at h
 by_cases h0 : 0 ≤ i
 ·rw [if_pos h0] at h
  by_cases h1 : i < n
  ·rw [if_pos h1] at h
   have e : i.toNat = j := Option.some.inj h
   exact ⟨by rw [seqIndex_of h0 h1, e], by omega, by omega, h1⟩
  ·rw [if_neg h1] at h; cases h
 ·rw [if_neg h0] at h
  by_cases h1 : -(n : Int) ≤ i
  ·rw [if_pos h1] at h
   have e : (i + n).toNat = j := Option.some.inj h
   exact ⟨by rw [seqIndex_neg (by omega) h1, e], by omega, h1, by omega⟩
  ·rw [if_neg h1] at h; cases h
theorem a59 {α : Type} {xs : List α} {i : Int} {v : α} (h : atI xs i = some v) : ∃ j, seqIndex? i xs.length = some j ∧ xs[j]? = some v ∧ j < xs.length ∧ -(xs.length : Int) ≤ i ∧ i < xs.length := by
 unfold atI at h
 cases e : ixN xs.length i with
 | none => rw [e] at h; cases h
 | some j =>
  rw [e] at h
  obtain ⟨h1, h2, h3, h4⟩ := a6v e
  exact ⟨j, h1, h, h2, h3, h4⟩
theorem a0v {α : Type} (xs : List α) (v : α) : atI (xs ++ [v]) (-1) = some v := by
 have hl : (xs ++ [v]).length = xs.length + 1 := by simp
 have e : ixN (xs ++ [v]).length (-1) = some xs.length := by
  unfold ixN
  rw [hl, if_neg (by decide), if_pos (by omega)]
  congr 1
  omega
 unfold atI
 rw [e]
 show (xs ++ [v])[xs.length]? = some v
 simp
noncomputable def a5c (b : Expr) : Prop := ∀ o i, subscripted b false o i = operate [o, i] (getItem o i)
noncomputable def IxR (X : Cx) (r : R2) : Prop :=
 ∀ (value slice : Expr) (pins : List (Addr × Obj)) (s : Shared) (σ : St) (H : Hp) (x y : V) (v u : Value) (Q : VK), Inv X pins σ H s → RelV x v → RelV y u → r x y H Q →
  subscripted slice false v u = operate [v, u] (getItem v u) → wpAny (model X.prog X.w) X.A (subscriptTail value slice v u) (EP X pins σ Q) X.xe s
noncomputable def MtR (X : Cx) (id : String) (r : V → List V → Hp → VK → Prop) : Prop :=
 ∀ (pins : List (Addr × Obj)) (s : Shared) (σ : St) (H : Hp) (x : V) (xs : List V) (v : Value) (us : List Value) (Q : VK), Inv X pins σ H s → RelV x v → Vals xs us → r x xs H Q →
  wpAny (model X.prog X.w) X.A (call (.builtin id) (v :: us)) (EP X pins σ Q) X.xe s
section
variable {X : Cx} {a b : Expr} {ta tb : TE} {pos : Pos}
theorem IxR.or {r r' : R2} (h : IxR X r) (h' : IxR X r') : IxR X (fun x y H Q => r x y H Q ∨ r' x y H Q) := by
 intro value slice pins s σ H x y v u Q I rx ry q hs
 rcases q with q | q
 ·exact h value slice pins s σ H x y v u Q I rx ry q hs
 ·exact h' value slice pins s σ H x y v u Q I rx ry q hs
theorem a7P {r : R2} (hr : IxR X r) (ha : PE X a ta) (hb : PE X b tb) (hs : a5c b) : PE X (.Subscript a b pos) (tOp r ta tb) := by
 intro pins s σ H Q I h
 exact Subscript_ (a2h ha hb I h fun v u s2 x y H2 I2 rx ry q => hr a b pins s2 σ H2 x y v u Q I2 rx ry q (hs _ _))
noncomputable def a17 (K : PySem.W.Frag) : R2 := fun x y H Q => ∃ p xs i v, x = .ref p ∧ y = .int i ∧ SqL K H p xs ∧ atI xs i = some v ∧ Q v H
noncomputable def a3c (K : PySem.W.Frag) : R2 := fun x y H Q => ∃ p xs i v, x = .ref p ∧ y = .int i ∧ SqT K H p xs ∧ atI xs i = some v ∧ Q v H
theorem ix_list : IxR X (a17 X.K) := by
 intro value slice pins s σ H x y v u Q I rx ry h hs
 obtain ⟨p, xs, i, z, rfl, rfl, hq, he, q⟩ := h
 cases rx
 obtain ⟨t, rfl⟩ := ry
 obtain ⟨its, r, pl, hz⟩ := I.list hq
 obtain ⟨j, h1, h2, h3, h4, h5⟩ := a59 he
 obtain ⟨w, ew, rw'⟩ := r.get h2
 have hl := r.length
 have hn := X1
 have fin : EP X pins σ Q w s := ⟨z, H, I, rw', q⟩
 by_cases h0 : 0 ≤ i
 ·have hj : i.toNat = j := by
   rw [seqIndex_of h0 h5] at h1
   exact Option.some.inj h1
  exact item_listR pl.isList h0 (by omega) (by rw [hj]; simpa using ew) fin hs
 ·have hj : (i + (its.toArray.size : Int)).toNat = j := by
   rw [seqIndex_neg (by omega) h4] at h1
   rw [List.size_toArray, ← hl]
   exact Option.some.inj h1
  exact subscriptTail_builtinR (x := w) pl.isList.typeIs slot_list_getitem.lookup
   (wpAny_getItem_list_neg (Q := fun r s' => r = w ∧ EP X pins σ Q r s') pl.isList (by omega) (by rw [List.size_toArray] <;> omega) (by omega) (by rw [hj]; simpa using ew) ⟨rfl, fin⟩) hs
theorem b29 : IxR X (a3c X.K) := by
 intro value slice pins s σ H x y v u Q I rx ry h hs
 obtain ⟨p, xs, i, z, rfl, rfl, hq, he, q⟩ := h
 cases rx
 obtain ⟨t, rfl⟩ := ry
 obtain ⟨its, r, pl, hz⟩ := I.tuple hq
 obtain ⟨j, h1, h2, h3, h4, h5⟩ := a59 he
 obtain ⟨w, ew, rw'⟩ := r.get h2
 have hl := r.length
 have hn := X1
 have fin : EP X pins σ Q w s := ⟨z, H, I, rw', q⟩
 exact subscriptTail_builtinR (x := w) pl.typeIs slot_tuple_getitem.lookup
  (getItem_tuple (j := j) (Q := fun r s' => r = w ∧ EP X pins σ Q r s') pl (by omega) (by omega) (by rw [List.size_toArray, ← hl]; exact h1) (by simpa using ew) ⟨rfl, fin⟩) hs
theorem b3p (its : List Value) (n j : Nat) (u : Value) : Obj.mapSeq (·.setIfInBounds j u) { cls := .type "list", data := .seq its.toArray n } = { cls := .type "list", data := .seq (its.set j u).toArray n } := by
 simp [Obj.mapSeq]
theorem Inv.lst {pins : List (Addr × Obj)} {σ : St} {H : Hp} {s : Shared} {p : Addr} {xs : List V} (I : Inv X pins σ H s) (h : H p = some (.lst xs)) :
  ∃ (its : List Value) (n : Nat), Vals xs its ∧ s.heap.get? p = some { cls := .type "list", data := .seq its.toArray n } ∧ xs.length ≤ sizeLine := by
 obtain ⟨z, its, n, r, e⟩ := I.hok p _ h
 exact ⟨its, n, r, e, z⟩
theorem Inv.lstUpd {pins : List (Addr × Obj)} {σ : St} {H : Hp} {s : Shared} {p : Addr} {xs ys : List V} {its its' : List Value} {n n' : Nat} {f : Obj → Obj} (I : Inv X pins σ H s) (h : H p = some (.lst xs))
  (ho : s.heap.get? p = some { cls := .type "list", data := .seq its.toArray n }) (hf : f { cls := .type "list", data := .seq its.toArray n } = { cls := .type "list", data := .seq its'.toArray n' }) (r : Vals ys its') (hz : ys.length ≤ sizeLine) (t : Nat) :
  Inv X pins σ (upd H p (.lst ys)) { s with heap := s.heap.update p f, toks := t } := by
 have e : (s.heap.update p f).get? p = some { cls := .type "list", data := .seq its'.toArray n' } := by
  rw [Heap.get?_update_self f ho (by rw [hf] <;> rfl), hf]
 refine I.write (x := p) (e := p) (by rw [h]; trivial) (.inl rfl) (fun b u hb q => (Heap.get?_update_other _ _ (Ne.symm hb)).trans q) ⟨_, e⟩ ?_
 exact ⟨hz, its', n', r, e⟩
noncomputable def a8E : V → V → V → Hp → (Hp → Prop) → Prop := fun o i v H Q => ∃ p xs k j, o = .ref p ∧ i = .int k ∧ H p = some (.lst xs) ∧ ixN xs.length k = some j ∧ Q (upd H p (.lst (xs.set j v)))
theorem b3P : a5Q X a8E := by
 intro pins s σ H o i v ov iv u Q I ro ri rv h
 obtain ⟨p, xs, k, j, rfl, rfl, hp, hj, q⟩ := h
 cases ro
 obtain ⟨t, rfl⟩ := ri
 obtain ⟨its, n, r, ho, hz⟩ := I.lst hp
 obtain ⟨h1, h2, h3, h4⟩ := a6v hj
 have hl := r.length
 have hn := X1
 have I' : Inv X pins σ (upd H p (.lst (xs.set j v))) { s with heap := s.heap.update p (Obj.mapSeq (·.setIfInBounds j u)) } :=
  I.lstUpd hp ho (b3p its n j u) (r.set rv j) (by rw [List.length_set]; exact hz) s.toks
 by_cases h0 : 0 ≤ k
 ·have hk : k.toNat = j := by
   rw [seqIndex_of h0 h4] at h1
   exact Option.some.inj h1
  exact PySem.W.ki_setAt ho h0 (by omega) (by rw [List.size_toArray, ← hl]; exact h4) (by rw [hk]; exact ⟨_, I', q⟩)
 ·have hk : (k + (its.toArray.size : Int)).toNat = j := by
   rw [seqIndex_neg (by omega) h3] at h1
   rw [List.size_toArray, ← hl]
   exact Option.some.inj h1
  exact PySem.W.ki_setBack ho (by omega) (by rw [List.size_toArray, ← hl]; exact h3) (by omega) (by rw [hk]; exact ⟨_, I', q⟩)
theorem b2m (lo hi : Option Int) (n : Nat) : (sliceBounds lo hi none n).1 = ((HT.sIx n 0 lo : Nat) : Int) ∧ (sliceBounds lo hi none n).2.1 = ((HT.sIx n n hi : Nat) : Int) ∧ (sliceBounds lo hi none n).2.2 = 1 := by
 have key : ∀ i : Int, (sliceBounds (some i) none none n).1 = ((HT.sIx n 0 (some i) : Nat) : Int) := fun i => by
  simp only [sliceBounds, HT.sIx, Option.getD_none, show (1 : Int) > 0 by decide, if_true]
  by_cases h : i < 0
  ·simp only [h, if_true] <;> omega
  ·simp only [h, if_false] <;> omega
 refine ⟨?_, ?_, rfl⟩
 ·cases lo with
  | none => simp [sliceBounds, HT.sIx]
  | some i => exact key i
 ·cases hi with
  | none => simp [sliceBounds, HT.sIx]
  | some i => exact key i
theorem b2B (its : List Value) (lo hi : Option Int) : slicePick its.toArray lo hi none = ((its.drop (HT.sIx its.length 0 lo)).take (HT.sIx its.length its.length hi - HT.sIx its.length 0 lo)).toArray := by
 obtain ⟨h1, h2, h3⟩ := b2m lo hi its.toArray.size
 unfold slicePick
 rw [h1, h2, h3]
 simp only [sliceRange_one, pick_run, List.size_toArray] <;> rfl
noncomputable def b0M (K : PySem.W.Frag) : V → Option Int → Option Int → Hp → VK → Prop := fun x lo hi H Q => ∃ a xs, x = .ref a ∧ SqL K H a xs ∧ ∀ p, H p = none → Q (.ref p) (upd H p (.lst (K1 xs lo hi)))
theorem a5i : SlR X (b0M X.K) := by
 intro pins s σ H x v vl vu lo hi sl Q I rx hs pl pu h
 obtain ⟨a, xs, rfl, hx, q⟩ := h
 cases rx
 obtain ⟨its, r, ht, hz⟩ := I.list hx
 have hlen := r.length
 refine ⟨"list", _, slot_list_getitem.lookup, ht.isList.typeIs, ?_⟩
 refine wpAny_getItem_list_slice ht.isList hs pl pu .none (by simp) ?_ (by rw [List.size_toArray] <;> omega)
 rw [b2B, ← hlen]
 refine ⟨.ref s.heap.objs.size, _, I.laid (t' := s.toks) (o := .lst (K1 xs lo hi)) (fun b ob q => Heap.get?_push_of_some _ q) (Nat.le_refl _) ?_, rfl, q _ (I.hok.fresh (Nat.le_refl _))⟩
 exact ⟨Nat.le_trans (a55 xs lo hi) hz, _, 0, (r.drop (HT.sIx xs.length 0 lo)).take (HT.sIx xs.length xs.length hi - HT.sIx xs.length 0 lo), Heap.get?_push_size _ rfl⟩
theorem call_len_seq : CallR X (.builtin "len") (fun xs H Q => ∃ p ys, xs = [.ref p] ∧ (SqL X.K H p ys ∨ SqT X.K H p ys) ∧ Q (.int ys.length) H) := by
 intro pins s σ H xs us Q I r h
 obtain ⟨p, ys, rfl, hq, q⟩ := h
 obtain ⟨u, rfl, rx⟩ := U1 r
 cases rx
 have hn := X1
 rcases hq with hq | hq
 ·obtain ⟨its, r', pl, hz⟩ := I.list hq
  have hlen := r'.length
  exact Calls.call_len_list pl.isList (by simp only [List.size_toArray] <;> omega) ⟨.int ys.length, H, I.tok _, ⟨s.toks + 1, by rw [List.size_toArray, hlen]⟩, q⟩
 ·obtain ⟨its, r', pl, hz⟩ := I.tuple hq
  have hlen := r'.length
  exact len_tuple pl (by simp only [List.size_toArray] <;> omega) ⟨.int ys.length, H, I.tok _, ⟨s.toks + 1, by rw [List.size_toArray, hlen]⟩, q⟩
theorem b2E : CallR X (.builtin "len") (fun xs H Q => ∃ z, xs = [.str z] ∧ z.length ≤ sizeLine ∧ Q (.int z.length) H) := by
 intro pins s σ H xs us Q I r h
 obtain ⟨z, rfl, hz, q⟩ := h
 obtain ⟨u, rfl, t, rfl⟩ := U1 r
 have hn := X1
 exact len_str (by omega) ⟨.int z.length, H, I.tok _, ⟨_, rfl⟩, q⟩
theorem CallR.or {f : Value} {r r' : List V → Hp → VK → Prop} (h : CallR X f r) (h' : CallR X f r') : CallR X f (fun xs H Q => r xs H Q ∨ r' xs H Q) := by
 intro pins s σ H xs us Q I rs q
 rcases q with q | q
 ·exact h pins s σ H xs us Q I rs q
 ·exact h' pins s σ H xs us Q I rs q
theorem N4 : CallR X (.type "tuple") (fun xs H Q => ∃ p ys, xs = [.ref p] ∧ ((SqL X.K H p ys ∧ ∀ l, H l = none → Q (.ref l) (upd H l (.tup ys))) ∨ (SqT X.K H p ys ∧ Q (.ref p) H))) := by
 intro pins s σ H xs us Q I r h
 obtain ⟨p, ys, rfl, h⟩ := h
 obtain ⟨u, rfl, rx⟩ := U1 r
 cases rx
 rcases h with ⟨hq, q⟩ | ⟨hq, q⟩
 ·obtain ⟨its, r', pl, hz⟩ := I.list hq
  have hlen := r'.length
  refine call_tuple_list pl.isList (fun h' kp => ?_) (by simp only [List.size_toArray] <;> omega)
  have I1 : Inv X pins σ H { s with heap := h' } := I.kept (t' := s.toks) kp
  have I2 : Inv X pins σ (upd H h'.objs.size (.tup ys)) { s with heap := h'.push { cls := .type "tuple", data := .seq its.toArray } } :=
   I1.laid (t' := s.toks) (fun b o e => Heap.get?_push_of_some _ e) (Nat.le_refl _) (show ObjOk X.prog X.w _ _ _ (.tup ys) from ⟨hz, its, r', IsTup.new _ _⟩)
  exact ⟨.ref h'.objs.size, _, I2, rfl, q _ (I1.hok.fresh (Nat.le_refl _))⟩
 ·obtain ⟨its, r', pl, hz⟩ := I.tuple hq
  exact call_tuple_same pl ⟨.ref p, H, I, rfl, q⟩
noncomputable def tyV (K : PySem.W.Frag) (T : String) (x : V) (H : Hp) : Prop := match x with
 | .str _ => T = "str"
 | .int _ => T = "int"
 | .ref p => (T = "list" ∧ ∃ xs, SqL K H p xs) ∨ (T = "tuple" ∧ ∃ o, K.lookup p = some o ∧ o.cls = .type "tuple" ∧ o.dict = none) ∨
   (T = "dict" ∧ ((∃ kvs, H p = some (.dK kvs)) ∨ ∃ kvs, H p = some (.dT kvs))) ∨ (T = "set" ∧ ∃ S n, H p = some (.set S n))
 | _ => False
theorem a8r {pins : List (Addr × Obj)} {σ : St} {H : Hp} {s : Shared} {T : String} {x : V} {v : Value} (I : Inv X pins σ H s) (r : RelV x v) (ty : tyV X.K T x H) :
  s.TypeIs v T ∧ ∀ a, v = .ref a → ∃ ob, s.heap.get? a = some ob ∧ ob.dict = none := by
 cases x with
 | str z =>
  obtain ⟨t, rfl⟩ := r
  cases (show T = "str" from ty)
  exact ⟨typeIs_str s z t, fun _ e => nomatch e⟩
 | int i =>
  obtain ⟨t, rfl⟩ := r
  cases (show T = "int" from ty)
  exact ⟨typeIs_int s i t, fun _ e => nomatch e⟩
 | ref p =>
  cases r
  rcases ty with ⟨rfl, xs, hq⟩ | ⟨rfl, o, hk, hc, hd⟩ | ⟨rfl, hk⟩ | ⟨rfl, S, n, hk⟩
  ·obtain ⟨its, _, pl, _⟩ := I.list hq
   refine ⟨pl.isList.typeIs, fun a e => ?_⟩
   cases e
   obtain ⟨o, n, e, c, hd, _⟩ := pl
   exact ⟨o, e, hd⟩
  ·refine ⟨⟨o, I.kIn p o hk, hc⟩, fun a e => ?_⟩
   cases e
   exact ⟨o, I.kIn _ o hk, hd⟩
  ·have z : ∃ o, s.heap.get? p = some o ∧ o.ExactDict := by
    rcases hk with ⟨kvs, hk⟩ | ⟨kvs, hk⟩
    ·obtain ⟨_, _, _, _, o, _, _, e, ex, _⟩ := I.hok p _ hk
     exact ⟨o, e, ex⟩
    ·obtain ⟨_, _, _, _, o, _, _, e, ex, _⟩ := I.hok p _ hk
     exact ⟨o, e, ex⟩
   obtain ⟨o, e, ex⟩ := z
   refine ⟨⟨o, e, ex.1⟩, fun a e2 => ?_⟩
   cases e2
   exact ⟨o, e, ex.2.1⟩
  ·obtain ⟨o, _, _, _, e, ex, _⟩ := I.hok p _ hk
   refine ⟨⟨o, e, ex.1⟩, fun a e2 => ?_⟩
   cases e2
   exact ⟨o, e, ex.2.1⟩
 | _ => exact False.elim ty
noncomputable def tBM (K : PySem.W.Frag) (T : String) (r : V → List V → Hp → VK → Prop) (to : TE) (t : TA) : TE := fun σ H Q => to σ H fun x H1 => tyV K T x H1 ∧ t σ H1 fun xs H2 => r x xs H2 Q
variable {o e : Expr} {es : List Expr} {to : TE} {t : TA} {name : Str} {apos cpos : Pos} {T id : String} {r : V → List V → Hp → VK → Prop}
theorem a9r (pa : PlainAttrs T) (slot : Slot T name id) (hty : typeOf (.builtin id) = pure (.type "method_descriptor")) (hm : MtR X id r) (ho : PE X o to) (ha : PA X (e :: es) t)
  (hbase : attributeBase o name X.env (eval o X.env) = eval o X.env := by rfl)
  (hfew : ((backTo cpos (starEach (e :: es) X.env)).all (fun x => !x.1) && (backToKw cpos (keywordEach [] X.env)).all (fun x => x.1.isSome)
   && decide ((e :: es).length + ([] : List Keyword).length + (if ([] : List Keyword).isEmpty then 0 else 1) < 30)) = true := by rfl)
  (hline : (apos.endLine == cpos.line) = true := by rfl) (hs : starEach (e :: es) X.env = (false, eval e X.env) :: starEach es X.env := by rfl) (hplain : (backTo cpos (starEach es X.env)).any (·.1) = false := by rfl) :
  PE X (.Call (.Attribute o name apos) (e :: es) [] cpos) (tBM X.K T r to t) := by
 intro pins s σ H Q I h
 refine wpAny_Call_method_late hbase hfew hline rfl (thn (ho pins s σ H _ I h) fun v s1 ⟨x, H1, I1, r1, ty, q1⟩ => ?_)
 obtain ⟨h1, h2⟩ := a8r I1 r1 ty
 refine ⟨T, id, pa, slot, hty, h1, h2, ?_⟩
 have hA := ha cpos pins s1 σ H1 _ I1 q1
 rw [hs] at hA ⊢
 refine Calls.callWith_builtin (by show (false || (backTo cpos (starEach es X.env)).any (·.1)) = false; rw [hplain] <;> rfl) (Calls.evalArgs_plain ?_)
 exact thn hA fun us s2 ⟨vs, H2, I2, r2, q2⟩ => hm pins s2 σ H2 x vs v us Q I2 r1 r2 q2
end
noncomputable def MtM (X : Cx) (id : String) (r : V → List V → Hp → VK → Prop) : Prop :=
 ∀ (pins : List (Addr × Obj)) (s : Shared) (σ : St) (H : Hp) (x : V) (xs : List V) (v : Value) (us : List Value) (Q : VK), Inv X pins σ H s → RelV x v → Vals xs us → r x xs H Q →
  wpAny (model X.prog X.w) X.A (call (.builtin id) (v :: us)) (EP X pins σ Q) X.xe s
theorem Vals.one : ∀ {x : V} {us : List Value}, Vals [x] us → ∃ u, us = [u] ∧ RelV x u := by
 intro x us h
 cases h with
 | cons r t =>
  cases t
  exact ⟨_, rfl, r⟩
theorem Vals.reverse {xs : List V} {us : List Value} (h : Vals xs us) : Vals xs.reverse us.reverse := by
 induction h with
 | nil => exact .nil
 | cons r t ih => rw [List.reverse_cons, List.reverse_cons]; exact Vals.append ih (.cons r .nil)
theorem Vals.rep {xs : List V} {us : List Value} (h : Vals xs us) : ∀ k : Nat, Vals (List.replicate k xs).flatten (List.replicate k us).flatten
 | 0 => .nil
 | k + 1 => by
  rw [List.replicate_succ, List.replicate_succ, List.flatten_cons, List.flatten_cons]
  exact Vals.append h (Vals.rep h k)
theorem a4W (its : List Value) : ∀ (k : Nat) (acc : List Value),
  List.foldl (fun x1 x2 => x1 ++ x2) acc.toArray (List.replicate k its.toArray) = (acc ++ (List.replicate k its).flatten).toArray
 | 0, acc => by simp
 | k + 1, acc => by
  have e : acc.toArray ++ its.toArray = (acc ++ its).toArray := by simp
  have e2 : (acc ++ its) ++ (List.replicate k its).flatten = acc ++ (List.replicate (k + 1) its).flatten := by
   rw [List.replicate_succ, List.flatten_cons, List.append_assoc]
  rw [← e2, ← a4W its k (acc ++ its), ← e, List.replicate_succ, List.foldl_cons]
section
variable {X : Cx} {pins : List (Addr × Obj)} {σ : St} {H : Hp} {s : Shared} {l b : Addr} {xs ys zs : List V}
theorem Inv.lset {its its' : List Value} {n : Nat} {f : Array Value → Array Value} {t' : Nat} (I : Inv X pins σ H s) (hH : H l = some (.lst xs))
  (e : s.heap.get? l = some { cls := .type "list", data := .seq its.toArray n }) (hf : f its.toArray = its'.toArray) (hv : Vals ys its') (hz : ys.length ≤ sizeLine) :
  Inv X pins σ (upd H l (.lst ys)) { s with heap := s.heap.update l (Obj.mapSeq f), toks := t' } := by
 have q := PySem.IsL.update e f
 rw [hf] at q
 refine I.write (x := l) (e := l) (by rw [hH]; exact trivial) (.inl rfl) (fun b' u hb hu => (Heap.get?_update_other s.heap (Obj.mapSeq f) (Ne.symm hb)).trans hu) ⟨_, q⟩ ?_
 exact ⟨hz, its', _, hv, q⟩
theorem Inv.lnew {its : List Value} {t' : Nat} (I : Inv X pins σ H s) (hv : Vals ys its) (hz : ys.length ≤ sizeLine) :
  Inv X pins σ (upd H s.heap.objs.size (.lst ys)) { s with heap := s.heap.push { cls := .type "list", data := .seq its.toArray }, toks := t' } :=
 I.laid (fun _ _ q => Heap.get?_push_of_some _ q) (Nat.le_refl _) ⟨hz, its, 0, hv, Heap.get?_push_size _ rfl⟩
theorem Inv.fresh (I : Inv X pins σ H s) : H s.heap.objs.size = none := I.hok.fresh (Nat.le_refl _)
theorem Inv.lstM (I : Inv X pins σ H s) (hH : H l = some (.lst xs)) : xs.length ≤ sizeLine ∧ ∃ (its : List Value) (n : Nat), Vals xs its ∧ xs.length = its.length ∧ s.heap.get? l = some { cls := .type "list", data := .seq its.toArray n } := by
 obtain ⟨z, its, n, r, e⟩ := I.hok l _ hH
 exact ⟨z, its, n, r, r.length, e⟩
theorem a8V {n : Nat} (h : n ≤ sizeLine) : Builtin.List.listTooLong n = false := by
 unfold Builtin.List.listTooLong
 exact decide_eq_false (by omega)
end
section
variable {X : Cx}
noncomputable def b04 : V → List V → Hp → VK → Prop := fun x vs H Q => ∃ l xs y, x = .ref l ∧ vs = [y] ∧ H l = some (.lst xs) ∧ xs.length < sizeLine ∧ Q .non (upd H l (.lst (xs ++ [y])))
theorem a3k : MtM X "list.append" b04 := by
 intro pins s σ H x vs v us Q I rx rv h
 obtain ⟨l, xs, y, rfl, rfl, hH, hz, q⟩ := h
 cases rx
 obtain ⟨u, rfl, ru⟩ := rv.one
 obtain ⟨z, its, n, r, hl, e⟩ := I.lstM hH
 refine call_meets F.slot_list_append ⟨_, e, rfl⟩ F.entry_list_append (F.args_list_append_2 _ _) (PySem.list_append l its.toArray n u (by rw [List.size_toArray]; omega)) ⟨e, ?_⟩
 refine ⟨.non, _, I.lset (its' := its ++ [u]) hH e (by simp) (r.append (.cons ru .nil)) ?_, rfl, q⟩
 rw [List.length_append, List.length_singleton]
 omega
noncomputable def a2t : R2 := fun x y H Q => ∃ l b xs zs, x = .ref l ∧ y = .ref b ∧ H l = some (.lst xs) ∧ H b = some (.lst zs) ∧ xs.length + zs.length ≤ sizeLine ∧ ∀ p, H p = none → Q (.ref p) (upd H p (.lst (xs ++ zs)))
theorem Y6 : OpR X (binaryOp .Add) a2t := by
 intro pins s σ H x y v u Q I rx ry h
 obtain ⟨l, b, xs, zs, rfl, rfl, hH, hB, hz, q⟩ := h
 cases rx
 cases ry
 obtain ⟨z, its, n, r, hl, e⟩ := I.lstM hH
 obtain ⟨z2, its2, n2, r2, hl2, e2⟩ := I.lstM hB
 refine PySem.P.add_list e e2 ?_ (by rw [List.size_toArray, List.size_toArray]; omega)
 have ea : its.toArray ++ its2.toArray = (its ++ its2).toArray := by simp
 rw [ea]
 exact ⟨.ref _, _, I.lnew (t' := s.toks) (r.append r2) (by rw [List.length_append]; omega), rfl, q _ I.fresh⟩
noncomputable def a15 : R2 := fun x y H Q => ∃ l k xs, x = .ref l ∧ y = .int k ∧ H l = some (.lst xs) ∧ -(2 ^ 63) ≤ k ∧ k < 2 ^ 63 ∧ xs.length * k.toNat ≤ sizeLine ∧
 ∀ p, H p = none → Q (.ref p) (upd H p (.lst (List.replicate k.toNat xs).flatten))
theorem a98 {α : Type} (xs : List α) (k : Nat) : (List.replicate k xs).flatten.length = k * xs.length := by
 induction k with
 | zero => simp
 | succ k ih => rw [List.replicate_succ, List.flatten_cons, List.length_append, ih, Nat.succ_mul, Nat.add_comm]
theorem a7D : OpR X (binaryOp .Mult) a15 := by
 intro pins s σ H x y v u Q I rx ry h
 obtain ⟨l, k, xs, rfl, rfl, hH, h1, h2, hz, q⟩ := h
 cases rx
 obtain ⟨t, rfl⟩ := ry
 obtain ⟨z, its, n, r, hl, e⟩ := I.lstM hH
 have hlen : its.toArray.size * k.toNat ≤ sizeLine := by rw [List.size_toArray, ← hl]; exact hz
 have hcap : ¬ its.toArray.size * k.toNat > (2 ^ 63 - 1) / 8 := by
  have : (sizeLine : Nat) ≤ (2 ^ 63 - 1) / 8 := by decide
  omega
 have hfit : ¬ (!Builtin.List.listFitsIndex k) = true := by
  rw [fitsIndex_both h1 h2]
  exact Bool.false_ne_true
 have hlong : ¬ Builtin.List.listTooLong (its.toArray.size * k.toNat) = true := by
  rw [a8V hlen]
  exact Bool.false_ne_true
 have hnew : List.foldl (fun x1 x2 => x1 ++ x2) #[] (List.replicate (if its.toArray.isEmpty = true then 0 else k.toNat) its.toArray) = (List.replicate k.toNat its).flatten.toArray := by
  have f0 : ∀ m : Nat, List.foldl (fun x1 x2 => x1 ++ x2) #[] (List.replicate m its.toArray) = (List.replicate m its).flatten.toArray := fun m => by
   have := a4W its m []
   rw [List.nil_append] at this
   exact this
  rw [f0]
  cases its with
  | nil => simp
  | cons a r' => rw [if_neg (by simp)]
 refine wpAny_binaryOp_repeat_ref (T := "list") (U := "int") (by decide) ⟨_, e, rfl⟩ (fun s' => typeIs_int s' k t) noFill_list_mul F.fills_int_mul F.slot_int_rmul repeat_list F.slot_int_index.lookup
  (call_meets F.slot_int_rmul (typeIs_int s k t) F.entry_int_rmul (F.args_int_rmul_2 _ _) (int___rmul___int_list k t l its.toArray n)
   ⟨e, rfl, ⟨_, e, rfl⟩, call_meets F.slot_list_mul ⟨_, e, rfl⟩ F.entry_list_mul (F.args_list_mul_2 _ _) (AutoListH.list___mul___list_int_3 l its.toArray n k t hfit hcap hlong) ⟨e, ?_⟩⟩)
 rw [hnew]
 exact ⟨.ref _, _, I.lnew (t' := s.toks) (r.rep k.toNat) (by rw [a98, Nat.mul_comm]; exact hz), rfl, q _ I.fresh⟩
end
end L2
namespace Att
open PySem PySem.W PySem.Calls PyProof.Rows
theorem a9T {P : Params} {h : Heap} : ∀ (ns : List Int) (vs : List Value), WellAll P h vs (ns.map WData.int) → IntsAre vs ns := by
 intro ns
 induction ns with
 | nil =>
  intro vs w
  rw [List.map_nil] at w
  cases w
  exact .nil
 | cons n ns ih =>
  intro vs w
  rw [List.map_cons] at w
  cases w with
  | cons a b =>
   cases a
   exact .cons _ _ (ih _ b)
theorem b38 {l : OpenLaw} {n : Nat} (hn : l.most = some n) {P : Params} {h : Heap} {args : List WData} {vals : List Value}
  (hpre : l.row.toRowW.claim.pre args = true) (hwl : WellAll P h vals args) :
  ∃ a vs ns, vals = [Value.ref a] ∧ args = [WData.list (ns.map WData.int)] ∧ h.get? a = some { cls := .type "list", data := .seq vs.toArray } ∧ IntsAre vs ns ∧ ns.length ≤ n := by
 have hsh : WShape.hasAll [] args [.list .int] = true := (pre_splitW hpre).1
 have hc : l.pre.holds [] { args := args } = true := (pre_splitW hpre).2
 obtain ⟨d, r, rfl, h1, h2⟩ := hasAllW_cons hsh
 obtain rfl := hasAllW_nil h2
 obtain ⟨xs, rfl, h3⟩ := hasW_list h1
 obtain ⟨ns, rfl⟩ := items_int h3
 have hlen : ns.length ≤ n := by
  unfold OpenLaw.pre at hc
  have h4 : (WTm.not (.lt (.lit (.int (n : Int))) (.len (.arg 0)))).holds [] { args := [.list (ns.map .int)] } = true := by
   have h4 := (holds_andW hc).1
   rw [hn] at h4
   exact h4
  have h5 := condW_of h4 (w_not (w_lt w_lit (w_len_list (w_arg rfl))))
  rw [List.length_map] at h5
  refine Nat.le_of_not_lt fun q => ?_
  have q' : (n : Int) < ((ns.length : Nat) : Int) := by omega
  first
   | (rw [decide_eq_true q'] at h5; exact absurd h5 (by decide))
   | (simp at h5; omega)
 cases hwl with
 | cons w1 w2 =>
  cases w2
  cases w1 with
  | list ho hall => exact ⟨_, _, ns, rfl, rfl, ho, a9T ns _ hall, hlen⟩
theorem b3T (l : OpenLaw) (args : List WData) : l.row.toRowW.claim.post args (.bool true) args = true :=
 postW_of (r := l.row.toRowW) (X := (true == true))
  (show WShape.has [] (.bool true) .bool = true by first | rfl | decide | simp [WShape.has, WShape.arms, WShape.armsAll])
  (show (WTm.eq .res (.lit (.bool true))).value [] { args := args, res := some (.bool true), after := args } = some (.bool (true == true)) from w_eq_bool (w_res rfl) w_lit) rfl
theorem attach_call {l : OpenLaw} {n : Nat} {q : Program} {loose : List Str} {XP : (Str → Option Value) → Heap → Prop} {YP : World → Heap → Prop} {d : DefRec}
  (hn : l.most = some n) (hdf : d.params.defaults = [])
  (call : ∀ (w : World) (s₀ s₁ : Shared) (mg mb : Str → Option Value) (fa : Addr) (o : Obj) (pm cd doc : Value) (a : Addr) (vs : List Value) (ns : List Int),
   Ground q loose [] XP w s₀ mg mb s₁.heap → YP w s₁.heap →
   s₁.heap.get? fa = some o → o.data = .func (docDef d.name d.params d.body d.scope pm cd doc) → s₁.heap.CodeRec cd d.name → mg d.name = some (.ref fa) →
   s₁.heap.get? a = some { cls := .type "list", data := .seq vs.toArray } → IntsAre vs ns → ns.length ≤ n → s₁.gens = #[] →
   codeAny (model l.prog w) callerA (.call (.ref fa) ⟨[.ref a], []⟩) (fun r s' => r = .ok (.ret (.bool true)) ∧ OldK s₁.heap s'.heap ∧ s'.os = s₁.os ∧ AllBare s'.gens) s₁) :
  WalkO q loose XP YP l.row.toRowW d [] (fun f vs => PySem.call f vs) := by
 intro w s₀ s₁ mg mb G Y fa o pm cd doc dV kV ho hd hcd hD hmg hg args vals as hpre hlay hrd hwl hlo
 obtain rfl : dV = .none := Dflts.none hD hdf
 obtain rfl : kV = .none := Dflts.noKw hD
 obtain ⟨a, vs, ns, rfl, rfl, hobj, hints, hlen⟩ := b38 hn hpre hwl
 refine enter_call (codeAny_mono (call w s₀ s₁ mg mb fa o pm cd doc a vs ns G Y ho (fd_plain hd) hcd hmg hobj hints hlen hg) fun r s' hq => ?_)
 obtain ⟨rfl, h2, h3, h4⟩ := hq
 exact ⟨.inl ⟨.bool true, .bool true, [], rfl, fun _ => rfl, .bool true, b3T l _, fun _ => ⟨List.Pairwise.nil, fun _ hm => (nomatch hm)⟩⟩, h2, h3, h4⟩
end Att
namespace L2
open PySem PySem.Spec PyProof.Rows
theorem a7u : ∀ {vs : List Value} {ns : List Int}, IntsAre vs ns → Vals (ns.map V.int) vs
 | _, _, .nil => .nil
 | _, _, .cons n t h => .cons ⟨t, rfl⟩ (a7u h)
noncomputable def a2m (H : Hp) : Prop := ∀ b, H b = none ∨ ∃ o xs, H b = some (.frz o (.lst xs))
theorem b4d {P : Program} {w : World} {K : PySem.W.Frag} {mg mb : Str → Option Value} {CX : CXT} {k : Nat} {fa a : Addr} {fd : FuncData} {x : Str} {sp : Sp} {s₁ : Shared} {vs : List Value} {ns : List Int}
  (KX : K.In s₁.heap) (hns : s₁.heap.Ns mainGlobals mg) (hb : s₁.heap.Ns builtinsNs mb) (hbb : ∀ x : Str, x ≠ "__name__" → mb x = bootBuiltins x) (hlim : s₁.heap.NoLimit) (hg : s₁.gens = #[])
  (ha : s₁.heap.get? a = some { cls := .type "list", data := .seq vs.toArray }) (hi : IntsAre vs ns) (hl : ns.length ≤ sizeLine) (hr : Room k callerA)
  (F : ∀ base : Heap, K.In base → base.Ns mainGlobals mg → FnOk P w K mg base CX k fa fd [x] sp) (hbind : ∀ (s : Shared) (u : Value), BindsTo s fd ⟨[u], []⟩ [(x, u)])
  (hsp : ∀ H : Hp, a2m H → SqL K H a (ns.map V.int) → sp [.ref a] H (fun v _ => v = .bl true) fun _ _ _ => False)
  (hCX : ∀ H e s', CX [] H s₁ (fun _ _ _ => False) e s' → False) :
  codeAny (model P w) callerA (.call (.ref fa) ⟨[.ref a], []⟩) (fun r s' => r = .ok (.ret (.bool true)) ∧ OldK s₁.heap s'.heap ∧ s'.os = s₁.os ∧ AllBare s'.gens) s₁ := by
 have rv := a7u hi
 have lenV := hi.length
 have core : ∀ H : Hp, a2m H → SqL K H a (ns.map V.int) → HOk P w H s₁.heap → (∀ b, H b ≠ none → b = a) → (H a ≠ none → K.lookup a = none) →
   codeAny (model P w) callerA (.call (.ref fa) ⟨[.ref a], []⟩) (fun r s' => r = .ok (.ret (.bool true)) ∧ OldK s₁.heap s'.heap ∧ s'.os = s₁.os ∧ AllBare s'.gens) s₁ := by
  intro H hO hS hok hA hK
  have base_of : ∀ {b : Addr} {o : Obj}, s₁.heap.get? b = some o → H b = none → (O0 s₁.heap H).get? b = some o := fun e n => b1o e n
  have noA : ∀ {b : Addr} {o : Obj} {es : Array DictEntry} {ep : Nat}, s₁.heap.get? b = some o → o.data = .dict es ep → H b = none := fun {b o es ep} e d => by
   cases q : H b with
   | none => rfl
   | some u =>
    have e' : b = a := hA b (by rw [q]; simp)
    subst e'
    rw [ha] at e; cases e
    have d' : Data.seq vs.toArray _ = Data.dict es ep := d
    cases d'
  have nsK : ∀ {b : Addr} {m : Str → Option Value}, s₁.heap.Ns b m → (O0 s₁.heap H).Ns b m := fun {b m} ⟨o, es, ep, e, d, r⟩ => ⟨o, es, ep, base_of e (noA e d), d, r⟩
  have hKb : K.In (O0 s₁.heap H) := fun b o e => base_of (KX b o e) (by
   cases q : H b with
   | none => rfl
   | some u =>
    have e' : b = a := hA b (by rw [q]; simp)
    subst e'
    rw [hK (by rw [q]; simp)] at e; cases e)
  have hM : Mod K mg (O0 s₁.heap H) := ⟨hKb, nsK hns, ⟨mb, nsK hb, hbb⟩, let ⟨mc, h1, h2⟩ := hlim; ⟨mc, nsK h1, h2⟩⟩
  have e0 : Env0 P w K mg (O0 s₁.heap H) callerA [] s₁ H := ⟨rfl, hM, fun b o e => a96 e, Nat.le_of_eq (a8y _ _), trivial, fun b hb => absurd (show b ∈ ([] : List Addr) from hb) (by simp), hok, .of_eq hg⟩
  refine codeAny_mono ((F _ hKb (nsK hns)).run callerA [] s₁ H ⟨[.ref a], []⟩ [.ref a] [.ref a] _ _ hr e0 (hbind s₁ (.ref a)) (.cons rfl .nil) (hsp H hO hS)) fun r s' h => ?_
  cases r with
  | error e => exact (hCX H e s' h).elim
  | ok fl =>
   cases fl with
   | next => exact False.elim h
   | brk => exact False.elim h
   | cont => exact False.elim h
   | ret u =>
    obtain ⟨v, H', os, bare, un, hok', r', q⟩ := h
    have q' : v = .bl true := q
    subst q'
    obtain rfl : u = Value.bool true := r'
    refine ⟨rfl, OldK.of_keep fun b o e => ?_, os, bare⟩
    cases q : H b with
    | none => exact un.keep b o e q (by intro z; exact absurd (show b ∈ ([] : List Addr) from z) (by simp)) (by simp)
    | some u =>
     rcases hO b with z | ⟨ob, xs, z⟩
     ·rw [q] at z; cases z
     ·have z2 := un.frzs b ob _ z
      obtain ⟨e1, _⟩ := hok b _ z
      obtain ⟨e2, _⟩ := hok' b _ z2
      rw [e] at e1; cases e1
      exact e2
 cases hk : K.lookup a with
 | some o =>
  have e := KX a o hk
  rw [ha] at e
  cases e
  refine core (fun _ => none) (fun _ => .inl rfl) (.inr ⟨_, vs.toArray, _, hk, rfl, rfl, rfl, by rw [List.size_toArray, lenV]; exact hl, by simpa using rv⟩) (fun b u z => by have z' : (none : Option HO) = some u := z; cases z') (fun b z => absurd rfl z) fun z => absurd rfl z
 | none =>
  refine core (fun b => if b = a then some (.frz { cls := .type "list", data := .seq vs.toArray } (.lst (ns.map V.int))) else none) (fun b => ?_) (.inl (.inr ⟨{ cls := .type "list", data := .seq vs.toArray }, if_pos rfl⟩)) (fun b u z => ?_) (fun b z => ?_) fun _ => hk
  ·by_cases hb : b = a
   ·exact .inr ⟨_, _, if_pos hb⟩
   ·exact .inl (if_neg hb)
  ·by_cases hb : b = a
   ·have z' := (if_pos hb).symm.trans z
    cases z'
    subst hb
    exact ⟨ha, by rw [List.length_map]; exact hl, vs, _, rv, ha⟩
   ·have z' := (if_neg hb).symm.trans z
    cases z'
  ·by_cases hb : b = a
   ·exact hb
   ·exact absurd (if_neg hb) z
theorem walk_of {l : PySem.W.OpenLaw} {n k : Nat} {q : Program} {loose : List Str} {XP : (Str → Option Value) → Heap → Prop} {YP : World → Heap → Prop} {d : DefRec} {K : Params → PySem.W.Frag} {CX : World → CXT} {sp : World → Sp} {x : Str}
  (hn : l.most = some n) (hn2 : n ≤ sizeLine) (hdf : d.params.defaults = []) (hr : Room k callerA)
  (hY : ∀ (w : World) (h : Heap), YP w h → (K w.params).In h)
  (F : ∀ (w : World) (mg : Str → Option Value) (fa : Addr) (h : Heap), (K w.params).In h → h.Ns mainGlobals mg → mg d.name = some (.ref fa) →
   ∃ fd : FuncData, (∀ (s : Shared) (u : Value), BindsTo s fd ⟨[u], []⟩ [(x, u)]) ∧
    ∀ base : Heap, (K w.params).In base → base.Ns mainGlobals mg → FnOk l.prog w (K w.params) mg base (CX w) k fa fd [x] (sp w))
  (hsp : ∀ (w : World) (H : Hp) (a : Addr) (ns : List Int), ns.length ≤ n → a2m H → SqL (K w.params) H a (ns.map V.int) → sp w [.ref a] H (fun v _ => v = .bl true) fun _ _ _ => False)
  (hCX : ∀ (w : World) (H : Hp) (s : Shared) (e : Value) (s' : Shared), CX w [] H s (fun _ _ _ => False) e s' → False) :
  PySem.W.WalkO q loose XP YP l.row.toRowW d [] (fun f vs => PySem.call f vs) := by
 refine Att.attach_call hn hdf fun w s₀ s₁ mg mb fa o pm cd doc a vs ns G Y ho hd hcd hmg hobj hints hlen hg => ?_
 have KX := hY w _ Y
 obtain ⟨fd, hb, hF⟩ := F w mg fa _ KX G.T.g hmg
 exact b4d KX G.T.g G.T.b G.T.builtins G.T.nolimit hg hobj hints (Nat.le_trans hlen hn2) hr hF hb (fun H hO hS => hsp w H a ns hlen hO hS) fun H e s' => hCX w H s₁ e s'
noncomputable def S6 (s : Stmt) : Arguments := match s with
 | .FunctionDef _ a _ _ _ _ _ _ _ _ => a
 | _ => { posonlyargs := [], args := [], vararg := none, kwonlyargs := [], kw_defaults := [], kwarg := none, defaults := [] }
noncomputable def J7 (s : Stmt) : List Stmt := match s with
 | .FunctionDef _ _ b _ _ _ _ _ _ _ => b
 | _ => []
noncomputable def l7 (s : Stmt) : Scope := match s with
 | .FunctionDef _ _ _ _ _ _ sc _ _ _ => sc
 | _ => { kind := .function, names := [], isGenerator := false, isCoroutine := false }
noncomputable abbrev CX0 : CXT := fun _ _ _ _ _ _ => False
noncomputable abbrev E0 : XK := fun _ _ _ => False
theorem a8q {X : Cx} : a2V CX0 X E0 := fun _ _ _ _ _ _ _ h => h.elim
structure Fun (K : PySem.W.Frag) (x qual : Str) (st : Stmt) (f : Addr) (fd : FuncData) : Prop where
 ex : ∃ (oc : Value) (od : Option Addr) (kV doc pm : Value) (an : Option Addr) (cdv ct : Value) (osl : Array (Option Value)),
  fd = PySem.W.fnOf x qual (S6 st) (J7 st) (l7 st) .none kV doc pm an cdv ct ∧ K.lookup f = some ⟨oc, od, .func fd, osl⟩ ∧ PySem.W.codeIn K cdv qual = true
 kp : PySem.W.keepIn K (.ref f) = true
section
variable {P : Program} {w : World} {K : PySem.W.Frag} {mg : Str → Option Value} {base : Heap}
theorem Fun.ok {x qual : Str} {st : Stmt} {f : Addr} {fd : FuncData} {N ps : List Str} {k : Nat} {sp : Sp} (F : Fun K x qual st f fd) (S : FnScope N ps (l7 st)) (len : ∀ vs H Q E, sp vs H Q E → vs.length = ps.length)
  (hbody : ∀ (cdv : Value) (A : Around) (outer : List Env) (s : Shared) (H : Hp) (vs : List V) (Q : VK) (E : XK), Room k (A.deeper (envOfC qual (l7 st) s.heap.objs.size f cdv)) → sp vs H Q E →
   ∃ t, PSs (O6 CX0 P w K mg base N qual (l7 st) f cdv A outer s H E).nox (J7 st) t ∧ t { nx := fun _ H' => Q .non H', rt := Q } (start N vs) H) : FnOk P w K mg base CX0 (k + 1) f fd ps sp := by
 obtain ⟨oc, od, kV, doc, pm, an, cdv, ct, osl, rfl, lk, hcd⟩ := F.ex
 refine a9I lk hcd S len fun A outer s H vs Q E hr hsp => ?_
 obtain ⟨t, h, q⟩ := hbody cdv A outer s H vs Q E hr hsp
 exact ⟨t, h.nox, q⟩
theorem Fun.binds {x qual : Str} {st : Stmt} {f : Addr} {fd : FuncData} {ps : List Str} (F : Fun K x qual st f fd)
  (h : ∀ (kV doc pm : Value) (an : Option Addr) (cdv ct : Value) (us : List Value), us.length = ps.length → bindArgs (PySem.W.fnOf x qual (S6 st) (J7 st) (l7 st) .none kV doc pm an cdv ct) ⟨us, []⟩ = pure (ps.zip us)) : Binds K fd ps [] := by
 obtain ⟨oc, od, kV, doc, pm, an, cdv, ct, osl, rfl, lk, hcd⟩ := F.ex
 exact .all (h kV doc pm an cdv ct)
theorem b0x {x qual : Str} {st : Stmt} {f : Addr} {oc : Value} {od an : Option Addr} {osl : Array (Option Value)} {kV doc pm cdv ct : Value} (l : K.lookup f = some ⟨oc, od, .func (PySem.W.fnOf x qual (S6 st) (J7 st) (l7 st) .none kV doc pm an cdv ct), osl⟩)
  (c : PySem.W.codeIn K cdv qual = true) (k : PySem.W.keepIn K (.ref f) = true) : Fun K x qual st f (PySem.W.fnOf x qual (S6 st) (J7 st) (l7 st) .none kV doc pm an cdv ct) := ⟨⟨oc, od, kV, doc, pm, an, cdv, ct, osl, rfl, l, c⟩, k⟩
end
section
variable {X : Cx}
theorem pv (i : Nat) {x : Str} {pos : Pos} (hN : X.N[i]? = some x := by rfl) (hv : Vis X.env.scope x := by first | exact Or.inl rfl | exact Or.inr (Or.inl rfl) | exact Or.inr (Or.inr rfl)) (hd : (x == ("__debug__" : Str)) = false := by decide)
  (hcd : (x == ("__classdict__" : Str)) = false := by decide) : PE X (.Name x pos) (T3 i) := b0H hN hv hd hcd
end
theorem a8h {A B : Prop} (h : B) : if false = true then A else B := by
 rw [if_neg Bool.false_ne_true]
 exact h
theorem b1I {A B : Prop} (h : A) : if true = true then A else B := by
 rw [if_pos rfl]
 exact h
noncomputable def blk (X : Cx) (N' : List Str) (scope : Scope) (cl : List (Str × Addr)) (C : Addr) (s0 : Shared) (H0 : Hp) (ex : List Addr) : Cx :=
 { X with N := N', env := compEnvC scope cl C X.env, s₀ := s0, H₀ := H0, outer := X.stack, stack := X.stack, ex := ex, fn := fun _ => false, pn := [], xe := fun _ _ => False }
noncomputable def V8 (X : Cx) (ifs : List Expr) (t : TT) : Prop :=
 ∀ (pins : List (Addr × Obj)) (s : Shared) (σ : St) (H : Hp) (Q : Bool → Hp → Prop), Inv X pins σ H s → t σ H Q →
  wpAny (model X.prog X.w) X.A (forIn ifs true fun c r => if r = true then do let ok ← isTrue c X.env (eval c X.env); pure (ForInStep.yield ok) else pure (ForInStep.yield r)) (TP X pins σ Q) X.xe s
noncomputable def b26 : TT := fun _ H Q => Q true H
theorem b3r {X : Cx} : V8 X [] b26 := fun pins s σ H Q I h => wpAny_tests_nil ⟨H, I, h⟩
theorem b3Z {X : Cx} {c : Expr} {t : TT} (h : PT X c t) : V8 X [c] t := fun pins s σ H Q I q => wpAny_tests_one (h pins s σ H Q I q)
noncomputable def A2 (n : Nat) (idx : List Nat) (σ : St) : St := List.replicate n none ++ idx.map fun i => (σ[i]?).join
noncomputable def V9 (n : Nat) (idx : List Nat) (wi : TI) (g : TG) (tc : TT) (te : TE) : TE := fun σ H Q => wi σ H fun J H1 => ∀ D, H1 D = none →
 ∃ W : Nat → Nat → Hp → Prop, (∃ m, W 0 m (upd H1 D (.lst []))) ∧ ∀ i m H, W i m H →
  (J.stop i H ∧ Q (.ref D) H) ∨ (J.go i H ∧ ∀ x H', J.yld i H x H' → g x (A2 n idx σ) H' fun σ2 H2 => (σ2.length = (A2 n idx σ).length ∧ ∀ (j : Nat) (v : V), (A2 n idx σ)[j]? = some (some v) → σ2[j]? = some (some v)) ∧ tc σ2 H2 fun b H3 =>
   if b = true then te σ2 H3 fun v H4 => ∃ ys, H4 D = some (.lst ys) ∧ ys.length < sizeLine ∧ ∃ m', m' < m ∧ W (i + 1) m' (upd H4 D (.lst (ys ++ [v]))) else ∃ m', m' < m ∧ W (i + 1) m' H3)
structure CompOk (X : Cx) (scope : Scope) (cl : List (Str × Addr)) (N' : List Str) (n : Nat) (idx : List Nat) : Prop where
 clos : closureFor scope X.env = pure cl
 sub : ∀ x c, cl.lookup x = some c → X.env.cells.lookup x = some c
 cell : ∀ y ∈ scope.names, y.2 ≠ .cell
 kind : scope.kind = .function
 names : ∀ y ∈ scope.names, y.2 = .local → scope.names.lookup y.1 = some .local
 has : ∀ x, ((relabel scope X.env).names.lookup x = some .cell ∨ (relabel scope X.env).names.lookup x = some .free) → ∃ c, cl.lookup x = some c
 len : N'.length = n + idx.length
 cap : ∀ (j i : Nat) (y : Str), idx[j]? = some i → N'[n + j]? = some y → X.N[i]? = some y ∧ (X.env.scope.names.lookup y = some .cell ∨ X.env.scope.names.lookup y = some .free) ∧ ((relabel scope X.env).names.lookup y = some .cell ∨ (relabel scope X.env).names.lookup y = some .free)
section
variable {X : Cx} {scope : Scope} {cl : List (Str × Addr)} {N' : List Str} {n : Nat} {idx : List Nat} {tg iter elt : Expr} {ifs : List Expr} {pos : Pos} {wi : TI} {g : TG} {tc : TT} {te : TE}
theorem a9N (σ : St) : (A2 n idx σ).length = n + idx.length := by simp [A2]
theorem b1Y {σ : St} {j : Nat} {v : V} (h : (A2 n idx σ)[j]? = some (some v)) : ∃ k i, j = n + k ∧ idx[k]? = some i ∧ σ[i]? = some (some v) := by
 unfold A2 at h
 by_cases hj : j < n
 ·rw [List.getElem?_append_left (by simpa using hj)] at h
  simp [hj] at h
 ·rw [List.getElem?_append_right (by simpa using Nat.le_of_not_lt hj)] at h
  simp only [List.length_replicate, List.getElem?_map] at h
  refine ⟨j - n, ?_⟩
  cases e : idx[j - n]? with
  | none => rw [e] at h; simp at h
  | some i =>
   rw [e] at h
   simp only [Option.map_some, Option.some.injEq] at h
   exact ⟨i, by omega, rfl, by simpa using Option.join_eq_some_iff.mp h⟩
theorem a7y (k : CompOk X scope cl N' n idx) {pins : List (Addr × Obj)} {s2 : Shared} {σ : St} {H2 : Hp} {fp : List Addr} {C : Addr} {h4 : Heap} {t4 : Nat} {m : Str → Option Value} (I : Inv X pins σ H2 s2) (f : ∀ b ∈ fp, J0 X pins H2 b) (fo : ∀ b ∈ fp, b < s2.heap.objs.size)
  (hC : s2.heap.objs.size + 1 ≤ C) (ns : h4.Ns C m) (keep : ∀ b o, s2.heap.get? b = some o → h4.get? b = some o) (hD : h4.get? s2.heap.objs.size = some { cls := .type "list", data := .seq ([] : List Value).toArray }) :
  Inv (blk X N' scope cl C s2 H2 fp) [] (A2 n idx σ) (upd H2 s2.heap.objs.size (.lst [])) { s2 with heap := h4, toks := t4 } := by
 have fresh : H2 s2.heap.objs.size = none := I.hok.fresh (Nat.le_refl _)
 have fC : H2 C = none := I.hok.fresh (by omega)
 have cellsub : ∀ x c, (blk X N' scope cl C s2 H2 fp).env.cells.lookup x = some c → X.env.cells.lookup x = some c := fun x c e => k.sub x c e
 have cellLt : ∀ x c, X.env.cells.lookup x = some c → c < s2.heap.objs.size := fun x c e => by
  obtain ⟨v, q⟩ := I.cell x c e
  exact q.lt
 have ok : (blk X N' scope cl C s2 H2 fp).Ok := {
  mod := I.ok.mod
  kind := k.kind
  glob := I.ok.glob
  blt := I.ok.blt
  above := by show s2.heap.objs.size ≤ C; omega
  inj := fun x y c e1 e2 => I.ok.inj x y c (cellsub x c e1) (cellsub y c e2)
  has := fun x h => k.has x h
  cab := fun x c h _ => by cases h
  hd := I.ok.hd
  frames := I.ok.frames
  stk := .inl rfl
  exf := fun b hb => ⟨Nat.ne_of_lt (Nat.lt_of_lt_of_le (fo b hb) (by show s2.heap.objs.size ≤ C; omega)), fun x c e z => (f b hb).2.2.2.2.1 x c (cellsub x c e) z⟩
  bs := fun b o e => I.bs b o e
  bsz := Nat.le_trans I.ok.bsz I.sz
  noex := fun b o e hb => by
   rcases (f b hb).2.2.2.1 with z | z
   ·exact I.ok.noex b o e z
   ·exact absurd (Nat.lt_of_lt_of_le (Heap.lt_size e) (Nat.le_trans I.ok.bsz z)) (Nat.lt_irrefl _)
  exfs := fun b hb z => by
   rcases List.mem_cons.mp (I.stkSub b z) with y | y
   ·exact (f b hb).2.1 y
   ·exact (f b hb).2.2.1 y
  funs := I.stack
  frf := I.stkFree }
 refine ⟨ok, rfl, I.bare, Un.laid keep (Nat.le_refl _) fresh, ⟨m, ns, fun j y v e1 e2 e3 => ?_⟩, fun x c e => ?_, ?_, fun x c e => ?_, fun p hp => (by cases hp), I.hok.laid keep (Nat.le_refl _) ⟨Nat.zero_le _, [], _, .nil, hD⟩, ?_⟩
 ·obtain ⟨kk, i, rfl, hk, hv⟩ := b1Y e2
  obtain ⟨hN, ok, hkind⟩ := k.cap kk i y hk e1
  obtain ⟨c, hc⟩ := k.has y hkind
  obtain ⟨m0, _, hl⟩ := I.loc
  have hc' := k.sub y c hc
  obtain ⟨u, r, l⟩ := hl i y v hN hv (by rcases ok with z | z; exact .inr (.inl z); exact .inr (.inr z))
  refine ⟨u, r, .inr ⟨hkind, c, hc, ?_⟩⟩
  rcases l with ⟨z, _⟩ | ⟨_, c', e', q⟩
  ·have z' : X.env.scope.names.lookup y = some .local := z
   rcases ok with w | w <;> · rw [w] at z'; cases z'
  ·rw [hc'] at e'; cases e'
   obtain ⟨o, ho, hd⟩ := q
   exact ⟨o, keep _ o ho, hd⟩
 ·obtain ⟨v, q⟩ := I.cell x c (cellsub x c e)
  obtain ⟨o, ho, hd⟩ := q
  exact ⟨v, o, keep c o ho, hd⟩
 ·show upd H2 s2.heap.objs.size (.lst []) C = none
  rw [p8 (Nat.ne_of_gt hC)]; exact fC
 ·have := cellLt x c (cellsub x c e)
  rw [p8 (Nat.ne_of_lt this)]
  exact I.freeC x c (cellsub x c e)
 ·rw [a9N, ← k.len]; rfl
theorem a57 {prog : Program} {w : World} {A : Around} {R : Result → Shared → Prop} {s : Shared} {elt target iter : Expr} {ifs : List Expr} {scope : Scope} {pos : Pos} {it acc : Value} {env : Env} (I : Nat → Shared → Prop)
  (turn : ∀ n s, I n s → wpAny (model prog w) A (pyNext it) (fun r s1 => match r with
   | none => R (.ok .next) s1
   | some v => wpAny (model prog w) A (letOwnedTupleGo target it v) (fun _ s1' => wpAny (model prog w) A (assign target env v) (fun _ s2 =>
     wpAny (model prog w) A (forIn ifs true fun c r => if r = true then do let ok ← isTrue c env (eval c env); pure (ForInStep.yield ok) else pure (ForInStep.yield r)) (fun ok s3 =>
      if ok = true then wpAny (model prog w) A (eval elt env) (fun x s4 =>
       wpAny (model prog w) A (call (.builtin "list.append") [acc, x]) (fun _ s5 => ∃ m, m < n ∧ I m s5) (notedBy (model prog w) A env fun e s' => R (.error e) s') s4) (notedBy (model prog w) A env fun e s' => R (.error e) s') s3
      else ∃ m, m < n ∧ I m s3) (notedBy (model prog w) A env fun e s' => R (.error e) s') s2) (notedBy (model prog w) A env fun e s' => R (.error e) s') s1') (notedBy (model prog w) A env fun e s' => R (.error e) s') s1) (notedBy (model prog w) A env fun e s' => R (.error e) s') s)
  (n : Nat) (h : I n s) :
  codeAny (model prog w) A (.compLoop (.ListComp elt [⟨target, iter, ifs, 0⟩] scope pos) 0 it acc env) R s := by
 refine codeAny_loop rfl I (fun n s hI => ?_) n h
 show wpAny _ A ((compTurn (.ListComp elt [⟨target, iter, ifs, 0⟩] scope pos) 0 it acc env).onRaise (fun x => do noteFrame x env; theTreesLotGoes x)) _ _ s
 refine wpAny_noted ?_
 rw [compTurn_list]
 refine wpAny_bind (wpAny_standAt (wpAny_bind (wpAny_mono (turn n s hI) (fun r s₁ h₁ => ?_) fun _ _ h' => h')))
 cases r with
 | none => exact wpAny_pure h₁
 | some v =>
  refine wpAny_bind (wpAny_mono h₁ (fun _ s1' h1' => ?_) fun _ _ h' => h')
  refine wpAny_bind (wpAny_mono h1' (fun _ s₂ h₂ => wpAny_bind (wpAny_mono h₂ (fun ok s₃ h₃ => ?_) fun _ _ h' => h')) fun _ _ h' => h')
  cases ok with
  | false => exact wpAny_pure ⟨rfl, h₃⟩
  | true =>
   exact wpAny_bind (wpAny_bind (wpAny_mono h₃ (fun x s₄ h₄ => wpAny_bind (wpAny_mono h₄ (fun _ s₅ h₅ => wpAny_pure (wpAny_pure ⟨rfl, h₅⟩)) fun _ _ h' => h')) fun _ _ h' => h'))
theorem a4M (hc : X.calm = true) (k : CompOk X scope cl N' n idx) (hi : PI X tg iter wi)
  (hg : ∀ C s0 H0 ex, PG (blk X N' scope cl C s0 H0 ex) tg g) (ht : ∀ C s0 H0 ex, V8 (blk X N' scope cl C s0 H0 ex) ifs tc) (he : ∀ C s0 H0 ex, PE (blk X N' scope cl C s0 H0 ex) elt te)
  (hs : ∀ x, foldedSetIterable iter X.env x = pure x := by intro _; rfl) : PE X (.ListComp elt [⟨tg, iter, ifs, 0⟩] scope pos) (V9 n idx wi g tc te) := by
 intro pins s σ H Q I0 h
 rw [eval_ListComp]
 refine wpAny_comprehension_free (use := none) rfl hs k.clos k.kind k.names (thn (hi pins s σ H _ I0 h) fun v s1 h1 => thn h1 fun itv s2 h2 => ?_)
 obtain ⟨it, fp, tn, J, H2, e, I2, T, st2, f2, hW⟩ := h2
 subst e
 have fo2 : ∀ b ∈ fp, b < s2.heap.objs.size := fun b hb => by
  obtain ⟨o, e, _⟩ := T.obj _ _ st2 b hb
  exact Heap.lt_size e
 obtain ⟨W, ⟨m0, w0⟩, turn⟩ := hW s2.heap.objs.size (I2.hok.fresh (Nat.le_refl _))
 refine wpAny_newObj_type (wpAny_newFunctionEnv k.cell (by intro y hy; simp at hy) (fun h4 hns4 hsb4 => ?_) k.kind)
 dsimp only at hns4 hsb4 ⊢
 generalize hH3 : s2.heap.push { cls := .type "list", dict := none, data := .seq ([] : List Value).toArray } = h3 at hns4 hsb4 ⊢
 have hCe : h3.objs.size = s2.heap.objs.size + 1 := by rw [← hH3, Heap.size_push]
 have k34 : ∀ b o, b ≠ h3.objs.size → h3.get? b = some o → h4.get? b = some o := fun b o nb e => hsb4.extBut b o nb (Heap.get?_push_of_some _ e)
 have keep : ∀ b o, s2.heap.get? b = some o → h4.get? b = some o := fun b o e => k34 b o (Nat.ne_of_lt (by rw [hCe]; exact Nat.lt_succ_of_lt (Heap.lt_size e))) (by rw [← hH3]; exact Heap.get?_push_of_some _ e)
 have hD : h4.get? s2.heap.objs.size = some { cls := .type "list", data := .seq ([] : List Value).toArray } := k34 _ _ (Nat.ne_of_lt (by rw [hCe]; exact Nat.lt_succ_self _)) (by rw [← hH3]; exact Heap.get?_push_size _ rfl)
 have I4 := a7y k I2 f2 fo2 (Nat.le_of_eq hCe.symm) hns4 keep hD (t4 := s2.toks + ([] : List (Str × Value)).length)
 have stat : ∀ {H' : Hp}, (∀ b ∈ fp, H' b = none) → ∀ b ∈ fp, J0 (blk X N' scope cl h3.objs.size s2 H2 fp) [] H' b := fun hn b hb =>
  ⟨hn b hb, Nat.ne_of_lt (by rw [hCe]; exact Nat.lt_succ_of_lt (fo2 b hb)), fun z => (List.mem_cons.mp (I2.stkSub b z)).elim (f2 b hb).2.1 (f2 b hb).2.2.1, .inl hb, fun x c e => (f2 b hb).2.2.2.2.1 x c (k.sub x c e), fun p hp => (by cases hp)⟩
 have fr4 : ∀ b ∈ fp, upd H2 s2.heap.objs.size (.lst []) b = none := fun b hb => by rw [p8 (Nat.ne_of_lt (fo2 b hb))]; exact (f2 b hb).1
 have fin : ∀ (s' : Shared) (H' : Hp), Inv (blk X N' scope cl h3.objs.size s2 H2 fp) [] (A2 n idx σ) H' s' → Q (.ref s2.heap.objs.size) H' →
   compPost (model X.prog X.w) X.A X.xe none (EP X pins σ Q) (.ref s2.heap.objs.size) h3.objs.size (.ok .next) s' := fun s' H' I' q => by
  obtain ⟨m', hn', _⟩ := I'.loc
  refine ⟨m', hn', fun h5 hsb => ⟨.ref s2.heap.objs.size, H', ?_, rfl, q⟩⟩
  have kk : ∀ b o, b ≠ h3.objs.size → s'.heap.get? b = some o → h5.get? b = some o := fun b o nb e => (hsb.2 b nb).trans e
  have ltC : ∀ b o, s2.heap.get? b = some o → b ≠ h3.objs.size := fun b o e => Nat.ne_of_lt (by rw [hCe]; exact Nat.lt_succ_of_lt (Heap.lt_size e))
  have nC : ∀ b u, H' b = some u → b ≠ h3.objs.size := fun b u e z => by
   have z2 : H' h3.objs.size = none := I'.free
   rw [z, z2] at e; cases e
  have B := I'.base
  refine I2.call' (s' := { s' with heap := h5 }) (ch := fp) (show s'.os = s2.os from I'.os) ⟨fun b o e nn hb hx => kk b o (ltC b o e) (B.keep b o e nn hb hx), fun b o e nn hb hx => ?_, B.free, fun b o e hx => ?_, B.tups, B.frzs, B.tbls⟩ (fun b u e => ?_) I'.bare fun b hb => ?_
  ·obtain ⟨sl, q⟩ := B.slot b o e nn hb hx
   exact ⟨sl, kk b _ (ltC b o e) q⟩
  ·obtain ⟨o', q⟩ := B.there b o e hx
   exact ⟨o', kk b _ (ltC b o e) q⟩
  ·refine (I'.hok b u e).stay (fun c v hc q => kk c v ?_ q) (fun _ q => q) fun _ _ q => q
   rcases hc with z | z
   ·rw [z]; exact nC b u e
   ·exact nC c _ z
  ·obtain ⟨p1, p2, p3, p4, p5, p6⟩ := f2 b hb
   exact ⟨p4, p2, p5, p6⟩
 have loop : ∀ s4 : Shared, s4 = { s2 with heap := h4, toks := s2.toks + ([] : List (Str × Value)).length } →
   codeAny (model X.prog X.w) X.A (.compLoop (.ListComp elt [⟨tg, iter, ifs, 0⟩] scope pos) 0 (.ref it) (.ref s2.heap.objs.size) (compEnvC scope cl h3.objs.size X.env)) (compPost (model X.prog X.w) X.A X.xe none (EP X pins σ Q) (.ref s2.heap.objs.size) h3.objs.size) s4 := by
  rintro s4 rfl
  refine a57 (fun m s' => ∃ i H', Inv (blk X N' scope cl h3.objs.size s2 H2 fp) [] (A2 n idx σ) H' s' ∧ tn i s'.heap ∧ (∀ b ∈ fp, H' b = none) ∧ W i m H') ?_ m0 ⟨0, _, I4, T.keep _ _ _ st2 (fun b _ o e => keep b o e), fr4, w0⟩
  rintro m s3 ⟨i, H3, I3, st3, fr3, w3⟩
  rcases turn i m H3 w3 with ⟨stop, q⟩ | ⟨go, step⟩
  ·refine wpAny_mono (T.done (blk X N' scope cl h3.objs.size s2 H2 fp) rfl rfl rfl hc i [] s3 _ H3 (fun _ _ => False) I3 (stat fr3) st3 stop) (fun r s5 ⟨hr, I5⟩ => ?_) fun _ _ z => z.elim
   subst hr
   exact fin s5 H3 I5 q
  ·refine wpAny_mono (T.item (blk X N' scope cl h3.objs.size s2 H2 fp) rfl rfl rfl hc i [] s3 _ H3 (fun _ _ => False) I3 (stat fr3) st3 go) (fun r s5 ⟨u, hr, h5⟩ => ?_) fun _ _ z => z.elim
   subst hr
   refine wpAny_mono h5 (fun _ s6 ⟨x, H6, I6, r6, y6, st6, fr6⟩ => ?_) fun _ _ z => z.elim
   have I6' := I6.pinned (stat fr6) (T.obj _ _ st6)
   have again : ∀ {σ7 : St} {H7 : Hp} {s7 : Shared}, Inv (blk X N' scope cl h3.objs.size s2 H2 fp) ([] ++ Y0 fp s6.heap) σ7 H7 s7 → σ7.length = (A2 n idx σ).length → (∀ (j : Nat) v, (A2 n idx σ)[j]? = some (some v) → σ7[j]? = some (some v)) → (∃ m', m' < m ∧ W (i + 1) m' H7) →
     ∃ m', m' < m ∧ ∃ i H', Inv (blk X N' scope cl h3.objs.size s2 H2 fp) [] (A2 n idx σ) H' s7 ∧ tn i s7.heap ∧ (∀ b ∈ fp, H' b = none) ∧ W i m' H' := fun {σ7 H7 s7} I7 hl hw ⟨m', hm, w7⟩ => by
    refine ⟨m', hm, i + 1, H7, (I7.unpinned).weak hl.symm hw, T.keep _ _ _ st6 fun b hb o e => (I7.pin (b, o) (List.mem_append_right _ (List.mem_append_right _ (T6 hb e)))).1, fun b hb => ?_, w7⟩
    obtain ⟨o, e, d⟩ := T.obj _ _ st6 b hb
    exact (I7.pin (b, o) (List.mem_append_right _ (List.mem_append_right _ (T6 hb e)))).2.1
   refine wpAny_mono (hg _ _ _ _ _ s6 _ H6 x u _ I6' r6 (step x H6 y6)) (fun _ s7 ⟨σ7, H7, I7, ⟨hl, hw⟩, q7⟩ => ?_) fun _ _ z => z.elim
   refine wpAny_mono (ht _ _ _ _ _ s7 σ7 H7 _ I7 q7) (fun ok s8 ⟨H8, I8, q8⟩ => ?_) fun _ _ z => z.elim
   cases ok with
   | false =>
    rw [if_neg Bool.false_ne_true] at q8 ⊢
    exact again I8 hl hw q8
   | true =>
    rw [if_pos rfl] at q8 ⊢
    refine wpAny_mono (he _ _ _ _ _ s8 σ7 H8 _ I8 q8) (fun v9 s9 ⟨x9, H9, I9, r9, ys, e9, l9, q9⟩ => ?_) fun _ _ z => z.elim
    refine wpAny_mono (a3k (X := blk X N' scope cl h3.objs.size s2 H2 fp) _ s9 σ7 H9 (.ref s2.heap.objs.size) [x9] (.ref s2.heap.objs.size) [v9] (fun _ H' => H' = upd H9 s2.heap.objs.size (.lst (ys ++ [x9]))) I9 rfl (.cons r9 .nil) ⟨s2.heap.objs.size, ys, x9, rfl, rfl, e9, l9, rfl⟩) (fun _ s10 ⟨_, H10, I10, _, e10⟩ => ?_) fun _ _ z => z.elim
    subst e10
    exact again I10 hl hw q9
 exact codeAny_compStart_list (loop _ rfl) (T.self _ 0 _ _ _ (T.keep _ _ _ st2 (fun b _ o e => keep b o e)) (loop _ rfl))
end
section
variable {X : Cx} {scope : Scope} {cl : List (Str × Addr)} {N' : List Str} {n : Nat} {idx : List Nat} {tg iter elt : Expr} {ifs : List Expr} {pos : Pos} {wi : TI} {g : TG} {tc : TT} {te : TE}
theorem b1t {use : Option (Value → Sem Unit)} {Q' : Value → Shared → Prop} {pos2 : Pos} (hc : X.calm = true) (k : CompOk X scope cl N' n idx) (hi : PI X tg iter wi)
  (hg : ∀ C s0 H0 ex, PG (blk X N' scope cl C s0 H0 ex) tg g) (ht : ∀ C s0 H0 ex, V8 (blk X N' scope cl C s0 H0 ex) ifs tc) (he : ∀ C s0 H0 ex, PE (blk X N' scope cl C s0 H0 ex) elt te)
  (hs : ∀ x, foldedSetIterable iter X.env x = pure x) {pins : List (Addr × Obj)} {s : Shared} {σ : St} {H : Hp} {Q : VK} (I0 : Inv X pins σ H s) (h : V9 n idx wi g tc te σ H Q)
  (last : ∀ (C D : Addr) (s' : Shared) (H' : Hp) (m : Str → Option Value), Inv X pins σ H' s' → J0 X pins H' C → s'.heap.Ns C m → Q (.ref D) H' → compPost (model X.prog X.w) X.A X.xe use Q' (.ref D) C (.ok .next) s') :
  wpAny (model X.prog X.w) X.A (comprehension (.ListComp elt [⟨tg, iter, ifs, 0⟩] scope pos) scope X.env pos2 (newList []) false (eval iter X.env) use) Q' X.xe s := by
 refine wpAny_comprehension_free (use := use) rfl hs k.clos k.kind k.names (thn (hi pins s σ H _ I0 h) fun v s1 h1 => thn h1 fun itv s2 h2 => ?_)
 obtain ⟨it, fp, tn, J, H2, e, I2, T, st2, f2, hW⟩ := h2
 subst e
 have fo2 : ∀ b ∈ fp, b < s2.heap.objs.size := fun b hb => by
  obtain ⟨o, e, _⟩ := T.obj _ _ st2 b hb
  exact Heap.lt_size e
 obtain ⟨W, ⟨m0, w0⟩, turn⟩ := hW s2.heap.objs.size (I2.hok.fresh (Nat.le_refl _))
 refine wpAny_newObj_type (wpAny_newFunctionEnv k.cell (by intro y hy; simp at hy) (fun h4 hns4 hsb4 => ?_) k.kind)
 dsimp only at hns4 hsb4 ⊢
 generalize hH3 : s2.heap.push { cls := .type "list", dict := none, data := .seq ([] : List Value).toArray } = h3 at hns4 hsb4 ⊢
 have hCe : h3.objs.size = s2.heap.objs.size + 1 := by rw [← hH3, Heap.size_push]
 have k34 : ∀ b o, b ≠ h3.objs.size → h3.get? b = some o → h4.get? b = some o := fun b o nb e => hsb4.extBut b o nb (Heap.get?_push_of_some _ e)
 have keep : ∀ b o, s2.heap.get? b = some o → h4.get? b = some o := fun b o e => k34 b o (Nat.ne_of_lt (by rw [hCe]; exact Nat.lt_succ_of_lt (Heap.lt_size e))) (by rw [← hH3]; exact Heap.get?_push_of_some _ e)
 have hD : h4.get? s2.heap.objs.size = some { cls := .type "list", data := .seq ([] : List Value).toArray } := k34 _ _ (Nat.ne_of_lt (by rw [hCe]; exact Nat.lt_succ_self _)) (by rw [← hH3]; exact Heap.get?_push_size _ rfl)
 have I4 := a7y k I2 f2 fo2 (Nat.le_of_eq hCe.symm) hns4 keep hD (t4 := s2.toks + ([] : List (Str × Value)).length)
 have stat : ∀ {H' : Hp}, (∀ b ∈ fp, H' b = none) → ∀ b ∈ fp, J0 (blk X N' scope cl h3.objs.size s2 H2 fp) [] H' b := fun hn b hb =>
  ⟨hn b hb, Nat.ne_of_lt (by rw [hCe]; exact Nat.lt_succ_of_lt (fo2 b hb)), fun z => (List.mem_cons.mp (I2.stkSub b z)).elim (f2 b hb).2.1 (f2 b hb).2.2.1, .inl hb, fun x c e => (f2 b hb).2.2.2.2.1 x c (k.sub x c e), fun p hp => (by cases hp)⟩
 have fr4 : ∀ b ∈ fp, upd H2 s2.heap.objs.size (.lst []) b = none := fun b hb => by rw [p8 (Nat.ne_of_lt (fo2 b hb))]; exact (f2 b hb).1
 have fin : ∀ (s' : Shared) (H' : Hp), Inv (blk X N' scope cl h3.objs.size s2 H2 fp) [] (A2 n idx σ) H' s' → Q (.ref s2.heap.objs.size) H' →
   compPost (model X.prog X.w) X.A X.xe use Q' (.ref s2.heap.objs.size) h3.objs.size (.ok .next) s' := fun s' H' I' q => by
  obtain ⟨m', hn', _⟩ := I'.loc
  have B := I'.base
  refine last _ _ s' H' m' ?_ (I2.fpOk (by rw [hCe]; exact Nat.le_succ _) I'.free) hn' q
  refine I2.call' (s' := s') (ch := fp) (show s'.os = s2.os from I'.os) ⟨fun b o e nn hb hx => B.keep b o e nn hb hx, fun b o e nn hb hx => B.slot b o e nn hb hx, B.free, fun b o e hx => B.there b o e hx, B.tups, B.frzs, B.tbls⟩ I'.hok I'.bare fun b hb => ?_
  obtain ⟨p1, p2, p3, p4, p5, p6⟩ := f2 b hb
  exact ⟨p4, p2, p5, p6⟩
 have loop : ∀ s4 : Shared, s4 = { s2 with heap := h4, toks := s2.toks + ([] : List (Str × Value)).length } →
   codeAny (model X.prog X.w) X.A (.compLoop (.ListComp elt [⟨tg, iter, ifs, 0⟩] scope pos) 0 (.ref it) (.ref s2.heap.objs.size) (compEnvC scope cl h3.objs.size X.env)) (compPost (model X.prog X.w) X.A X.xe use Q' (.ref s2.heap.objs.size) h3.objs.size) s4 := by
  rintro s4 rfl
  refine a57 (fun m s' => ∃ i H', Inv (blk X N' scope cl h3.objs.size s2 H2 fp) [] (A2 n idx σ) H' s' ∧ tn i s'.heap ∧ (∀ b ∈ fp, H' b = none) ∧ W i m H') ?_ m0 ⟨0, _, I4, T.keep _ _ _ st2 (fun b _ o e => keep b o e), fr4, w0⟩
  rintro m s3 ⟨i, H3, I3, st3, fr3, w3⟩
  rcases turn i m H3 w3 with ⟨stop, q⟩ | ⟨go, step⟩
  ·refine wpAny_mono (T.done (blk X N' scope cl h3.objs.size s2 H2 fp) rfl rfl rfl hc i [] s3 _ H3 (fun _ _ => False) I3 (stat fr3) st3 stop) (fun r s5 ⟨hr, I5⟩ => ?_) fun _ _ z => z.elim
   subst hr
   exact fin s5 H3 I5 q
  ·refine wpAny_mono (T.item (blk X N' scope cl h3.objs.size s2 H2 fp) rfl rfl rfl hc i [] s3 _ H3 (fun _ _ => False) I3 (stat fr3) st3 go) (fun r s5 ⟨u, hr, h5⟩ => ?_) fun _ _ z => z.elim
   subst hr
   refine wpAny_mono h5 (fun _ s6 ⟨x, H6, I6, r6, y6, st6, fr6⟩ => ?_) fun _ _ z => z.elim
   have I6' := I6.pinned (stat fr6) (T.obj _ _ st6)
   have again : ∀ {σ7 : St} {H7 : Hp} {s7 : Shared}, Inv (blk X N' scope cl h3.objs.size s2 H2 fp) ([] ++ Y0 fp s6.heap) σ7 H7 s7 → σ7.length = (A2 n idx σ).length → (∀ (j : Nat) v, (A2 n idx σ)[j]? = some (some v) → σ7[j]? = some (some v)) → (∃ m', m' < m ∧ W (i + 1) m' H7) →
     ∃ m', m' < m ∧ ∃ i H', Inv (blk X N' scope cl h3.objs.size s2 H2 fp) [] (A2 n idx σ) H' s7 ∧ tn i s7.heap ∧ (∀ b ∈ fp, H' b = none) ∧ W i m' H' := fun {σ7 H7 s7} I7 hl hw ⟨m', hm, w7⟩ => by
    refine ⟨m', hm, i + 1, H7, (I7.unpinned).weak hl.symm hw, T.keep _ _ _ st6 fun b hb o e => (I7.pin (b, o) (List.mem_append_right _ (List.mem_append_right _ (T6 hb e)))).1, fun b hb => ?_, w7⟩
    obtain ⟨o, e, d⟩ := T.obj _ _ st6 b hb
    exact (I7.pin (b, o) (List.mem_append_right _ (List.mem_append_right _ (T6 hb e)))).2.1
   refine wpAny_mono (hg _ _ _ _ _ s6 _ H6 x u _ I6' r6 (step x H6 y6)) (fun _ s7 ⟨σ7, H7, I7, ⟨hl, hw⟩, q7⟩ => ?_) fun _ _ z => z.elim
   refine wpAny_mono (ht _ _ _ _ _ s7 σ7 H7 _ I7 q7) (fun ok s8 ⟨H8, I8, q8⟩ => ?_) fun _ _ z => z.elim
   cases ok with
   | false =>
    rw [if_neg Bool.false_ne_true] at q8 ⊢
    exact again I8 hl hw q8
   | true =>
    rw [if_pos rfl] at q8 ⊢
    refine wpAny_mono (he _ _ _ _ _ s8 σ7 H8 _ I8 q8) (fun v9 s9 ⟨x9, H9, I9, r9, ys, e9, l9, q9⟩ => ?_) fun _ _ z => z.elim
    refine wpAny_mono (a3k (X := blk X N' scope cl h3.objs.size s2 H2 fp) _ s9 σ7 H9 (.ref s2.heap.objs.size) [x9] (.ref s2.heap.objs.size) [v9] (fun _ H' => H' = upd H9 s2.heap.objs.size (.lst (ys ++ [x9]))) I9 rfl (.cons r9 .nil) ⟨s2.heap.objs.size, ys, x9, rfl, rfl, e9, l9, rfl⟩) (fun _ s10 ⟨_, H10, I10, _, e10⟩ => ?_) fun _ _ z => z.elim
    subst e10
    exact again I10 hl hw q9
 exact codeAny_compStart_list (loop _ rfl) (T.self _ 0 _ _ _ (T.keep _ _ _ st2 (fun b _ o e => keep b o e)) (loop _ rfl))
theorem a68 {i : Nat} {y : Str} {py spos : Pos} (hN : X.N.Nodup) (hi' : X.N[i]? = some y) (hx : Loc X.env.scope y) (hc : X.calm = true) (k : CompOk X scope cl N' n idx) (hi : PI X tg iter wi)
  (hg : ∀ C s0 H0 ex, PG (blk X N' scope cl C s0 H0 ex) tg g) (ht : ∀ C s0 H0 ex, V8 (blk X N' scope cl C s0 H0 ex) ifs tc) (he : ∀ C s0 H0 ex, PE (blk X N' scope cl C s0 H0 ex) elt te)
  (hs : ∀ x, foldedSetIterable iter X.env x = pure x := by intro _; rfl) (hsw : swapsWith (.ListComp elt [⟨tg, iter, ifs, 0⟩] scope pos) (some (.Name y py)) spos.line X.env = pure true := by rfl)
  (hf : X.fn y = true ∨ X.env.scope.names.lookup y = some .local := by first | exact .inl rfl | exact .inr rfl | assumption) :
  PS X (.Assign [.Name y py] (.ListComp elt [⟨tg, iter, ifs, 0⟩] scope pos) spos) (Z7 (V9 n idx wi g tc te) (K9 i)) := by
 intro pins s σ H D I h
 rw [exec_Assign_Name_used _ _ _ _ hsw]
 refine wpAny_bind (wpAny_standAt (wpAny_bind ?_))
 show wpAny _ X.A (do let _ ← comprehension (.ListComp elt [⟨tg, iter, ifs, 0⟩] scope pos) scope X.env _ (newList []) false (eval iter X.env) (some (assign (.Name y py) X.env))) _ _ s
 refine wpAny_bind (wpAny_mono (b1t (use := some (assign (.Name y py) X.env)) (Q' := fun _ s' => SP X pins D .next s') hc k hi hg ht he hs I h ?_) (fun _ s' hq => wpAny_pure (wpAny_pure hq)) fun _ _ e => e)
 intro C D' s' H' m IX fC hn q
 show wpAny _ X.A (assign (.Name y py) X.env (.ref D')) _ _ _
 obtain ⟨o, es, ep, ho, hd, hr⟩ := hn
 have IP := IX.pinned (fp := [C]) (fun b hb => by rw [List.mem_singleton.mp hb]; exact fC) (fun b hb => by rw [List.mem_singleton.mp hb]; exact ⟨o, ho, fun v z => by rw [hd] at z; cases z⟩)
 refine wpAny_mono (t6 hN hi' hx hf _ s' σ H' (.ref D') (.ref D') D.nx IP rfl q) (fun _ s'' ⟨σ2, H2, I2, q2⟩ => ?_) fun _ _ e => e
 have pn := I2.pin (C, o) (List.mem_append_right _ (List.mem_append_right _ (T6 (List.mem_singleton.mpr rfl) ho)))
 refine ⟨m, ⟨o, es, ep, pn.1, hd, hr⟩, fun h' hsb => ⟨σ2, H2, ?_, q2⟩⟩
 have It := I2.unpinned.turned (t' := s''.toks) (it := C) (h' := h') (fun b o nb e => (hsb.2 b nb).trans e) pn.2.1 fC.2.1 fC.2.2.2.1 fC.2.2.2.2.1 fC.2.2.2.2.2
 exact It
end
end L2
namespace DL
open PySem PySem.Spec L2
inductive D where
 | non | bl (b : Bool) | int (i : Int) | str (x : Str) | tup (ds : List D) | lst (ds : List D)
 | feed | scr (ns : List Int)
mutual
noncomputable def D.py : D → PyData
 | .non => .none
 | .bl b => .bool b
 | .int i => .int i
 | .str x => .str x
 | .tup ds => .tuple (D.pys ds)
 | .lst ds => .list (D.pys ds)
 | .feed => .none
 | .scr _ => .none
noncomputable def D.pys : List D → List PyData
 | [] => []
 | d :: r => D.py d :: D.pys r
end
mutual
noncomputable def D.plain : D → Bool
 | .non => true
 | .bl _ => true
 | .int _ => true
 | .str _ => true
 | .tup ds => D.plains ds
 | .lst ds => D.plains ds
 | .feed => false
 | .scr _ => false
noncomputable def D.plains : List D → Bool
 | [] => true
 | d :: r => D.plain d && D.plains r
end
structure FS where
 cells : List Int
 pos : Int
 left : Int
 turn : Int
 kind : Nat
noncomputable def E9 (c : Addr) (f : FS) : List V := if f.kind = 1 then [V.ref c, V.int f.pos, V.int f.left] else [V.ref c, V.int f.pos, V.int f.left, V.int f.turn]
noncomputable def fho (c : Addr) (f : FS) : HO := if f.kind = 0 then .dK [(Sum.inr ("cells" : Str), V.ref c), (Sum.inr ("at" : Str), V.int f.pos), (Sum.inr ("left" : Str), V.int f.left), (Sum.inr ("turn" : Str), V.int f.turn)] else .lst (E9 c f)
theorem a2W {c : Addr} {f : FS} (h : ¬ f.kind = 0) : fho c f = .lst (E9 c f) := if_neg h
theorem b2c {c : Addr} {f : FS} {xs : List V} (h : fho c f = .tup xs) : False := by unfold fho at h; split at h <;> cases h
theorem a8z {c : Addr} {f : FS} {o : Obj} {u : HO} (h : fho c f = .frz o u) : False := by unfold fho at h; split at h <;> cases h
noncomputable def FeedR (N : Addr → Prop) (H : Hp) : Option Addr → Option FS → Prop
 | none, none => True
 | some a, some f => f.cells.length ≤ 63 ∧ ∃ c, H a = some (fho c f) ∧ ¬ N c ∧ H c = some (.lst (f.cells.map V.int))
 | _, _ => False
noncomputable def SqF (K : PySem.W.Frag) (H : Hp) (a : Addr) (xs : List V) : Prop :=
 (∃ o, H a = some (.frz o (.lst xs))) ∨
  ∃ (o : Obj) (its : Array Value) (n : Nat), K.lookup a = some o ∧ o.cls = .type "list" ∧ o.dict = none ∧ o.data = .seq its n ∧ its.size ≤ sizeLine ∧ Vals xs its.toList
theorem SqF.sq {K : PySem.W.Frag} {H : Hp} {a : Addr} {xs : List V} (h : SqF K H a xs) : SqL K H a xs := by
 rcases h with ⟨o, h⟩ | h
 ·exact .inl (.inr ⟨o, h⟩)
 ·exact .inr h
mutual
noncomputable def Rep (K : PySem.W.Frag) (N : Addr → Prop) (fa : Option Addr) (H : Hp) : D → V → Prop
 | .non, v => v = .non
 | .bl b, v => v = .bl b
 | .int i, v => v = .int i
 | .str x, v => v = .str x ∧ x.length ≤ sizeLine
 | .tup ds, v => ∃ a xs, v = .ref a ∧ SqT K H a xs ∧ Reps K N fa H ds xs
 | .lst ds, v => ∃ a xs, v = .ref a ∧ ¬ N a ∧ H a = some (.lst xs) ∧ Reps K N fa H ds xs
 | .feed, v => ∃ a, fa = some a ∧ v = .ref a
 | .scr ns, v => ns.length ≤ 63 ∧ ∃ a, v = .ref a ∧ SqF K H a (ns.map V.int)
noncomputable def Reps (K : PySem.W.Frag) (N : Addr → Prop) (fa : Option Addr) (H : Hp) : List D → List V → Prop
 | [], xs => xs = []
 | d :: r, xs => ∃ x ys, xs = x :: ys ∧ Rep K N fa H d x ∧ Reps K N fa H r ys
end
noncomputable def RepB (K : PySem.W.Frag) (N : Addr → Prop) (fa : Option Addr) (H : Hp) : D → V → Prop
 | .lst ds, v => ∃ a xs, v = .ref a ∧ fa ≠ some a ∧ H a = some (.lst xs) ∧ Reps K N fa H ds xs
 | d, v => Rep K N fa H d v
noncomputable def R0 (K : PySem.W.Frag) (N : Addr → Prop) (fa : Option Addr) (H : Hp) : List D → List V → Prop
 | [], xs => xs = []
 | d :: r, xs => ∃ x ys, xs = x :: ys ∧ RepB K N fa H d x ∧ R0 K N fa H r ys
structure Car (K : PySem.W.Frag) (N : Addr → Prop) (fa : Option Addr) (H : Hp) (N' : Addr → Prop) (fa' : Option Addr) (H' : Hp) : Prop where
 ls : ∀ b xs, ¬ N b → H b = some (.lst xs) → H' b = some (.lst xs) ∧ ¬ N' b
 tp : ∀ b xs, SqT K H b xs → SqT K H' b xs
 fz : ∀ b xs, SqF K H b xs → SqF K H' b xs
 fe : ∀ a, fa = some a → fa' = some a
section
variable {K : PySem.W.Frag} {N N' : Addr → Prop} {fa fa' : Option Addr} {H H' : Hp}
mutual
theorem Rep.go (c : Car K N fa H N' fa' H') : ∀ (d : D) (v : V), Rep K N fa H d v → Rep K N' fa' H' d v
 | .non, v, h => by simpa only [Rep] using h
 | .bl b, v, h => by simpa only [Rep] using h
 | .int i, v, h => by simpa only [Rep] using h
 | .str x, v, h => by simpa only [Rep] using h
 | .tup ds, v, h => by
  simp only [Rep] at h ⊢
  obtain ⟨a, xs, e, q, r⟩ := h
  exact ⟨a, xs, e, c.tp a xs q, Reps.go c ds xs r⟩
 | .lst ds, v, h => by
  simp only [Rep] at h ⊢
  obtain ⟨a, xs, e, n, q, r⟩ := h
  obtain ⟨q', n'⟩ := c.ls a xs n q
  exact ⟨a, xs, e, n', q', Reps.go c ds xs r⟩
 | .feed, v, h => by
  simp only [Rep] at h ⊢
  obtain ⟨a, e, q⟩ := h
  exact ⟨a, c.fe a e, q⟩
 | .scr ns, v, h => by
  simp only [Rep] at h ⊢
  obtain ⟨l, a, e, q⟩ := h
  exact ⟨l, a, e, c.fz a _ q⟩
theorem Reps.go (c : Car K N fa H N' fa' H') : ∀ (ds : List D) (xs : List V), Reps K N fa H ds xs → Reps K N' fa' H' ds xs
 | [], xs, h => by simpa only [Reps] using h
 | d :: r, xs, h => by
  simp only [Reps] at h ⊢
  obtain ⟨x, ys, e, h1, h2⟩ := h
  exact ⟨x, ys, e, Rep.go c d x h1, Reps.go c r ys h2⟩
end
theorem Rep.b (hN : ∀ a, fa = some a → N a) {d : D} {v : V} (h : Rep K N fa H d v) : RepB K N fa H d v := by
 cases d with
 | lst ds =>
  simp only [Rep] at h
  obtain ⟨a, xs, e, n, q, r⟩ := h
  exact ⟨a, xs, e, fun z => n (hN a z), q, r⟩
 | _ => simpa only [RepB] using h
noncomputable def N7 (K : PySem.W.Frag) (N : Addr → Prop) (fa : Option Addr) (H : Hp) : D → V → Prop
 | .lst ds, v => ∃ a xs, v = .ref a ∧ H a = some (.lst xs) ∧ Reps K N fa H ds xs
 | d, v => Rep K N fa H d v
theorem Rep.o {d : D} {v : V} (h : Rep K N fa H d v) : N7 K N fa H d v := by
 cases d with
 | lst ds =>
  simp only [Rep] at h
  obtain ⟨a, xs, e, _, q, r⟩ := h
  exact ⟨a, xs, e, q, r⟩
 | _ => simpa only [N7] using h
theorem RepB.o {d : D} {v : V} (h : RepB K N fa H d v) : N7 K N fa H d v := by
 cases d with
 | lst ds =>
  obtain ⟨a, xs, e, _, q, r⟩ := h
  exact ⟨a, xs, e, q, r⟩
 | _ => simpa only [N7, RepB] using h
theorem Reps.length : ∀ {ds : List D} {xs : List V}, Reps K N fa H ds xs → xs.length = ds.length
 | [], xs, h => by simp only [Reps] at h; subst h; rfl
 | d :: r, xs, h => by
  simp only [Reps] at h
  obtain ⟨x, ys, e, h1, h2⟩ := h
  subst e
  simp [Reps.length h2]
theorem Reps.get : ∀ {ds : List D} {xs : List V} {i : Nat} {d : D}, Reps K N fa H ds xs → ds[i]? = some d → ∃ x, xs[i]? = some x ∧ Rep K N fa H d x
 | [], xs, i, d, h, e => by simp at e
 | d :: r, xs, 0, d', h, e => by
  simp only [Reps] at h
  obtain ⟨x, ys, e1, h1, h2⟩ := h
  simp at e
  subst e1; subst e
  exact ⟨x, rfl, h1⟩
 | d :: r, xs, i + 1, d', h, e => by
  simp only [Reps] at h
  obtain ⟨x, ys, e1, h1, h2⟩ := h
  subst e1
  obtain ⟨y, e2, h3⟩ := Reps.get h2 (by simpa using e)
  exact ⟨y, by simpa using e2, h3⟩
theorem Reps.get' : ∀ {ds : List D} {xs : List V} {i : Nat} {x : V}, Reps K N fa H ds xs → xs[i]? = some x → ∃ d, ds[i]? = some d ∧ Rep K N fa H d x := fun {ds xs i x} h e => by
 have hl := h.length
 have hi : i < xs.length := (List.getElem?_eq_some_iff.mp e).1
 obtain ⟨y, e2, h3⟩ := Reps.get h (List.getElem?_eq_getElem (show i < ds.length by omega))
 rw [e] at e2; cases e2
 exact ⟨_, List.getElem?_eq_getElem (show i < ds.length by omega), h3⟩
theorem Reps.append : ∀ {ds es : List D} {xs ys : List V}, Reps K N fa H ds xs → Reps K N fa H es ys → Reps K N fa H (ds ++ es) (xs ++ ys)
 | [], es, xs, ys, h, q => by simp only [Reps] at h; subst h; simpa using q
 | d :: r, es, xs, ys, h, q => by
  simp only [Reps] at h
  obtain ⟨x, zs, e1, h1, h2⟩ := h
  subst e1
  simp only [List.cons_append, Reps]
  exact ⟨x, _, rfl, h1, Reps.append h2 q⟩
theorem Reps.one {d : D} {x : V} (h : Rep K N fa H d x) : Reps K N fa H [d] [x] := by
 simp only [Reps]
 exact ⟨x, [], rfl, h, rfl⟩
theorem Reps.nil : Reps K N fa H [] [] := by simp only [Reps]
theorem Reps.take : ∀ {ds : List D} {xs : List V} (n : Nat), Reps K N fa H ds xs → Reps K N fa H (ds.take n) (xs.take n)
 | _, _, 0, _ => by simp only [List.take_zero, Reps]
 | [], xs, n + 1, h => by simp only [Reps] at h; subst h; simp only [List.take_nil, Reps]
 | d :: r, xs, n + 1, h => by
  simp only [Reps] at h
  obtain ⟨x, zs, e1, h1, h2⟩ := h
  subst e1
  simp only [List.take_succ_cons, Reps]
  exact ⟨x, _, rfl, h1, Reps.take n h2⟩
theorem Reps.drop : ∀ {ds : List D} {xs : List V} (n : Nat), Reps K N fa H ds xs → Reps K N fa H (ds.drop n) (xs.drop n)
 | _, _, 0, h => by simpa using h
 | [], xs, n + 1, h => by simp only [Reps] at h; subst h; simp only [List.drop_nil, Reps]
 | d :: r, xs, n + 1, h => by
  simp only [Reps] at h
  obtain ⟨x, zs, e1, h1, h2⟩ := h
  subst e1
  simpa using Reps.drop n h2
theorem Reps.ints : ∀ {ns : List Int}, Reps K N fa H (ns.map D.int) (ns.map V.int)
 | [] => by simp only [List.map_nil, Reps]
 | n :: r => by
  simp only [List.map_cons, Reps, Rep]
  exact ⟨_, _, rfl, rfl, Reps.ints⟩
theorem Reps.reverse : ∀ {ds : List D} {xs : List V}, Reps K N fa H ds xs → Reps K N fa H ds.reverse xs.reverse
 | [], xs, h => by simp only [Reps] at h; subst h; simp only [List.reverse_nil, Reps]
 | d :: r, xs, h => by
  simp only [Reps] at h
  obtain ⟨x, zs, e1, h1, h2⟩ := h
  subst e1
  simp only [List.reverse_cons]
  exact Reps.append (Reps.reverse h2) (Reps.one h1)
end
inductive Sl where
 | no | val (d : D) | own (ds : List D)
structure DS where
 sl : List Sl
 fs : Option FS
noncomputable def NN (F : Addr → Prop) (fa : Option Addr) (O : List Addr) : Addr → Prop := fun b => F b ∨ b ∈ O ∨ fa = some b
noncomputable def SlR (K : PySem.W.Frag) (N : Addr → Prop) (fa : Option Addr) (H : Hp) : List Sl → List (Option V) → List Addr → Prop
 | [], σ, O => σ = [] ∧ O = []
 | .no :: r, σ, O => ∃ v τ, σ = v :: τ ∧ SlR K N fa H r τ O
 | .val d :: r, σ, O => ∃ u τ, σ = some u :: τ ∧ Rep K N fa H d u ∧ SlR K N fa H r τ O
 | .own ds :: r, σ, O => ∃ a xs τ P, σ = some (.ref a) :: τ ∧ O = a :: P ∧ H a = some (.lst xs) ∧ Reps K N fa H ds xs ∧ SlR K N fa H r τ P
structure Stp (fa : Option Addr) (O : List Addr) (H : Hp) (fa' : Option Addr) (O' : List Addr) (H' : Hp) : Prop where
 sub : ∀ b ∈ O', b ∈ O ∨ H b = none
 fe : fa' = fa ∨ (fa = none ∧ ∀ a, fa' = some a → H a = none)
 same : ∀ b u, H b = some u → b ∉ O → fa ≠ some b → H' b = some u
 mon : ∀ b, H' b = none → H b = none
structure StE (fa : Option Addr) (O : List Addr) (H : Hp) (fa' : Option Addr) (O' : List Addr) (H' : Hp) : Prop where
 sub : ∀ b ∈ O', b ∈ O
 fe : fa' = fa ∨ (fa = none ∧ ∀ a, fa' = some a → H a = none)
 same : ∀ b u, H b = some u → fa ≠ some b → H' b = some u
 mon : ∀ b, H' b = none → H b = none
structure DI (K : PySem.W.Frag) (F : Addr → Prop) (H0 : Hp) (fa0 : Option Addr) (σ : St) (H : Hp) (fa : Option Addr) (O : List Addr) (s : DS) : Prop where
 nd : O.Nodup
 sl : SlR K (NN F fa O) fa H s.sl σ O
 fr : ∀ b ∈ O, H0 b = none
 st : Stp fa0 [] H0 fa [] H
 tr : ∀ b, F b → H0 b ≠ none
 ff : ∀ a, fa0 = some a → F a
 fd : FeedR (NN F fa O) H fa s.fs
 nf : ∀ a, fa = some a → a ∉ O
section
variable {fa fa' fa'' : Option Addr} {O O' O'' : List Addr} {H H' H'' : Hp}
theorem StE.stp (h : StE fa O H fa' O' H') : Stp fa O H fa' O' H' := ⟨fun b hb => .inl (h.sub b hb), h.fe, fun b u e _ n => h.same b u e n, h.mon⟩
theorem StE.refl : StE fa O H fa O H := ⟨fun _ h => h, .inl rfl, fun _ _ e _ => e, fun _ h => h⟩
theorem Stp.refl : Stp fa O H fa O H := StE.refl.stp
theorem StE.trans (a : StE fa O H fa' O' H') (b : StE fa' O' H' fa'' O'' H'') : StE fa O H fa'' O'' H'' := by
 refine ⟨fun c hc => a.sub c (b.sub c hc), ?_, fun c u e n => ?_, fun c h => a.mon c (b.mon c h)⟩
 ·rcases a.fe with e | ⟨e, h⟩
  ·rcases b.fe with e' | ⟨e', h'⟩
   ·exact .inl (e'.trans e)
   ·exact .inr ⟨e ▸ e', fun c z => a.mon c (h' c z)⟩
  ·rcases b.fe with e' | ⟨e', h'⟩
   ·exact .inr ⟨e, fun c z => h c (e' ▸ z)⟩
   ·exact .inr ⟨e, fun c z => a.mon c (h' c z)⟩
 ·refine b.same c u (a.same c u e n) fun z => ?_
  rcases a.fe with q | ⟨q, h⟩
  ·rw [q] at z; exact n z
  ·rw [h c z] at e; cases e
theorem Stp.trans (a : Stp fa O H fa' O' H') (b : Stp fa' O' H' fa'' O'' H'') : Stp fa O H fa'' O'' H'' := by
 refine ⟨fun c hc => ?_, ?_, fun c u e hc n => ?_, fun c h => a.mon c (b.mon c h)⟩
 ·rcases b.sub c hc with q | q
  ·exact a.sub c q
  ·exact .inr (a.mon c q)
 ·rcases a.fe with e | ⟨e, h⟩
  ·rcases b.fe with e' | ⟨e', h'⟩
   ·exact .inl (e'.trans e)
   ·exact .inr ⟨e ▸ e', fun c z => a.mon c (h' c z)⟩
  ·rcases b.fe with e' | ⟨e', h'⟩
   ·exact .inr ⟨e, fun c z => h c (e' ▸ z)⟩
   ·exact .inr ⟨e, fun c z => a.mon c (h' c z)⟩
 ·refine b.same c u (a.same c u e hc n) (fun z => ?_) fun z => ?_
  ·rcases a.sub c z with q | q
   ·exact hc q
   ·rw [q] at e; cases e
  ·rcases a.fe with q | ⟨q, h⟩
   ·rw [q] at z; exact n z
   ·rw [h c z] at e; cases e
theorem Stp.fa_keep (a : Stp fa O H fa' O' H') {x : Addr} (h : fa = some x) : fa' = some x := by
 rcases a.fe with e | ⟨e, _⟩
 ·rw [e, h]
 ·rw [h] at e; cases e
variable {K : PySem.W.Frag} {F : Addr → Prop} {H0 : Hp} {fa0 : Option Addr} {σ : St} {s : DS}
theorem FeedR.no_frz {N : Addr → Prop} {fs : Option FS} {a : Addr} {o : Obj} {u : HO} (h : FeedR N H fa fs) (e : fa = some a) (q : H a = some (.frz o u)) : False := by
 subst e
 cases fs with
 | none => exact h
 | some f =>
  obtain ⟨_, c, h1, _⟩ := h
  rw [h1] at q; exact a8z (Option.some.inj q)
theorem FeedR.no_tup {N : Addr → Prop} {fs : Option FS} {a : Addr} {xs : List V} (h : FeedR N H fa fs) (e : fa = some a) (z : Rd H a (.tup xs)) : False := by
 rcases z with z | ⟨o, z⟩
 ·subst e
  cases fs with
  | none => exact h
  | some f =>
   obtain ⟨_, c, h1, _⟩ := h
   rw [h1] at z; exact b2c (Option.some.inj z)
 ·exact h.no_frz e z
theorem FeedR.tracked {N : Addr → Prop} {fs : Option FS} {a : Addr} (h : FeedR N H fa fs) (e : fa = some a) : H a ≠ none := by
 subst e
 cases fs with
 | none => exact h.elim
 | some f =>
  obtain ⟨_, c, h1, _⟩ := h
  rw [h1]; simp
theorem SqT.stp' (a : Stp fa O H fa' O' H') (hf : ∀ x, fa = some x → ∀ xs, ¬ Rd H x (.tup xs)) (hO : ∀ x ∈ O, ∀ xs, ¬ Rd H x (.tup xs)) {b : Addr} {xs : List V} (h : SqT K H b xs) : SqT K H' b xs := by
 rcases h with h | h
 ·refine .inl ?_
  have n1 : b ∉ O := fun z => hO b z xs h
  have n2 : fa ≠ some b := fun z => hf b z xs h
  rcases h with h | ⟨o, h⟩
  ·exact .inl (a.same _ _ h n1 n2)
  ·exact .inr ⟨o, a.same _ _ h n1 n2⟩
 ·exact .inr h
theorem SlR.owned : ∀ {sl : List Sl} {N : Addr → Prop} {σ : List (Option V)} {O : List Addr}, SlR K N fa H sl σ O → ∀ b ∈ O, ∃ xs, H b = some (.lst xs)
 | [], N, σ, O, h, b, hb => by simp only [SlR] at h; rw [h.2] at hb; cases hb
 | .no :: r, N, σ, O, h, b, hb => by
  simp only [SlR] at h
  obtain ⟨v, τ, _, h⟩ := h
  exact SlR.owned h b hb
 | .val d :: r, N, σ, O, h, b, hb => by
  simp only [SlR] at h
  obtain ⟨v, τ, _, _, h⟩ := h
  exact SlR.owned h b hb
 | .own ds :: r, N, σ, O, h, b, hb => by
  simp only [SlR] at h
  obtain ⟨a, xs, τ, P, _, rfl, e, _, h⟩ := h
  rcases List.mem_cons.mp hb with z | z
  ·subst z; exact ⟨xs, e⟩
  ·exact SlR.owned h b z
theorem DI.owned (I : DI K F H0 fa0 σ H fa O s) {b : Addr} (hb : b ∈ O) : ∃ xs, H b = some (.lst xs) := SlR.owned I.sl b hb
theorem DI.trF (I : DI K F H0 fa0 σ H fa O s) {b : Addr} (hb : F b) : H b ≠ none := fun z => I.tr b hb (I.st.mon b z)
theorem DI.nn_tracked (I : DI K F H0 fa0 σ H fa O s) {b : Addr} (h : NN F fa O b) : H b ≠ none := by
 rcases h with h | h | h
 ·exact I.trF h
 ·obtain ⟨xs, e⟩ := I.owned h
  rw [e]; simp
 ·exact I.fd.tracked h
theorem DI.nf_step (I : DI K F H0 fa0 σ H fa O s) (h : fa' = fa ∨ (fa = none ∧ ∀ a, fa' = some a → H a = none)) : ∀ a, fa' = some a → a ∉ O := fun a e m => by
 rcases h with z | ⟨z, y⟩
 ·rw [z] at e; exact I.nf a e m
 ·obtain ⟨xs, q⟩ := I.owned m
  rw [y a e] at q; cases q
theorem DI.car (I : DI K F H0 fa0 σ H fa O s) (a : Stp fa O H fa' O' H') : Car K (NN F fa O) fa H (NN F fa' O') fa' H' := by
 have nt : ∀ x xs, H x = some (.lst xs) → ∀ ys, ¬ Rd H x (.tup ys) := fun x xs e ys z => by
  rcases z with z | ⟨o, z⟩ <;> · rw [e] at z; cases z
 refine ⟨fun b xs n q => ?_, fun b xs q => ?_, fun b xs q => ?_, fun x e => a.fa_keep e⟩
 ·have n1 : b ∉ O := fun z => n (.inr (.inl z))
  have n2 : fa ≠ some b := fun z => n (.inr (.inr z))
  have tr : H b ≠ none := by rw [q]; simp
  refine ⟨a.same _ _ q n1 n2, fun z => ?_⟩
  ·rcases z with z | z | z
   ·exact n (.inl z)
   ·rcases a.sub b z with y | y
    ·exact n1 y
    ·exact tr y
   ·rcases a.fe with e | ⟨e, h⟩
    ·rw [e] at z; exact n2 z
    ·exact tr (h b z)
 ·refine SqT.stp' a (fun x e ys z => ?_) (fun x hx ys => ?_) q
  ·exact I.fd.no_tup e z
  ·obtain ⟨xs, e⟩ := I.owned hx
   exact nt x xs e ys
 ·rcases q with ⟨o, q⟩ | q
  ·refine .inl ⟨o, a.same _ _ q (fun z => ?_) fun z => ?_⟩
   ·obtain ⟨ys, e⟩ := I.owned z
    rw [e] at q; cases q
   ·exact I.fd.no_frz z q
  ·exact .inr q
end
structure Gh where
 F : Addr → Prop
 H0 : Hp
 fa0 : Option Addr
noncomputable abbrev GI (K : PySem.W.Frag) (g : Gh) := DI K g.F g.H0 g.fa0
section
variable {K : PySem.W.Frag} {N N' : Addr → Prop} {fa fa' : Option Addr} {H H' : Hp} {g : Gh} {σ : L2.St} {O O' : List Addr} {s : DS}
theorem SlR.go (c : Car K N fa H N' fa' H') : ∀ {sl : List Sl} {σ : List (Option V)} {O : List Addr}, (∀ a xs, a ∈ O → H a = some (.lst xs) → H' a = some (.lst xs)) → SlR K N fa H sl σ O → SlR K N' fa' H' sl σ O
 | [], σ, O, _, h => by simpa only [SlR] using h
 | .no :: r, σ, O, ho, h => by
  simp only [SlR] at h ⊢
  obtain ⟨v, τ, e, h⟩ := h
  exact ⟨v, τ, e, SlR.go c ho h⟩
 | .val d :: r, σ, O, ho, h => by
  simp only [SlR] at h ⊢
  obtain ⟨u, τ, e, q, h⟩ := h
  exact ⟨u, τ, e, Rep.go c d u q, SlR.go c ho h⟩
 | .own ds :: r, σ, O, ho, h => by
  simp only [SlR] at h ⊢
  obtain ⟨a, xs, τ, P, e, rfl, ha, q, h⟩ := h
  exact ⟨a, xs, τ, P, e, rfl, ho a xs (List.mem_cons_self ..) ha, Reps.go c ds xs q, SlR.go c (fun b ys hb => ho b ys (List.mem_cons_of_mem _ hb)) h⟩
theorem SlR.val : ∀ {sl : List Sl} {σ : List (Option V)} {O : List Addr} {i : Nat} {d : D}, SlR K N fa H sl σ O → sl[i]? = some (.val d) → ∃ u, σ[i]? = some (some u) ∧ Rep K N fa H d u
 | [], σ, O, i, d, h, e => by simp at e
 | .no :: r, σ, O, i, d, h, e => by
  simp only [SlR] at h
  obtain ⟨v, τ, rfl, h⟩ := h
  cases i with
  | zero => simp at e
  | succ i => simpa using SlR.val h (by simpa using e)
 | .val d' :: r, σ, O, i, d, h, e => by
  simp only [SlR] at h
  obtain ⟨u, τ, rfl, q, h⟩ := h
  cases i with
  | zero => simp at e; subst e; exact ⟨u, rfl, q⟩
  | succ i => simpa using SlR.val h (by simpa using e)
 | .own ds :: r, σ, O, i, d, h, e => by
  simp only [SlR] at h
  obtain ⟨a, xs, τ, P, rfl, rfl, ha, q, h⟩ := h
  cases i with
  | zero => simp at e
  | succ i => simpa using SlR.val h (by simpa using e)
theorem SlR.own : ∀ {sl : List Sl} {σ : List (Option V)} {O : List Addr} {i : Nat} {ds : List D}, SlR K N fa H sl σ O → sl[i]? = some (.own ds) → ∃ a xs, σ[i]? = some (some (.ref a)) ∧ a ∈ O ∧ H a = some (.lst xs) ∧ Reps K N fa H ds xs
 | [], σ, O, i, d, h, e => by simp at e
 | .no :: r, σ, O, i, d, h, e => by
  simp only [SlR] at h
  obtain ⟨v, τ, rfl, h⟩ := h
  cases i with
  | zero => simp at e
  | succ i => simpa using SlR.own h (by simpa using e)
 | .val d' :: r, σ, O, i, d, h, e => by
  simp only [SlR] at h
  obtain ⟨u, τ, rfl, q, h⟩ := h
  cases i with
  | zero => simp at e
  | succ i => simpa using SlR.own h (by simpa using e)
 | .own ds :: r, σ, O, i, d, h, e => by
  simp only [SlR] at h
  obtain ⟨a, xs, τ, P, rfl, rfl, ha, q, h⟩ := h
  cases i with
  | zero => simp at e; subst e; exact ⟨a, xs, rfl, List.mem_cons_self .., ha, q⟩
  | succ i =>
   obtain ⟨b, ys, e1, m, e2, q2⟩ := SlR.own h (by simpa using e)
   exact ⟨b, ys, by simpa using e1, List.mem_cons_of_mem _ m, e2, q2⟩
theorem SlR.put : ∀ {sl : List Sl} {σ : List (Option V)} {O : List Addr} (i : Nat) {d : D} {u : V}, SlR K N fa H sl σ O → Rep K N fa H d u →
  ∃ P, P.Sublist O ∧ SlR K N fa H (sl.set i (.val d)) (σ.set i (some u)) P ∧ (O.Nodup → ∀ a, sl[i]?.isSome = true → (∃ ds, sl[i]? = some (.own ds)) → σ[i]? = some (some (.ref a)) → a ∉ P)
 | [], σ, O, i, d, u, h, q => by
  simp only [SlR] at h
  refine ⟨O, List.Sublist.refl _, ?_, fun _ a z => by simp at z⟩
  rw [h.1, h.2]
  simp [SlR]
 | .no :: r, σ, O, i, d, u, h, q => by
  simp only [SlR] at h
  obtain ⟨v, τ, rfl, h⟩ := h
  cases i with
  | zero => exact ⟨O, List.Sublist.refl _, by simp only [List.set_cons_zero, SlR]; exact ⟨u, τ, rfl, q, h⟩, fun _ a _ z => by obtain ⟨ds, z⟩ := z; simp at z⟩
  | succ i =>
   obtain ⟨P, hs, h1, h2⟩ := SlR.put i h q
   exact ⟨P, hs, by simp only [List.set_cons_succ, SlR]; exact ⟨v, _, rfl, h1⟩, by simpa using h2⟩
 | .val d' :: r, σ, O, i, d, u, h, q => by
  simp only [SlR] at h
  obtain ⟨v, τ, rfl, qv, h⟩ := h
  cases i with
  | zero => exact ⟨O, List.Sublist.refl _, by simp only [List.set_cons_zero, SlR]; exact ⟨u, τ, rfl, q, h⟩, fun _ a _ z => by obtain ⟨ds, z⟩ := z; simp at z⟩
  | succ i =>
   obtain ⟨P, hs, h1, h2⟩ := SlR.put i h q
   exact ⟨P, hs, by simp only [List.set_cons_succ, SlR]; exact ⟨v, _, rfl, qv, h1⟩, by simpa using h2⟩
 | .own ds :: r, σ, O, i, d, u, h, q => by
  simp only [SlR] at h
  obtain ⟨a, xs, τ, P, rfl, rfl, ha, qv, h⟩ := h
  cases i with
  | zero =>
   refine ⟨P, List.sublist_cons_self .., by simp only [List.set_cons_zero, SlR]; exact ⟨u, τ, rfl, q, h⟩, fun nd b _ _ e => ?_⟩
   simp at e; subst e
   exact (List.nodup_cons.mp nd).1
  | succ i =>
   obtain ⟨P', hs, h1, h2⟩ := SlR.put i h q
   refine ⟨a :: P', hs.cons_cons a, by simp only [List.set_cons_succ, SlR]; exact ⟨a, xs, _, P', rfl, rfl, ha, qv, h1⟩, fun nd b e1 e2 e3 => ?_⟩
   have nd' := List.nodup_cons.mp nd
   have n1 := h2 nd'.2 b (by simpa using e1) (by simpa using e2) (by simpa using e3)
   intro z
   rcases List.mem_cons.mp z with z | z
   ·subst z
    obtain ⟨dz, e2⟩ := e2
    obtain ⟨b', _, e4, m, _⟩ := SlR.own h (i := i) (by simpa using e2)
    rw [List.getElem?_cons_succ] at e3
    rw [e3] at e4
    cases e4
    exact nd'.1 m
   ·exact n1 z
theorem SlR.putN : ∀ {sl : List Sl} {σ : List (Option V)} {O : List Addr} (i : Nat) {ds : List D} {p : Addr} {xs : List V}, SlR K N fa H sl σ O → i < sl.length → p ∉ O → O.Nodup → H p = some (.lst xs) → Reps K N fa H ds xs →
  ∃ P, (∀ b ∈ P, b = p ∨ b ∈ O) ∧ P.Nodup ∧ SlR K N fa H (sl.set i (.own ds)) (σ.set i (some (.ref p))) P
 | [], σ, O, i, ds, p, xs, h, hi, hp, nd, e, q => by simp at hi
 | .no :: r, σ, O, i, ds, p, xs, h, hi, hp, nd, e, q => by
  simp only [SlR] at h
  obtain ⟨v, τ, rfl, h⟩ := h
  cases i with
  | zero => exact ⟨p :: O, fun b hb => List.mem_cons.mp hb, List.nodup_cons.mpr ⟨hp, nd⟩, by simp only [List.set_cons_zero, SlR]; exact ⟨p, xs, τ, O, rfl, rfl, e, q, h⟩⟩
  | succ i =>
   obtain ⟨P, h1, h2, h3⟩ := SlR.putN i h (by simpa using hi) hp nd e q
   exact ⟨P, h1, h2, by simp only [List.set_cons_succ, SlR]; exact ⟨v, _, rfl, h3⟩⟩
 | .val d' :: r, σ, O, i, ds, p, xs, h, hi, hp, nd, e, q => by
  simp only [SlR] at h
  obtain ⟨v, τ, rfl, qv, h⟩ := h
  cases i with
  | zero => exact ⟨p :: O, fun b hb => List.mem_cons.mp hb, List.nodup_cons.mpr ⟨hp, nd⟩, by simp only [List.set_cons_zero, SlR]; exact ⟨p, xs, τ, O, rfl, rfl, e, q, h⟩⟩
  | succ i =>
   obtain ⟨P, h1, h2, h3⟩ := SlR.putN i h (by simpa using hi) hp nd e q
   exact ⟨P, h1, h2, by simp only [List.set_cons_succ, SlR]; exact ⟨v, _, rfl, qv, h3⟩⟩
 | .own ds' :: r, σ, O, i, ds, p, xs, h, hi, hp, nd, e, q => by
  simp only [SlR] at h
  obtain ⟨a, ys, τ, P, rfl, rfl, ha, qv, h⟩ := h
  have nd' := List.nodup_cons.mp nd
  cases i with
  | zero =>
   refine ⟨p :: P, fun b hb => (List.mem_cons.mp hb).imp id fun z => List.mem_cons_of_mem _ z, List.nodup_cons.mpr ⟨fun z => hp (List.mem_cons_of_mem _ z), nd'.2⟩, ?_⟩
   simp only [List.set_cons_zero, SlR]
   exact ⟨p, xs, τ, P, rfl, rfl, e, q, h⟩
  | succ i =>
   obtain ⟨P', h1, h2, h3⟩ := SlR.putN i h (by simpa using hi) (fun z => hp (List.mem_cons_of_mem _ z)) nd'.2 e q
   refine ⟨a :: P', fun b hb => ?_, List.nodup_cons.mpr ⟨fun z => ?_, h2⟩, by simp only [List.set_cons_succ, SlR]; exact ⟨a, ys, _, P', rfl, rfl, ha, qv, h3⟩⟩
   ·rcases List.mem_cons.mp hb with z | z
    ·exact .inr (by rw [z]; exact List.mem_cons_self ..)
    ·exact (h1 b z).imp id fun y => List.mem_cons_of_mem _ y
   ·rcases h1 a z with y | y
    ·exact hp (by rw [y]; exact List.mem_cons_self ..)
    ·exact nd'.1 y
theorem SlR.rew : ∀ {sl : List Sl} {σ : List (Option V)} {O : List Addr} {i : Nat} {ds es : List D} {a : Addr} {ys : List V}, SlR K N fa H sl σ O → O.Nodup → (∀ b ∈ O, N b) → sl[i]? = some (.own ds) → σ[i]? = some (some (.ref a)) → H' a = some (.lst ys) →
  Car K N fa H N fa H' → (∀ b u, b ≠ a → H b = some u → H' b = some u) → Reps K N fa H' es ys → SlR K N fa H' (sl.set i (.own es)) σ O
 | [], σ, O, i, ds, es, a, ys, h, nd, hN, e1, e2, e3, c, k, q => by simp at e1
 | .no :: r, σ, O, i, ds, es, a, ys, h, nd, hN, e1, e2, e3, c, k, q => by
  simp only [SlR] at h
  obtain ⟨v, τ, rfl, h⟩ := h
  cases i with
  | zero => simp at e1
  | succ i => simp only [List.set_cons_succ, SlR]; exact ⟨v, τ, rfl, SlR.rew h nd hN (by simpa using e1) (by simpa using e2) e3 c k q⟩
 | .val d' :: r, σ, O, i, ds, es, a, ys, h, nd, hN, e1, e2, e3, c, k, q => by
  simp only [SlR] at h
  obtain ⟨v, τ, rfl, qv, h⟩ := h
  cases i with
  | zero => simp at e1
  | succ i => simp only [List.set_cons_succ, SlR]; exact ⟨v, τ, rfl, Rep.go c _ _ qv, SlR.rew h nd hN (by simpa using e1) (by simpa using e2) e3 c k q⟩
 | .own ds' :: r, σ, O, i, ds, es, a, ys, h, nd, hN, e1, e2, e3, c, k, q => by
  simp only [SlR] at h
  obtain ⟨b, zs, τ, P, rfl, rfl, ha, qv, h⟩ := h
  have nd' := List.nodup_cons.mp nd
  cases i with
  | zero =>
   simp at e2
   subst e2
   simp only [List.set_cons_zero, SlR]
   exact ⟨b, ys, τ, P, rfl, rfl, e3, q, SlR.go c (fun x xs hx z => k x _ (fun y => nd'.1 (y ▸ hx)) z) h⟩
  | succ i =>
   have nb : b ≠ a := fun z => by
    obtain ⟨a', _, e4, m, _⟩ := SlR.own h (i := i) (by simpa using e1)
    rw [List.getElem?_cons_succ] at e2
    rw [e2] at e4
    cases e4
    exact nd'.1 (z ▸ m)
   simp only [List.set_cons_succ, SlR]
   exact ⟨b, zs, τ, P, rfl, rfl, k b _ nb ha, Reps.go c _ _ qv, SlR.rew h nd'.2 (fun x hx => hN x (List.mem_cons_of_mem _ hx)) (by simpa using e1) (by simpa using e2) e3 c k q⟩
theorem RepB.stp {d : D} {v : V} (I : GI K g σ H fa O s) (a : StE fa O H fa' O' H') (h : RepB K (NN g.F fa O) fa H d v) : RepB K (NN g.F fa' O') fa' H' d v := by
 have c := I.car a.stp
 cases d with
 | lst ds =>
  obtain ⟨x, xs, e, nf, q, r⟩ := h
  refine ⟨x, xs, e, fun z => ?_, a.same _ _ q nf, Reps.go c ds xs r⟩
  rcases a.fe with y | ⟨_, y⟩
  ·rw [y] at z; exact nf z
  ·rw [y x z] at q; cases q
 | _ =>
  simp only [RepB] at h ⊢
  exact Rep.go c _ _ h
theorem Rep.stp {d : D} {v : V} (I : GI K g σ H fa O s) (a : Stp fa O H fa' O' H') (h : Rep K (NN g.F fa O) fa H d v) : Rep K (NN g.F fa' O') fa' H' d v := Rep.go (I.car a) d v h
theorem Reps.stp {ds : List D} {xs : List V} (I : GI K g σ H fa O s) (a : Stp fa O H fa' O' H') (h : Reps K (NN g.F fa O) fa H ds xs) : Reps K (NN g.F fa' O') fa' H' ds xs := Reps.go (I.car a) ds xs h
theorem D6 {p : Addr} {o : HO} (h : H p = none) : StE fa O H fa O (upd H p o) :=
 ⟨fun _ h => h, .inl rfl, fun b u e _ => by rw [p8 (L5 e h)]; exact e, fun b z => by
  by_cases hb : b = p
  ·subst hb; exact h
  ·rw [p8 hb] at z; exact z⟩
theorem FeedR.car {fs : Option FS} (c : Car K N fa H N' fa H') (h : ∀ a, fa = some a → H' a = H a) (f : FeedR N H fa fs) : FeedR N' H' fa fs := by
 cases fa with
 | none => cases fs <;> simpa only [FeedR] using f
 | some a =>
  cases fs with
  | none => simpa only [FeedR] using f
  | some x =>
   simp only [FeedR] at f ⊢
   obtain ⟨l, b, h1, h2, h3⟩ := f
   obtain ⟨q, n⟩ := c.ls b _ h2 h3
   exact ⟨l, b, by rw [h a rfl]; exact h1, n, q⟩
theorem FeedR.same_new {fs : Option FS} {p : Addr} {o : HO} (f : FeedR N H fa fs) (h : H p = none) : ∀ a, fa = some a → upd H p o a = H a := fun a e => p8 fun z => f.tracked e (z ▸ h)
theorem DI.new {p : Addr} {o : HO} (I : GI K g σ H fa O s) (h : H p = none) : GI K g σ (upd H p o) fa O s := by
 have a : StE fa O H fa O (upd H p o) := D6 h
 refine ⟨I.nd, SlR.go (I.car a.stp) (fun b xs hb e => ?_) I.sl, I.fr, I.st.trans ((D6 (O := []) h).stp), I.tr, I.ff, I.fd.car (I.car a.stp) (I.fd.same_new h), I.nf⟩
 rw [p8 (L5 e h)]; exact e
end
noncomputable abbrev DE := DS → Option (D × DS)
noncomputable abbrev DT := DS → Option (Bool × DS)
noncomputable abbrev DA := DS → Option (List D × DS)
inductive Fl where
 | next | brk | cont | ret (d : D)
noncomputable abbrev DM := DS → Option (Fl × DS)
structure NewL (K : PySem.W.Frag) (g : Gh) (σ : L2.St) (H : Hp) (fa : Option Addr) (O : List Addr) (s : DS) (p : Addr) (xs : List V) (ds : List D) : Prop where
 gi : GI K g σ H fa O s
 ls : H p = some (.lst xs)
 sl : SlR K (fun b => NN g.F fa O b ∨ b = p) fa H s.sl σ O
 fd : FeedR (fun b => NN g.F fa O b ∨ b = p) H fa s.fs
 rs : Reps K (fun b => NN g.F fa O b ∨ b = p) fa H ds xs
 nf : fa ≠ some p
section
variable (K : PySem.W.Frag) (g : Gh)
noncomputable def G6 (f : DE) : TE := fun σ H Q => ∃ fa O s d s', GI K g σ H fa O s ∧ f s = some (d, s') ∧
 ∀ v H' fa' O', StE fa O H fa' O' H' → GI K g σ H' fa' O' s' → Rep K (NN g.F fa' O') fa' H' d v → Q v H'
noncomputable def X6 (f : DE) : TE := fun σ H Q => ∃ fa O s d s', GI K g σ H fa O s ∧ f s = some (d, s') ∧
 ∀ v H' fa' O', StE fa O H fa' O' H' → GI K g σ H' fa' O' s' → RepB K (NN g.F fa' O') fa' H' d v → Q v H'
noncomputable def Q2 (f : DA) : TE := fun σ H Q => ∃ fa O s ds s', GI K g σ H fa O s ∧ f s = some (ds, s') ∧
 ∀ p xs H' fa' O', StE fa O H fa' O' H' → NewL K g σ H' fa' O' s' p xs ds → H p = none → Q (.ref p) H'
noncomputable def K7 (f : DT) : TT := fun σ H Q => ∃ fa O s d s', GI K g σ H fa O s ∧ f s = some (d, s') ∧
 ∀ H' fa' O', StE fa O H fa' O' H' → GI K g σ H' fa' O' s' → Q d H'
noncomputable def a3s (f : DA) : TA := fun σ H Q => ∃ fa O s ds s', GI K g σ H fa O s ∧ f s = some (ds, s') ∧
 ∀ vs H' fa' O', StE fa O H fa' O' H' → GI K g σ H' fa' O' s' → Reps K (NN g.F fa' O') fa' H' ds vs → Q vs H'
noncomputable def a1f (f : DA) : TA := fun σ H Q => ∃ fa O s ds s', GI K g σ H fa O s ∧ f s = some (ds, s') ∧
 ∀ vs H' fa' O', StE fa O H fa' O' H' → GI K g σ H' fa' O' s' → R0 K (NN g.F fa' O') fa' H' ds vs → Q vs H'
noncomputable def FlK (E : Ends) (fa : Option Addr) (O : List Addr) (H : Hp) (fl : Fl) (s' : DS) : Prop :=
 match fl with
 | .next => ∀ σ' H' fa' O', Stp fa O H fa' O' H' → GI K g σ' H' fa' O' s' → E.nx σ' H'
 | .brk => ∀ σ' H' fa' O', Stp fa O H fa' O' H' → GI K g σ' H' fa' O' s' → E.bk σ' H'
 | .cont => ∀ σ' H' fa' O', Stp fa O H fa' O' H' → GI K g σ' H' fa' O' s' → E.ct σ' H'
 | .ret d => ∀ σ' v H' fa' O', Stp fa O H fa' O' H' → GI K g σ' H' fa' O' s' → Rep K (NN g.F fa' O') fa' H' d v → E.rt v H'
noncomputable def W5 (f : DM) : TS := fun E σ H => ∃ fa O s fl s', GI K g σ H fa O s ∧ f s = some (fl, s') ∧ FlK K g E fa O H fl s'
end
structure EO (X : Cx) (g : Gh) (e : Expr) (f : DE) : Prop where
 pe : PE X e (G6 X.K g f)
structure BO (X : Cx) (g : Gh) (e : Expr) (f : DE) : Prop where
 pe : PE X e (X6 X.K g f)
structure FO (X : Cx) (g : Gh) (e : Expr) (f : DA) : Prop where
 pe : PE X e (Q2 X.K g f)
structure TO (X : Cx) (g : Gh) (e : Expr) (f : DT) : Prop where
 pe : PT X e (K7 X.K g f)
structure WO (X : Cx) (g : Gh) (e : Expr) (f : DT) : Prop where
 pe : PW X e (K7 X.K g f)
structure AO (X : Cx) (g : Gh) (es : List Expr) (f : DA) : Prop where
 pe : PA X es (a3s X.K g f)
structure BAO (X : Cx) (g : Gh) (es : List Expr) (f : DA) : Prop where
 pe : PA X es (a1f X.K g f)
structure SO (X : Cx) (g : Gh) (st : Stmt) (f : DM) : Prop where
 pe : PS X st (W5 X.K g f)
structure SSO (X : Cx) (g : Gh) (st : List Stmt) (f : DM) : Prop where
 pe : PSs X st (W5 X.K g f)
section
variable {X : Cx} {g : Gh} {e : Expr} {f : DE}
theorem PEw {t t' : TE} (h : PE X e t) (w : ∀ σ H Q, t' σ H Q → t σ H Q) : PE X e t' := fun pins s σ H Q I q => h pins s σ H Q I (w σ H Q q)
theorem PTw {t t' : TT} (h : PT X e t) (w : ∀ σ H Q, t' σ H Q → t σ H Q) : PT X e t' := fun pins s σ H Q I q => h pins s σ H Q I (w σ H Q q)
theorem PWw {t t' : TT} (h : PW X e t) (w : ∀ σ H Q, t' σ H Q → t σ H Q) : PW X e t' := fun wh pins s σ H Q I q => h wh pins s σ H Q I (w σ H Q q)
theorem PAw {es : List Expr} {t t' : TA} (h : PA X es t) (w : ∀ σ H Q, t' σ H Q → t σ H Q) : PA X es t' := fun pos pins s σ H Q I q => h pos pins s σ H Q I (w σ H Q q)
theorem PSw {st : Stmt} {t t' : TS} (h : PS X st t) (w : ∀ E σ H, t' E σ H → t E σ H) : PS X st t' := fun pins s σ H E I q => h pins s σ H E I (w E σ H q)
theorem a97 {st : List Stmt} {t t' : TS} (h : PSs X st t) (w : ∀ E σ H, t' E σ H → t E σ H) : PSs X st t' := fun pins s σ H E I q => h pins s σ H E I (w E σ H q)
theorem EO.w {f : DE} {t : TE} (h : PE X e t) (w : ∀ σ H Q, G6 X.K g f σ H Q → t σ H Q) : EO X g e f := ⟨PEw h w⟩
theorem BO.w {f : DE} {t : TE} (h : PE X e t) (w : ∀ σ H Q, X6 X.K g f σ H Q → t σ H Q) : BO X g e f := ⟨PEw h w⟩
theorem FO.w {f : DA} {t : TE} (h : PE X e t) (w : ∀ σ H Q, Q2 X.K g f σ H Q → t σ H Q) : FO X g e f := ⟨PEw h w⟩
theorem TO.w {f : DT} {t : TT} (h : PT X e t) (w : ∀ σ H Q, K7 X.K g f σ H Q → t σ H Q) : TO X g e f := ⟨PTw h w⟩
theorem WO.w {f : DT} {t : TT} (h : PW X e t) (w : ∀ σ H Q, K7 X.K g f σ H Q → t σ H Q) : WO X g e f := ⟨PWw h w⟩
theorem AO.w {es : List Expr} {f : DA} {t : TA} (h : PA X es t) (w : ∀ σ H Q, a3s X.K g f σ H Q → t σ H Q) : AO X g es f := ⟨PAw h w⟩
theorem BAO.w {es : List Expr} {f : DA} {t : TA} (h : PA X es t) (w : ∀ σ H Q, a1f X.K g f σ H Q → t σ H Q) : BAO X g es f := ⟨PAw h w⟩
theorem SO.w {st : Stmt} {f : DM} {t : TS} (h : PS X st t) (w : ∀ E σ H, W5 X.K g f E σ H → t E σ H) : SO X g st f := ⟨PSw h w⟩
theorem SSO.w {st : List Stmt} {f : DM} {t : TS} (h : PSs X st t) (w : ∀ E σ H, W5 X.K g f E σ H → t E σ H) : SSO X g st f := ⟨a97 h w⟩
theorem EO.b (h : EO X g e f) : BO X g e f := BO.w h.pe fun σ H Q ⟨fa, O, s, d, s', I, e, k⟩ => ⟨fa, O, s, d, s', I, e, fun v H' fa' O' a I' r => k v H' fa' O' a I' (r.b fun _ z => .inr (.inr z))⟩
noncomputable def p7 (f : DA) : DE := fun s => (f s).map fun p => (.lst p.1, p.2)
theorem a0H {K : PySem.W.Frag} {σ : L2.St} {H H' : Hp} {fa fa' : Option Addr} {O O' : List Addr} {s s' : DS} {p : Addr} (I : GI K g σ H fa O s) (a : StE fa O H fa' O' H') (I' : GI K g σ H' fa' O' s') (e : H p = none) (e' : fa' ≠ some p) : ¬ NN g.F fa' O' p := by
 rintro (z | z | z)
 ·exact I.trF z e
 ·obtain ⟨ys, q⟩ := I.owned (a.sub p z)
  rw [e] at q; cases q
 ·exact e' z
theorem FO.v {f : DA} (h : FO X g e f) : EO X g e (p7 f) := EO.w h.pe fun σ H Q hQ__ => by
 obtain ⟨fa, O, s, d, s', I, e, k⟩ := hQ__
 simp only [p7] at e
 cases q : f s with
 | none => rw [q] at e; cases e
 | some p =>
  obtain ⟨ds, s1⟩ := p
  rw [q] at e
  simp only [Option.map_some, Option.some.injEq, Prod.mk.injEq] at e
  obtain ⟨e1, e2⟩ := e
  subst e1; subst e2
  refine ⟨fa, O, s, ds, s1, I, q, fun p xs H' fa' O' a L e1 => k _ H' fa' O' a L.gi ?_⟩
  simp only [Rep]
  exact ⟨p, xs, rfl, a0H I a L.gi e1 L.nf, L.ls, Reps.go ⟨fun b ys n q => ⟨q, fun z => n (.inl z)⟩, fun _ _ q => q, fun _ _ q => q, fun _ q => q⟩ ds xs L.rs⟩
end
theorem a1o {g : Gh} {K : PySem.W.Frag} {σ : L2.St} {H : Hp} {fa : Option Addr} {O : List Addr} {s : DS} {p : Addr} {o : HO} (I : GI K g σ H fa O s) (hp : H p = none) : Car K (NN g.F fa O) fa H (fun b => NN g.F fa O b ∨ b = p) fa (upd H p o) := by
 have c := I.car (D6 (fa := fa) (O := O) (o := o) hp).stp
 refine ⟨fun b xs n q => ?_, c.tp, c.fz, c.fe⟩
 obtain ⟨q', n'⟩ := c.ls b xs n q
 refine ⟨q', ?_⟩
 rintro (z | z)
 ·exact n' z
 ·subst z
  rw [hp] at q; cases q
theorem V1 {g : Gh} {K : PySem.W.Frag} {σ : L2.St} {H : Hp} {fa : Option Addr} {O : List Addr} {s : DS} {p : Addr} {ds : List D} {xs : List V} (I : GI K g σ H fa O s) (hp : H p = none) (r : Reps K (NN g.F fa O) fa H ds xs) : NewL K g σ (upd H p (.lst xs)) fa O s p xs ds :=
 ⟨I.new hp, A9, SlR.go (a1o I hp) (fun b ys _ e => by rw [p8 (L5 e hp)]; exact e) I.sl, I.fd.car (a1o I hp) (I.fd.same_new hp), Reps.go (a1o I hp) ds xs r, fun z => I.fd.tracked z hp⟩
noncomputable def dC (d : D) : DE := fun s => some (d, s)
noncomputable def dV (i : Nat) : DE := fun s => match s.sl[i]? with
 | some (.val d) => some (d, s)
 | some (.own ds) => some (.lst ds, { s with sl := s.sl.set i (.val (.lst ds)) })
 | _ => none
noncomputable def dL (i : Nat) : DE := fun s => match s.sl[i]? with
 | some (.val d) => some (d, s)
 | some (.own ds) => some (.lst ds, s)
 | _ => none
section
variable {X : Cx} {g : Gh}
theorem c5 {i : Nat} {x : Str} {pos : Pos} (h : PE X (.Name x pos) (T3 i)) : BO X g (.Name x pos) (dL i) := BO.w h fun σ H Q hQ__ => by
 obtain ⟨fa, O, s, d, s', I, e, k⟩ := hQ__
 simp only [dL] at e
 cases q : s.sl[i]? with
 | none => rw [q] at e; cases e
 | some z =>
  rw [q] at e
  cases z with
  | no => cases e
  | val d' =>
   cases e
   obtain ⟨u, e1, r⟩ := SlR.val I.sl q
   exact ⟨u, e1, k u H fa O StE.refl I (r.b fun _ z => .inr (.inr z))⟩
  | own ds =>
   cases e
   obtain ⟨a, xs, e1, m, e2, r⟩ := SlR.own I.sl q
   exact ⟨_, e1, k _ H fa O StE.refl I ⟨a, xs, rfl, fun z => I.nf a z m, e2, r⟩⟩
theorem c8 {i : Nat} {x : Str} {pos : Pos} (h : PE X (.Name x pos) (T3 i)) : EO X g (.Name x pos) (dV i) := EO.w h fun σ H Q hQ__ => by
 obtain ⟨fa, O, s, d, s', I, e, k⟩ := hQ__
 simp only [dV] at e
 cases q : s.sl[i]? with
 | none => rw [q] at e; cases e
 | some z =>
  rw [q] at e
  cases z with
  | no => cases e
  | val d' =>
   cases e
   obtain ⟨u, e1, r⟩ := SlR.val I.sl q
   exact ⟨u, e1, k u H fa O StE.refl I r⟩
  | own ds =>
   cases e
   obtain ⟨a, xs, e1, m, e2, r⟩ := SlR.own I.sl q
   have i' : i < s.sl.length := (List.getElem?_eq_some_iff.mp q).1
   let N1 : Addr → Prop := fun b => NN g.F fa O b ∧ b ≠ a
   have c1 : Car X.K (NN g.F fa O) fa H N1 fa H := ⟨fun b ys n z => ⟨z, fun y => n y.1⟩, fun _ _ z => z, fun _ _ z => z, fun _ z => z⟩
   have S1 := SlR.go c1 (fun _ _ _ z => z) I.sl
   have R1 : Rep X.K N1 fa H (.lst ds) (.ref a) := by
    simp only [Rep]
    exact ⟨a, xs, rfl, fun z => z.2 rfl, e2, Reps.go c1 ds xs r⟩
   obtain ⟨P, hs, S2, hn⟩ := SlR.put i S1 R1
   have na : a ∉ P := hn I.nd a (by rw [q]; rfl) ⟨ds, q⟩ e1
   have eσ : σ.set i (some (V.ref a)) = σ := by
    apply List.ext_getElem?
    intro j
    by_cases hj : j = i
    ·subst hj
     rw [e1, List.getElem?_set_self (List.getElem?_eq_some_iff.mp e1).1]
    ·rw [List.getElem?_set_ne (Ne.symm hj)]
   rw [eσ] at S2
   have sub : ∀ b ∈ P, b ∈ O := fun b hb => hs.subset hb
   have a1 : StE fa O H fa P H := ⟨sub, .inl rfl, fun _ _ z _ => z, fun _ z => z⟩
   have c2 : Car X.K N1 fa H (NN g.F fa P) fa H := ⟨fun b ys n z => ⟨z, fun y => n ⟨by
     rcases y with y | y | y
     ·exact .inl y
     ·exact .inr (.inl (sub b y))
     ·exact .inr (.inr y), fun w => by
     subst w
     rcases y with y | y | y
     ·exact I.tr b y (I.fr b m)
     ·exact na y
     ·exact I.nf b y m⟩⟩, fun _ _ z => z, fun _ _ z => z, fun _ z => z⟩
   refine ⟨_, e1, k _ H fa P a1 ⟨hs.nodup I.nd, SlR.go c2 (fun _ _ _ z => z) S2, fun b hb => I.fr b (sub b hb), I.st, I.tr, I.ff, (I.fd.car c1 fun _ _ => rfl).car c2 fun _ _ => rfl, fun b z y => I.nf b z (sub b y)⟩ (Rep.go c2 _ _ R1)⟩
theorem a1x {e : Expr} {v : V} {d : D} (h : PE X e (tC v)) (r : ∀ K N fa H, Rep K N fa H d v) : EO X g e (dC d) := EO.w h fun σ H Q hQ__ => by
 obtain ⟨fa, O, s, d', s', I, q, k⟩ := hQ__
 simp only [dC, Option.some.injEq, Prod.mk.injEq] at q
 obtain ⟨q1, q2⟩ := q
 subst q1; subst q2
 exact k v H fa O StE.refl I (r _ _ _ _)
theorem a9 {i j pos} : EO X g (.Constant (.int i) j pos) (dC (.int i)) := a1x W1 fun _ _ _ _ => by simp only [Rep]
theorem N0 {i j pos} : EO X g (.Constant (.bool i) j pos) (dC (.bl i)) := a1x b28 fun _ _ _ _ => by simp only [Rep]
theorem a3y {j pos} : EO X g (.Constant .none j pos) (dC .non) := a1x a9g fun _ _ _ _ => by simp only [Rep]
theorem S0 {x j pos} (hx : x.length ≤ sizeLine) : EO X g (.Constant (.str x) j pos) (dC (.str x)) := a1x b2C fun _ _ _ _ => by simp only [Rep]; exact ⟨trivial, hx⟩
end
noncomputable def R2D (K : PySem.W.Frag) (r : R2) (p : D → D → Option D) : Prop :=
 ∀ (g : Gh) (σ : L2.St) (H : Hp) (fa : Option Addr) (O : List Addr) (s : DS) (x y : V) (d1 d2 d : D) (Q : VK), GI K g σ H fa O s → RepB K (NN g.F fa O) fa H d1 x → RepB K (NN g.F fa O) fa H d2 y → p d1 d2 = some d →
  (∀ v H', StE fa O H fa O H' → GI K g σ H' fa O s → Rep K (NN g.F fa O) fa H' d v → Q v H') → r x y H Q
noncomputable def R1D (K : PySem.W.Frag) (r : V → Hp → VK → Prop) (p : D → Option D) : Prop :=
 ∀ (g : Gh) (σ : L2.St) (H : Hp) (fa : Option Addr) (O : List Addr) (s : DS) (x : V) (d1 d : D) (Q : VK), GI K g σ H fa O s → RepB K (NN g.F fa O) fa H d1 x → p d1 = some d →
  (∀ v H', StE fa O H fa O H' → GI K g σ H' fa O s → Rep K (NN g.F fa O) fa H' d v → Q v H') → r x H Q
noncomputable def R2F (K : PySem.W.Frag) (r : R2) (p : D → D → Option (List D)) : Prop :=
 ∀ (g : Gh) (σ : L2.St) (H : Hp) (fa : Option Addr) (O : List Addr) (s : DS) (x y : V) (d1 d2 : D) (ds : List D) (Q : VK), GI K g σ H fa O s → RepB K (NN g.F fa O) fa H d1 x → RepB K (NN g.F fa O) fa H d2 y → p d1 d2 = some ds →
  (∀ q xs H', StE fa O H fa O H' → NewL K g σ H' fa O s q xs ds → H q = none → Q (.ref q) H') → r x y H Q
noncomputable def RCD (K : PySem.W.Frag) (r : List V → Hp → VK → Prop) (p : List D → Option D) : Prop :=
 ∀ (g : Gh) (σ : L2.St) (H : Hp) (fa : Option Addr) (O : List Addr) (s : DS) (xs : List V) (ds : List D) (d : D) (Q : VK), GI K g σ H fa O s → R0 K (NN g.F fa O) fa H ds xs → p ds = some d →
  (∀ v H', StE fa O H fa O H' → GI K g σ H' fa O s → Rep K (NN g.F fa O) fa H' d v → Q v H') → r xs H Q
noncomputable def RCF (K : PySem.W.Frag) (r : List V → Hp → VK → Prop) (p : List D → Option (List D)) : Prop :=
 ∀ (g : Gh) (σ : L2.St) (H : Hp) (fa : Option Addr) (O : List Addr) (s : DS) (xs : List V) (ds es : List D) (Q : VK), GI K g σ H fa O s → R0 K (NN g.F fa O) fa H ds xs → p ds = some es →
  (∀ q ys H', StE fa O H fa O H' → NewL K g σ H' fa O s q ys es → H q = none → Q (.ref q) H') → r xs H Q
noncomputable def dOp (p : D → D → Option D) (a b : DE) : DE := fun s => (a s).bind fun x => (b x.2).bind fun y => (p x.1 y.1).map fun d => (d, y.2)
noncomputable def M7 (p : D → D → Option (List D)) (a b : DE) : DA := fun s => (a s).bind fun x => (b x.2).bind fun y => (p x.1 y.1).map fun d => (d, y.2)
noncomputable def dUn (p : D → Option D) (a : DE) : DE := fun s => (a s).bind fun x => (p x.1).map fun d => (d, x.2)
theorem a7c {α : Type} {p : D → D → Option α} {a b : DE} {s s' : DS} {d : α} (h : ((a s).bind fun x => (b x.2).bind fun y => (p x.1 y.1).map fun d => (d, y.2)) = some (d, s')) : ∃ x s1 y, a s = some (x, s1) ∧ b s1 = some (y, s') ∧ p x y = some d := by
 obtain ⟨⟨x, s1⟩, h1, h⟩ := Option.bind_eq_some_iff.mp h
 obtain ⟨⟨y, s2⟩, h2, h⟩ := Option.bind_eq_some_iff.mp h
 obtain ⟨d', h3, h⟩ := Option.map_eq_some_iff.mp h
 simp only [Prod.mk.injEq] at h
 obtain ⟨e1, e2⟩ := h
 subst e1; subst e2
 exact ⟨x, s1, y, h1, h2, h3⟩
section
variable {X : Cx} {g : Gh} {a b : Expr} {fa fb : DE} {pos : Pos} {r : R2} {p : D → D → Option D}
theorem a08 {r : R2} {p : D → D → Option D} (hr : R2D X.K r p) (σ : L2.St) (H : Hp) (Q : VK) (h : G6 X.K g (dOp p fa fb) σ H Q) : tOp r (X6 X.K g fa) (X6 X.K g fb) σ H Q := by
 obtain ⟨f0, O, s, d, s', I, e, k⟩ := h
 obtain ⟨x, s1, y, h1, h2, h3⟩ := a7c e
 refine ⟨f0, O, s, x, s1, I, h1, fun v H1 f1 O1 a1 I1 r1 => ⟨f1, O1, s1, y, s', I1, h2, fun u H2 f2 O2 a2 I2 r2 => ?_⟩⟩
 exact hr g σ H2 f2 O2 s' v u x y d Q I2 (RepB.stp I1 a2 r1) r2 h3 fun z H3 a3 I3 r3 => k z H3 f2 O2 (a1.trans (a2.trans a3)) I3 r3
theorem b3F {r : R2} {p : D → D → Option (List D)} (hr : R2F X.K r p) (σ : L2.St) (H : Hp) (Q : VK) (h : Q2 X.K g (M7 p fa fb) σ H Q) : tOp r (X6 X.K g fa) (X6 X.K g fb) σ H Q := by
 obtain ⟨f0, O, s, d, s', I, e, k⟩ := h
 obtain ⟨x, s1, y, h1, h2, h3⟩ := a7c e
 refine ⟨f0, O, s, x, s1, I, h1, fun v H1 f1 O1 a1 I1 r1 => ⟨f1, O1, s1, y, s', I1, h2, fun u H2 f2 O2 a2 I2 r2 => ?_⟩⟩
 exact hr g σ H2 f2 O2 s' v u x y d Q I2 (RepB.stp I1 a2 r1) r2 h3 fun q xs H3 a3 L e1 => k q xs H3 f2 O2 (a1.trans (a2.trans a3)) L (a1.mon _ (a2.mon _ e1))
theorem j7 {op : Operator} (ho : OpR X (binaryOp op) r) (hr : R2D X.K r p) (ha : BO X g a fa) (hb : BO X g b fb) : EO X g (.BinOp a op b pos) (dOp p fa fb) := EO.w (a5x ho ha.pe hb.pe) (a08 hr)
theorem X4 {op : Operator} {p : D → D → Option (List D)} (ho : OpR X (binaryOp op) r) (hr : R2F X.K r p) (ha : BO X g a fa) (hb : BO X g b fb) : FO X g (.BinOp a op b pos) (M7 p fa fb) := FO.w (a5x ho ha.pe hb.pe) (b3F hr)
theorem b2J {op : CmpOp} (ho : OpR X (compareOp op) r) (hr : R2D X.K r p) (ha : BO X g a fa) (hb : BO X g b fb) (hm : behindInMarks op b = false) : EO X g (.Compare a [op] [b] pos) (dOp p fa fb) := EO.w (b2U ho ha.pe hb.pe hm) (a08 hr)
theorem i5 {r : R2} (ho : IxR X r) (hr : R2D X.K r p) (ha : BO X g a fa) (hb : BO X g b fb) (hs : a5c b) : EO X g (.Subscript a b pos) (dOp p fa fb) := EO.w (a7P ho ha.pe hb.pe hs) (a08 hr)
theorem C0 {op : UnaryOp} {r : V → Hp → VK → Prop} {p : D → Option D} (ho : UnR X (unaryOp op) r) (hr : R1D X.K r p) (ha : BO X g a fa) : EO X g (.UnaryOp op a pos) (dUn p fa) := EO.w (b0f ho ha.pe) fun σ H Q hQ__ => by
 obtain ⟨f0, O, s, d, s', I, e, k⟩ := hQ__
 obtain ⟨⟨x, s1⟩, h1, h⟩ := Option.bind_eq_some_iff.mp e
 obtain ⟨d', h3, h⟩ := Option.map_eq_some_iff.mp h
 simp only [Prod.mk.injEq] at h
 obtain ⟨e1, e2⟩ := h
 subst e1; subst e2
 exact ⟨f0, O, s, x, s1, I, h1, fun v H1 f1 O1 a1 I1 r1 => hr g σ H1 f1 O1 s1 v x d' Q I1 r1 h3 fun z H3 a3 I3 r3 => k z H3 f1 O1 (a1.trans a3) I3 r3⟩
noncomputable def dB (f : DE) : DT := fun s => (f s).bind fun x => match x.1 with | .bl b => some (b, x.2) | _ => none
theorem b3K {f : DE} {s s' : DS} {b : Bool} (h : dB f s = some (b, s')) : f s = some (.bl b, s') := by
 obtain ⟨⟨x, s1⟩, h1, h⟩ := Option.bind_eq_some_iff.mp h
 cases x with
 | bl c => simp only [Option.some.injEq, Prod.mk.injEq] at h; rw [h1, h.1, h.2]
 | _ => cases h
theorem v5 {op : CmpOp} (ho : OpR X (compareOp op) r) (hr : R2D X.K r p) (ha : BO X g a fa) (hb : BO X g b fb) (hm : behindInMarks op b = false) : TO X g (.Compare a [op] [b] pos) (dB (dOp p fa fb)) :=
 TO.w (b3k ho ha.pe hb.pe hm) fun σ H Q ⟨f0, O, s, d, s', I, e, k⟩ => a08 hr σ H _ ⟨f0, O, s, .bl d, s', I, b3K e, fun v H' f1 O1 a I1 r => by
  simp only [Rep] at r
  exact ⟨d, r, k H' f1 O1 a I1⟩⟩
noncomputable def E2 : D → Option Bool
 | .non => some false
 | .bl b => some b
 | .int i => some (i != 0)
 | .str x => some ((x.length : Int) != 0)
 | .tup ds => some (!ds.isEmpty)
 | .lst ds => some (!ds.isEmpty)
 | _ => none
noncomputable def dTr (f : DE) : DT := fun s => (f s).bind fun x => (E2 x.1).map fun b => (b, x.2)
theorem a7s {α β : Type} {xs : List α} {ys : List β} (h : xs.length = ys.length) : xs.isEmpty = ys.isEmpty := by cases xs <;> cases ys <;> simp_all
theorem Q4 {e : Expr} {f : DE} (h : BO X g e f) (he : ∀ whole, isTrue e X.env whole = (do let v ← whole; standAt e.pos; holding [v] (truthy v)) := by intro _; rfl) : TO X g e (dTr f) :=
 TO.w (b0u h.pe he) fun σ H Q hQ__ => by
  obtain ⟨f0, O, s, d, s', I, e, k⟩ := hQ__
  obtain ⟨⟨x, s1⟩, h1, h.pe⟩ := Option.bind_eq_some_iff.mp e
  obtain ⟨d', h3, h.pe⟩ := Option.map_eq_some_iff.mp h.pe
  simp only [Prod.mk.injEq] at h.pe
  obtain ⟨e1, e2⟩ := h.pe
  subst e1; subst e2
  refine ⟨f0, O, s, x, s1, I, h1, fun v H' f1 O1 a I1 r => ⟨d', ?_, k H' f1 O1 a I1⟩⟩
  cases x with
  | non => simp only [RepB, Rep] at r; subst r; cases h3; rfl
  | bl b => simp only [RepB, Rep] at r; subst r; cases h3; rfl
  | int i => simp only [RepB, Rep] at r; subst r; cases h3; rfl
  | str x => simp only [RepB, Rep] at r; obtain ⟨r, l⟩ := r; subst r; cases h3; exact ⟨l, rfl⟩
  | tup ds =>
   simp only [RepB, Rep] at r
   obtain ⟨c, xs, r, q, w⟩ := r
   subst r; cases h3
   exact .inr (.inl ⟨xs, q, by rw [a7s w.length]⟩)
  | lst ds =>
   obtain ⟨c, xs, r, _, q, w⟩ := r
   subst r; cases h3
   exact .inl ⟨xs, SqL.of q, by rw [a7s w.length]⟩
  | feed => cases h3
  | scr _ => cases h3
noncomputable def A6 (a b : DT) : DT := fun s => (a s).bind fun x => if x.1 = true then b x.2 else some (false, x.2)
noncomputable def dOr (a b : DT) : DT := fun s => (a s).bind fun x => if x.1 = true then some (true, x.2) else b x.2
noncomputable def C8 (a : DT) : DT := fun s => (a s).map fun x => (!x.1, x.2)
noncomputable def E7 (a b : DE) : DE := fun s => (dB a s).bind fun x => if x.1 = true then b x.2 else some (.bl false, x.2)
noncomputable def F1 (a b : DE) : DE := fun s => (dB a s).bind fun x => if x.1 = true then some (.bl true, x.2) else b x.2
noncomputable def F0 (a : DE) : DE := fun s => (dB a s).map fun x => (.bl (!x.1), x.2)
variable {ta tb : DT} {rest : List Expr}
theorem a2r (h : TO X g a ta) : WO X g (.BoolOp .And [a] pos) ta := ⟨b03 h.pe⟩
theorem b0V (h : TO X g a ta) : WO X g (.BoolOp .Or [a] pos) ta := ⟨a8o h.pe⟩
theorem a4q (ha : TO X g a ta) (hb : WO X g (.BoolOp .And (b :: rest) pos) tb) : WO X g (.BoolOp .And (a :: b :: rest) pos) (A6 ta tb) := WO.w (b2O ha.pe hb.pe) fun σ H Q hQ__ => by
 obtain ⟨f0, O, s, d, s', I, e, k⟩ := hQ__
 obtain ⟨⟨x, s1⟩, h1, h⟩ := Option.bind_eq_some_iff.mp e
 refine ⟨f0, O, s, x, s1, I, h1, fun H1 f1 O1 a1 I1 => ?_⟩
 cases x with
 | true => rw [if_pos rfl] at h ⊢; exact ⟨f1, O1, s1, d, s', I1, h, fun H2 f2 O2 a2 I2 => k H2 f2 O2 (a1.trans a2) I2⟩
 | false =>
  rw [if_neg Bool.false_ne_true] at h ⊢
  simp only [Option.some.injEq, Prod.mk.injEq] at h
  obtain ⟨e1, e2⟩ := h
  subst e1; subst e2
  exact k H1 f1 O1 a1 I1
theorem b2l (ha : TO X g a ta) (hb : WO X g (.BoolOp .Or (b :: rest) pos) tb) : WO X g (.BoolOp .Or (a :: b :: rest) pos) (dOr ta tb) := WO.w (b24 ha.pe hb.pe) fun σ H Q hQ__ => by
 obtain ⟨f0, O, s, d, s', I, e, k⟩ := hQ__
 obtain ⟨⟨x, s1⟩, h1, h⟩ := Option.bind_eq_some_iff.mp e
 refine ⟨f0, O, s, x, s1, I, h1, fun H1 f1 O1 a1 I1 => ?_⟩
 cases x with
 | false => rw [if_neg Bool.false_ne_true] at h ⊢; exact ⟨f1, O1, s1, d, s', I1, h, fun H2 f2 O2 a2 I2 => k H2 f2 O2 (a1.trans a2) I2⟩
 | true =>
  rw [if_pos rfl] at h ⊢
  simp only [Option.some.injEq, Prod.mk.injEq] at h
  obtain ⟨e1, e2⟩ := h
  subst e1; subst e2
  exact k H1 f1 O1 a1 I1
theorem WO.t {e : Expr} {f : DT} (h : WO X g e f) : TO X g e f := ⟨h.pe.pt⟩
theorem b0J (ha : TO X g a ta) : TO X g (.UnaryOp .Not a pos) (C8 ta) := TO.w (b33 ha.pe) fun σ H Q hQ__ => by
 obtain ⟨f0, O, s, d, s', I, e, k⟩ := hQ__
 obtain ⟨⟨x, s1⟩, h1, h⟩ := Option.map_eq_some_iff.mp e
 simp only [Prod.mk.injEq] at h
 obtain ⟨e1, e2⟩ := h
 subst e1; subst e2
 exact ⟨f0, O, s, x, s1, I, h1, fun H1 f1 O1 a1 I1 => k H1 f1 O1 a1 I1⟩
noncomputable def dIf (c : DT) (a b : DE) : DE := fun s => (c s).bind fun x => if x.1 = true then a x.2 else b x.2
theorem a1A {c : Expr} {fc : DT} (hc : TO X g c fc) (ha : EO X g a fa) (hb : EO X g b fb) : EO X g (.IfExp c a b pos) (dIf fc fa fb) := EO.w (b1z hc.pe ha.pe hb.pe) fun σ H Q hQ__ => by
 obtain ⟨f0, O, s, d, s', I, e, k⟩ := hQ__
 obtain ⟨⟨x, s1⟩, h1, h⟩ := Option.bind_eq_some_iff.mp e
 refine ⟨f0, O, s, x, s1, I, h1, fun H1 f1 O1 a1 I1 => ?_⟩
 cases x with
 | false => rw [if_neg Bool.false_ne_true] at h ⊢; exact ⟨f1, O1, s1, d, s', I1, h, fun v H2 f2 O2 a2 I2 => k v H2 f2 O2 (a1.trans a2) I2⟩
 | true => rw [if_pos rfl] at h ⊢; exact ⟨f1, O1, s1, d, s', I1, h, fun v H2 f2 O2 a2 I2 => k v H2 f2 O2 (a1.trans a2) I2⟩
noncomputable def a8 : DA := fun s => some ([], s)
noncomputable def a7 (a : DE) (r : DA) : DA := fun s => (a s).bind fun x => (r x.2).map fun y => (x.1 :: y.1, y.2)
theorem a0t {a : DE} {r : DA} {s s' : DS} {ds : List D} (h : a7 a r s = some (ds, s')) : ∃ d s1 es, a s = some (d, s1) ∧ r s1 = some (es, s') ∧ ds = d :: es := by
 obtain ⟨⟨x, s1⟩, h1, h⟩ := Option.bind_eq_some_iff.mp h
 obtain ⟨⟨y, s2⟩, h2, h⟩ := Option.map_eq_some_iff.mp h
 simp only [Prod.mk.injEq] at h
 exact ⟨x, s1, y, h1, by rw [h2, h.2], h.1.symm⟩
variable {es : List Expr} {fr : DA}
theorem b6 : AO X g [] a8 := AO.w a1k fun σ H Q hQ__ => by
 obtain ⟨f0, O, s, d, s', I, e, k⟩ := hQ__
 simp only [a8, Option.some.injEq, Prod.mk.injEq] at e
 obtain ⟨e1, e2⟩ := e
 subst e1; subst e2
 exact k [] H f0 O StE.refl I (by simp only [Reps])
theorem a4H (ha : EO X g a fa) (hr : AO X g es fr) (hs : starEach (a :: es) X.env = (false, eval a X.env) :: starEach es X.env := by rfl) : AO X g (a :: es) (a7 fa fr) := AO.w (X7 ha.pe hr.pe hs) fun σ H Q hQ__ => by
 obtain ⟨f0, O, s, ds, s', I, e, k⟩ := hQ__
 obtain ⟨d, s1, es, h1, h2, h3⟩ := a0t e
 subst h3
 refine ⟨f0, O, s, d, s1, I, h1, fun v H1 f1 O1 a1 I1 r1 => ⟨f1, O1, s1, es, s', I1, h2, fun vs H2 f2 O2 a2 I2 r2 => ?_⟩⟩
 refine k (v :: vs) H2 f2 O2 (a1.trans a2) I2 ?_
 simp only [Reps]
 exact ⟨v, vs, rfl, Rep.stp I1 a2.stp r1, r2⟩
theorem v6 : BAO X g [] a8 := BAO.w a1k fun σ H Q hQ__ => by
 obtain ⟨f0, O, s, d, s', I, e, k⟩ := hQ__
 simp only [a8, Option.some.injEq, Prod.mk.injEq] at e
 obtain ⟨e1, e2⟩ := e
 subst e1; subst e2
 exact k [] H f0 O StE.refl I (by simp only [R0])
theorem b0T (ha : BO X g a fa) (hr : BAO X g es fr) (hs : starEach (a :: es) X.env = (false, eval a X.env) :: starEach es X.env := by rfl) : BAO X g (a :: es) (a7 fa fr) := BAO.w (X7 ha.pe hr.pe hs) fun σ H Q hQ__ => by
 obtain ⟨f0, O, s, ds, s', I, e, k⟩ := hQ__
 obtain ⟨d, s1, es, h1, h2, h3⟩ := a0t e
 subst h3
 refine ⟨f0, O, s, d, s1, I, h1, fun v H1 f1 O1 a1 I1 r1 => ⟨f1, O1, s1, es, s', I1, h2, fun vs H2 f2 O2 a2 I2 r2 => ?_⟩⟩
 exact k (v :: vs) H2 f2 O2 (a1.trans a2) I2 ⟨v, vs, rfl, RepB.stp I1 a2 r1, r2⟩
noncomputable def e8 (f : DA) : DE := fun s => (f s).bind fun x => if x.1.length ≤ sizeLine then some (.tup x.1, x.2) else none
noncomputable def p9 (f : DA) : DA := fun s => (f s).bind fun x => if x.1.length ≤ sizeLine then some (x.1, x.2) else none
theorem j3 {x1} (h : AO X g es fr) : EO X g (.Tuple es x1 pos) (e8 fr) := EO.w (b2g h.pe) fun σ H Q hQ__ => by
 obtain ⟨f0, O, s, d, s', I, e, k⟩ := hQ__
 obtain ⟨⟨ds, s1⟩, h1, h.pe⟩ := Option.bind_eq_some_iff.mp e
 by_cases hl : ds.length ≤ sizeLine
 ·rw [if_pos hl] at h.pe
  simp only [Option.some.injEq, Prod.mk.injEq] at h.pe
  obtain ⟨e1, e2⟩ := h.pe
  subst e1; subst e2
  refine ⟨f0, O, s, ds, s1, I, h1, fun vs H1 f1 O1 a1 I1 r1 => ⟨by rw [r1.length]; exact hl, fun p hp => ?_⟩⟩
  have a2 : StE f1 O1 H1 f1 O1 (upd H1 p (.tup vs)) := D6 hp
  refine k _ _ f1 O1 (a1.trans a2) (I1.new hp) ?_
  simp only [Rep]
  exact ⟨p, vs, rfl, SqT.of A9, Reps.stp I1 a2.stp r1⟩
 ·rw [if_neg hl] at h.pe; cases h.pe
theorem y9 (h : AO X g es fr) : FO X g (.List es pos) (p9 fr) := FO.w (a7v h.pe) fun σ H Q hQ__ => by
 obtain ⟨f0, O, s, d, s', I, e, k⟩ := hQ__
 obtain ⟨⟨ds, s1⟩, h1, h.pe⟩ := Option.bind_eq_some_iff.mp e
 by_cases hl : ds.length ≤ sizeLine
 ·rw [if_pos hl] at h.pe
  simp only [Option.some.injEq, Prod.mk.injEq] at h.pe
  obtain ⟨e1, e2⟩ := h.pe
  subst e1; subst e2
  refine ⟨f0, O, s, ds, s1, I, h1, fun vs H1 f1 O1 a1 I1 r1 => ⟨by rw [r1.length]; exact hl, fun p hp => ?_⟩⟩
  have a2 : StE f1 O1 H1 f1 O1 (upd H1 p (.lst vs)) := D6 hp
  exact k p vs _ f1 O1 (a1.trans a2) (V1 I1 hp r1) (a1.mon _ hp)
 ·rw [if_neg hl] at h.pe; cases h.pe
end
section
variable {K : PySem.W.Frag} {g : Gh} {σ : L2.St} {H H' : Hp} {fa fa' : Option Addr} {O O' : List Addr} {s s' : DS}
theorem NN.mono {F : Addr → Prop} {P : List Addr} (h : ∀ b ∈ P, b ∈ O) {b : Addr} (z : NN F fa P b) : NN F fa O b := by
 rcases z with z | z | z
 ·exact .inl z
 ·exact .inr (.inl (h b z))
 ·exact .inr (.inr z)
theorem a4X {F : Addr → Prop} {N : Addr → Prop} (h : ∀ b, NN F fa O b → N b) : Car K N fa H (NN F fa O) fa H := ⟨fun b xs n q => ⟨q, fun z => n (h b z)⟩, fun _ _ q => q, fun _ _ q => q, fun _ q => q⟩
theorem DI.put (I : GI K g σ H fa O s) (i : Nat) {d : D} {v : V} (r : Rep K (NN g.F fa O) fa H d v) : ∃ P, (∀ b ∈ P, b ∈ O) ∧ GI K g (σ.set i (some v)) H fa P { s with sl := s.sl.set i (.val d) } := by
 obtain ⟨P, hs, S, _⟩ := SlR.put i I.sl r
 have sub : ∀ b ∈ P, b ∈ O := fun b hb => hs.subset hb
 have c : Car K (NN g.F fa O) fa H (NN g.F fa P) fa H := a4X fun b => NN.mono sub
 exact ⟨P, sub, hs.nodup I.nd, SlR.go c (fun _ _ _ z => z) S, fun b hb => I.fr b (sub b hb), I.st, I.tr, I.ff, I.fd.car c fun _ _ => rfl, fun b z y => I.nf b z (sub b y)⟩
theorem a00 {P : List Addr} (h : ∀ b ∈ P, b ∈ O) : StE fa O H fa P H := ⟨h, .inl rfl, fun _ _ e _ => e, fun _ e => e⟩
theorem NewL.put {p : Addr} {xs : List V} {ds : List D} (L : NewL K g σ H fa O s p xs ds) (i : Nat) (hi : i < s.sl.length) (h0 : g.H0 p = none) (hp : p ∉ O) : ∃ P, (∀ b ∈ P, b = p ∨ b ∈ O) ∧ GI K g (σ.set i (some (.ref p))) H fa P { s with sl := s.sl.set i (.own ds) } := by
 obtain ⟨P, h1, h2, S⟩ := SlR.putN i L.sl hi hp L.gi.nd L.ls L.rs
 have c : Car K (fun b => NN g.F fa O b ∨ b = p) fa H (NN g.F fa P) fa H := a4X fun b z => by
  rcases z with z | z | z
  ·exact .inl (.inl z)
  ·rcases h1 b z with y | y
   ·exact .inr y
   ·exact .inl (.inr (.inl y))
  ·exact .inl (.inr (.inr z))
 refine ⟨P, h1, h2, SlR.go c (fun _ _ _ z => z) S, fun b hb => ?_, L.gi.st, L.gi.tr, L.gi.ff, L.fd.car c fun _ _ => rfl, fun b z hb => ?_⟩
 ·rcases h1 b hb with y | y
  ·rw [y]; exact h0
  ·exact L.gi.fr b y
 ·rcases h1 b hb with y | y
  ·rw [y] at z; exact L.nf z
  ·exact L.gi.nf b z y
theorem DI.rew (I : GI K g σ H fa O s) {i : Nat} {ds es : List D} {a : Addr} {xs ys : List V} (e1 : s.sl[i]? = some (.own ds)) (e2 : σ[i]? = some (some (.ref a))) (m : a ∈ O) (e3 : H a = some (.lst xs)) (r : Reps K (NN g.F fa O) fa H es ys) :
  GI K g σ (upd H a (.lst ys)) fa O { s with sl := s.sl.set i (.own es) } ∧ Stp fa O H fa O (upd H a (.lst ys)) := by
 have a1 : Stp fa O H fa O (upd H a (.lst ys)) := ⟨fun b hb => .inl hb, .inl rfl, fun b u e n _ => by
  rw [p8 (show b ≠ a from fun z => n (by rw [z]; exact m))]; exact e, fun b z => by
  by_cases hb : b = a
  ·subst hb; rw [A9] at z; cases z
  ·rw [p8 hb] at z; exact z⟩
 have c := I.car a1
 have k : ∀ b u, b ≠ a → H b = some u → upd H a (.lst ys) b = some u := fun b u n e => by rw [p8 n]; exact e
 refine ⟨⟨I.nd, SlR.rew I.sl I.nd (fun b hb => .inr (.inl hb)) e1 e2 A9 c k (Reps.go c es ys r), I.fr, ?_, I.tr, I.ff, I.fd.car c fun b hb => ?_, I.nf⟩, a1⟩
 ·refine ⟨fun b hb => (by cases hb), I.st.fe, fun b u e n f => ?_, fun b z => I.st.mon b (a1.mon b z)⟩
  refine k b u (fun z => ?_) (I.st.same b u e n f)
  rw [z, I.fr a m] at e; cases e
 ·refine p8 fun z => ?_
  subst z
  exact I.nf _ hb m
end
theorem FlK.shift {K : PySem.W.Frag} {g : Gh} {E : Ends} {fa fa' : Option Addr} {O O' : List Addr} {H H' : Hp} {fl : Fl} {s : DS} (a : Stp fa O H fa' O' H') (h : FlK K g E fa O H fl s) : FlK K g E fa' O' H' fl s := by
 cases fl with
 | next => exact fun σ' H2 f2 O2 a2 I2 => h σ' H2 f2 O2 (a.trans a2) I2
 | brk => exact fun σ' H2 f2 O2 a2 I2 => h σ' H2 f2 O2 (a.trans a2) I2
 | cont => exact fun σ' H2 f2 O2 a2 I2 => h σ' H2 f2 O2 (a.trans a2) I2
 | ret d => exact fun σ' v H2 f2 O2 a2 I2 => h σ' v H2 f2 O2 (a.trans a2) I2
noncomputable def o8 : DM := fun s => some (.next, s)
noncomputable def C9 (b : DM) (x : Fl × DS) : Option (Fl × DS) := match x.1 with
 | .next => b x.2
 | .brk => some (.brk, x.2)
 | .cont => some (.cont, x.2)
 | .ret d => some (.ret d, x.2)
noncomputable def i4 (a b : DM) : DM := fun s => (a s).bind (C9 b)
section
variable {X : Cx} {g : Gh} {st : Stmt} {rest : List Stmt} {e : Expr} {pos : Pos} {a b : DM} {f : DE}
theorem B9 : SSO X g [] o8 := SSO.w b22 fun E σ H hQ__ => by
 obtain ⟨fa, O, s, fl, s', I, e, k⟩ := hQ__
 cases e
 exact k σ H fa O Stp.refl I
theorem j9 (h : SO X g st a) : SSO X g [st] a := ⟨b2p h.pe⟩
theorem i9 (h : SO X g st a) (hr : SSO X g rest b) : SSO X g (st :: rest) (i4 a b) := SSO.w (a9S h.pe hr.pe) fun E σ H hQ__ => by
 obtain ⟨fa, O, s, fl, s', I, e, k⟩ := hQ__
 obtain ⟨⟨f1, s1⟩, h1, h2⟩ := Option.bind_eq_some_iff.mp e
 refine ⟨fa, O, s, f1, s1, I, h1, ?_⟩
 cases f1 with
 | next => exact fun σ' H' f1 O1 a1 I1 => ⟨f1, O1, s1, fl, s', I1, h2, k.shift a1⟩
 | brk => cases h2; exact k
 | cont => cases h2; exact k
 | ret d => cases h2; exact k
noncomputable def k0 (f : DE) : DM := fun s => (f s).map fun x => (.ret x.1, x.2)
theorem l8 (he : EO X g e f) : SO X g (.Return (some e) pos) (k0 f) := SO.w (b4f he.pe) fun E σ H hQ__ => by
 obtain ⟨fa, O, s, fl, s', I, q, k⟩ := hQ__
 obtain ⟨⟨d, s1⟩, h1, h2⟩ := Option.map_eq_some_iff.mp q
 cases h2
 exact ⟨fa, O, s, d, s1, I, h1, fun v H' f1 O1 a1 I1 r => k σ v H' f1 O1 a1.stp I1 r⟩
noncomputable def n0 (c : DT) (a b : DM) : DM := fun s => (c s).bind fun x => if x.1 = true then a x.2 else b x.2
theorem B6 {c : Expr} {fc : DT} {la lb : List Stmt} (hc : TO X g c fc) (ha : SSO X g la a) (hb : SSO X g lb b) : SO X g (.If c la lb pos) (n0 fc a b) := SO.w (b2M hc.pe ha.pe hb.pe) fun E σ H hQ__ => by
 obtain ⟨fa, O, s, fl, s', I, e, k⟩ := hQ__
 obtain ⟨⟨x, s1⟩, h1, h⟩ := Option.bind_eq_some_iff.mp e
 refine ⟨fa, O, s, x, s1, I, h1, fun H1 f1 O1 a1 I1 => ?_⟩
 cases x with
 | false => rw [if_neg Bool.false_ne_true] at h ⊢; exact ⟨f1, O1, s1, fl, s', I1, h, k.shift a1.stp⟩
 | true => rw [if_pos rfl] at h ⊢; exact ⟨f1, O1, s1, fl, s', I1, h, k.shift a1.stp⟩
noncomputable def a0K (K : PySem.W.Frag) (g : Gh) (t : D → DS → Option DS) : TG := fun v σ H Q => ∃ fa O s d s', GI K g σ H fa O s ∧ Rep K (NN g.F fa O) fa H d v ∧ t d s = some s' ∧ ∀ σ' H' fa' O', Stp fa O H fa' O' H' → GI K g σ' H' fa' O' s' → Q σ' H'
noncomputable def a5s (K : PySem.W.Frag) (g : Gh) (t : List D → DS → Option DS) : TGs := fun vs σ H Q => ∃ fa O s ds s', GI K g σ H fa O s ∧ Reps K (NN g.F fa O) fa H ds vs ∧ t ds s = some s' ∧ ∀ σ' H' fa' O', Stp fa O H fa' O' H' → GI K g σ' H' fa' O' s' → Q σ' H'
structure GO (X : Cx) (g : Gh) (e : Expr) (t : D → DS → Option DS) : Prop where
 pe : PG X e (a0K X.K g t)
structure GsO (X : Cx) (g : Gh) (es : List Expr) (t : List D → DS → Option DS) : Prop where
 pe : PGs X es (a5s X.K g t)
noncomputable def e7 (i : Nat) (d : D) : DS → Option DS := fun s => some { s with sl := s.sl.set i (.val d) }
theorem PGw {t t' : TG} (h : PG X e t) (w : ∀ v σ H Q, t' v σ H Q → t v σ H Q) : PG X e t' := fun pins s σ H v u Q I r q => h pins s σ H v u Q I r (w v σ H Q q)
theorem a9B {es : List Expr} {t t' : TGs} (h : PGs X es t) (w : ∀ v σ H Q, t' v σ H Q → t v σ H Q) : PGs X es t' := fun pins s σ H v u Q I r q => h pins s σ H v u Q I r (w v σ H Q q)
theorem GO.w {f : D → DS → Option DS} {t : TG} (h : PG X e t) (w : ∀ v σ H Q, a0K X.K g f v σ H Q → t v σ H Q) : GO X g e f := ⟨PGw h w⟩
theorem GsO.w {es : List Expr} {f : List D → DS → Option DS} {t : TGs} (h : PGs X es t) (w : ∀ v σ H Q, a5s X.K g f v σ H Q → t v σ H Q) : GsO X g es f := ⟨a9B h w⟩
theorem u7 {i : Nat} {x : Str} (h : PG X (.Name x pos) (K9 i)) : GO X g (.Name x pos) (e7 i) := GO.w h fun v σ H Q hQ__ => by
 obtain ⟨fa, O, s, d, s', I, r, e, k⟩ := hQ__
 cases e
 obtain ⟨P, sub, I'⟩ := I.put i r
 exact k _ H fa P (a00 sub).stp I'
noncomputable def u6 : List D → DS → Option DS
 | [], s => some s
 | _ :: _, _ => none
noncomputable def m8 (t : D → DS → Option DS) (u : List D → DS → Option DS) : List D → DS → Option DS
 | [], _ => none
 | d :: r, s => (t d s).bind (u r)
theorem F6 : GsO X g [] u6 := GsO.w a1U fun v σ H Q hQ__ => by
 obtain ⟨fa, O, s, ds, s', I, r, e, k⟩ := hQ__
 cases ds with
 | nil => cases e; simp only [Reps] at r; exact ⟨r, k σ H fa O Stp.refl I⟩
 | cons d r' => cases e
theorem v7 {es : List Expr} {t : D → DS → Option DS} {u : List D → DS → Option DS} (h : GO X g e t) (hr : GsO X g es u) (hs : (assignEach (e :: es) X.env).map (·.2) = assign e X.env :: (assignEach es X.env).map (·.2) := by rfl) : GsO X g (e :: es) (m8 t u) :=
 GsO.w (a0w h.pe hr.pe hs) fun v σ H Q hQ__ => by
  obtain ⟨fa, O, s, ds, s', I, r, e, k⟩ := hQ__
  cases ds with
  | nil => cases e
  | cons d r' =>
   obtain ⟨s1, h1, h2⟩ := Option.bind_eq_some_iff.mp e
   simp only [Reps] at r
   obtain ⟨x, ys, rfl, rx, ry⟩ := r
   exact ⟨x, ys, rfl, fa, O, s, d, s1, I, rx, h1, fun σ1 H1 f1 O1 a1 I1 => ⟨f1, O1, s1, r', s', I1, Reps.stp I a1 ry, h2, fun σ2 H2 f2 O2 a2 I2 => k σ2 H2 f2 O2 (a1.trans a2) I2⟩⟩
noncomputable def u5 (n : Nat) (u : List D → DS → Option DS) (d : D) (s : DS) : Option DS := match d with
 | .tup ds => if ds.length = n then u ds s else none
 | _ => none
theorem F8 {es : List Expr} {k : Nat} {n : Nat} {u : List D → DS → Option DS} (hc : X.calm = true) (h : GsO X g es u) (hn : (assignEach es X.env).length = n := by rfl) (hst : (assignEach es X.env).findIdx? (·.1) = none := by rfl) : GO X g (.Tuple es k pos) (u5 n u) :=
 GO.w (a3j hc h.pe hn hst) fun v σ H Q hQ__ => by
  obtain ⟨fa, O, s, d, s', I, r, e, k⟩ := hQ__
  cases d with
  | tup ds =>
   simp only [u5] at e
   by_cases hl : ds.length = n
   ·rw [if_pos hl] at e
    simp only [Rep] at r
    obtain ⟨a, xs, rfl, q, w⟩ := r
    exact ⟨a, xs, rfl, q, by rw [w.length]; exact hl, fa, O, s, ds, s', I, w, e, k⟩
   ·rw [if_neg hl] at e; cases e
  | _ => cases e
noncomputable def j5 (f : DE) (t : D → DS → Option DS) : DM := fun s => (f s).bind fun x => (t x.1 x.2).map fun s' => (.next, s')
theorem a6J {f : DE} {t : D → DS → Option DS} (E : Ends) (σ : L2.St) (H : Hp) (h : W5 X.K g (j5 f t) E σ H) : Z7 (G6 X.K g f) (a0K X.K g t) E σ H := by
 obtain ⟨fa, O, s, fl, s', I, q, k⟩ := h
 obtain ⟨⟨d, s1⟩, h1, h2⟩ := Option.bind_eq_some_iff.mp q
 obtain ⟨s2, h3, h4⟩ := Option.map_eq_some_iff.mp h2
 cases h4
 exact ⟨fa, O, s, d, s1, I, h1, fun v H1 f1 O1 a1 I1 r => ⟨f1, O1, s1, d, _, I1, r, h3, fun σ2 H2 f2 O2 a2 I2 => k σ2 H2 f2 O2 (a1.stp.trans a2) I2⟩⟩
theorem P8 {tg : Expr} {t : D → DS → Option DS} (he : EO X g e f) (hg : GO X g tg t) (hs : swapsWithSole [tg] e pos.line X.env = pure false := by rfl) (hw : swappedStores [tg] e X.env = pure none := by rfl)
  (h1 : (assignEach [tg] X.env).map (·.2) = [assign tg X.env] := by rfl) : SO X g (.Assign [tg] e pos) (j5 f t) := SO.w (a4T he.pe hg.pe hs hw h1) a6J
theorem l5 {i : Nat} {x : Str} {pos' : Pos} (hN : X.N.Nodup) (hi : X.N[i]? = some x) (hx : Loc X.env.scope x) (he : EO X g e f) (hs : swapsWith e (some (.Name x pos')) pos.line X.env = pure false := by rfl) (hf : X.fn x = true ∨ X.env.scope.names.lookup x = some .local := by first | exact .inl rfl | exact .inr rfl | assumption) :
  SO X g (.Assign [.Name x pos'] e pos) (j5 f (e7 i)) := SO.w (a7O hN hi hx he.pe hs hf) fun E σ H h => by
 obtain ⟨fa, O, s, d, s1, I, h1, k⟩ := a6J E σ H h
 refine ⟨fa, O, s, d, s1, I, h1, fun v H1 f1 O1 a1 I1 r => ?_⟩
 obtain ⟨f2, O2, s2, d2, s3, I2, r2, e2, k2⟩ := k v H1 f1 O1 a1 I1 r
 cases e2
 obtain ⟨P, sub, I'⟩ := I2.put i r2
 exact k2 _ H1 f2 P (a00 sub).stp I'
noncomputable def B5 (i : Nat) (f : DA) : DM := fun s => (f s).bind fun x => if i < x.2.sl.length then some (.next, { x.2 with sl := x.2.sl.set i (.own x.1) }) else none
theorem F5 {i : Nat} {x : Str} {f : DA} {pos' : Pos} (hN : X.N.Nodup) (hi : X.N[i]? = some x) (hx : Loc X.env.scope x) (he : FO X g e f) (hs : swapsWith e (some (.Name x pos')) pos.line X.env = pure false := by rfl) (hf : X.fn x = true ∨ X.env.scope.names.lookup x = some .local := by first | exact .inl rfl | exact .inr rfl | assumption) :
  SO X g (.Assign [.Name x pos'] e pos) (B5 i f) := SO.w (a7O hN hi hx he.pe hs hf) fun E σ H hQ__ => by
 obtain ⟨fa, O, s, fl, s', I, q, k⟩ := hQ__
 obtain ⟨⟨ds, s1⟩, h1, h2⟩ := Option.bind_eq_some_iff.mp q
 by_cases hl : i < s1.sl.length
 ·simp only [] at h2
  rw [if_pos hl] at h2
  cases h2
  refine ⟨fa, O, s, ds, s1, I, h1, fun p xs H1 f1 O1 a1 L hp => ?_⟩
  have np : p ∉ O1 := fun z => by
   obtain ⟨ys, e⟩ := I.owned (a1.sub p z)
   rw [hp] at e; cases e
  obtain ⟨P, sub, I'⟩ := L.put i hl (I.st.mon p hp) np
  refine k _ H1 f1 P ⟨fun b hb => ?_, a1.fe, fun b u e _ n => a1.same b u e n, a1.mon⟩ I'
  rcases sub b hb with y | y
  ·exact .inr (by rw [y]; exact hp)
  ·exact .inl (a1.sub b y)
 ·simp only [] at h2
  rw [if_neg hl] at h2; cases h2
noncomputable def F4 (i : Nat) (f : DE) : DM := fun s => match s.sl[i]? with
 | some (.own _) => (f s).bind fun x => match x.2.sl[i]? with
  | some (.own ds) => if ds.length < sizeLine then some (.next, { x.2 with sl := x.2.sl.set i (.own (ds ++ [x.1])) }) else none
  | _ => none
 | _ => none
theorem U5 {i : Nat} {x : Str} {p1 p2 p3 p4 : Pos} (hv : PE X (.Name x p1) (T3 i)) (he : EO X g e f) (hbase : attributeBase (.Name x p1) ("append" : Str) X.env (eval (.Name x p1) X.env) = eval (.Name x p1) X.env := by rfl)
  (hfew : ((backTo p3 (starEach [e] X.env)).all (fun x => !x.1) && (backToKw p3 (keywordEach [] X.env)).all (fun x => x.1.isSome)
   && decide ([e].length + ([] : List Keyword).length + (if ([] : List Keyword).isEmpty then 0 else 1) < 30)) = true := by rfl)
  (hline : (p2.endLine == p3.line) = true := by rfl) (hs : starEach [e] X.env = (false, eval e X.env) :: starEach [] X.env := by rfl) (hplain : (backTo p3 (starEach [] X.env)).any (·.1) = false := by rfl)
  (hsw : swapsWith (.Call (.Attribute (.Name x p1) ("append" : Str) p2) [e] [] p3) none p4.line X.env = pure false := by rfl) :
  SO X g (.Expr (.Call (.Attribute (.Name x p1) ("append" : Str) p2) [e] [] p3) p4) (F4 i f) :=
 SO.w (b13 (a9r PySem.F.plainAttrs_list PySem.F.slot_list_append PySem.F.type_list_append a3k hv (X7 he.pe a1k hs) hbase hfew hline hs hplain) hsw) fun E σ H hQ__ => by
  obtain ⟨fa, O, s, fl, s', I, q, k⟩ := hQ__
  cases q0 : s.sl[i]? with
  | none => simp only [F4, q0] at q; cases q
  | some z =>
  cases z with
  | no => simp only [F4, q0] at q; cases q
  | val _ => simp only [F4, q0] at q; cases q
  | own ds0 =>
  simp only [F4, q0] at q
  obtain ⟨a, xs0, e1, m, e2, _⟩ := SlR.own I.sl q0
  obtain ⟨⟨d, s1⟩, h1, h2⟩ := Option.bind_eq_some_iff.mp q
  cases q2 : s1.sl[i]? with
  | none => simp only [q2] at h2; cases h2
  | some z =>
   cases z with
   | no => simp only [q2] at h2; cases h2
   | val _ => simp only [q2] at h2; cases h2
   | own ds =>
    simp only [q2] at h2
    by_cases hl : ds.length < sizeLine
    ·rw [if_pos hl] at h2
     cases h2
     refine ⟨_, e1, .inl ⟨rfl, xs0, SqL.of e2⟩, fa, O, s, d, s1, I, h1, fun v H1 f1 O1 a1 I1 r => ?_⟩
     obtain ⟨b, xs, e3, m1, e4, r1⟩ := SlR.own I1.sl q2
     rw [e1] at e3; cases e3
     obtain ⟨I2, a2⟩ := I1.rew q2 e1 m1 e4 (Reps.append r1 (Reps.one r))
     exact ⟨a, xs, v, rfl, rfl, e4, by rw [r1.length]; exact hl, k σ _ f1 O1 (a1.stp.trans a2) I2⟩
    ·rw [if_neg hl] at h2; cases h2
end
noncomputable def A1 (t : D → DS → Option DS) (b : DM) : List D → DS → Option (Fl × DS)
 | [], s => some (.next, s)
 | d :: r, s => (t d s).bind fun s1 => (b s1).bind fun x => match x.1 with
  | .next => A1 t b r x.2
  | .cont => A1 t b r x.2
  | .brk => some (.next, x.2)
  | .ret v => some (.ret v, x.2)
noncomputable def PvD (K : PySem.W.Frag) (g : Gh) (f1 : Option Addr) (O1 : List Addr) (H1 : Hp) (t : D → DS → Option DS) (b : DM) (ds : List D) (fl : Fl) (sf : DS) (i : Nat) : L2.St → Hp → Prop := fun σ' H' =>
 ∃ fa' O' s', Stp f1 O1 H1 fa' O' H' ∧ GI K g σ' H' fa' O' s' ∧ A1 t b (ds.drop i) s' = some (fl, sf)
section
variable {K : PySem.W.Frag} {g : Gh} {f1 : Option Addr} {O1 : List Addr} {H1 H' : Hp} {t : D → DS → Option DS} {b : DM} {ds : List D} {fl : Fl} {sf : DS} {i : Nat} {E : Ends} {σ' : L2.St}
theorem a6e {α : Type} {l : List α} {i : Nat} {d : α} (h : l[i]? = some d) : l.drop i = d :: l.drop (i + 1) := by
 obtain ⟨hi, e⟩ := List.getElem?_eq_some_iff.mp h
 rw [List.drop_eq_getElem_cons hi, e]
theorem a1G (hk : FlK K g E f1 O1 H1 fl sf) {d : D} {x : V} (hd : ds[i]? = some d) (hr : ∀ fa' O', Stp f1 O1 H1 fa' O' H' → Rep K (NN g.F fa' O') fa' H' d x) (h : PvD K g f1 O1 H1 t b ds fl sf i σ' H') :
  a0K K g t x σ' H' fun σ2 H2 => W5 K g b { E with nx := PvD K g f1 O1 H1 t b ds fl sf (i + 1), ct := PvD K g f1 O1 H1 t b ds fl sf (i + 1), bk := E.nx } σ2 H2 := by
 obtain ⟨fa', O', s', st, I, e⟩ := h
 rw [a6e hd, A1] at e
 obtain ⟨s1, h1, h2⟩ := Option.bind_eq_some_iff.mp e
 obtain ⟨⟨fb, s2⟩, h3, h4⟩ := Option.bind_eq_some_iff.mp h2
 refine ⟨fa', O', s', d, s1, I, hr fa' O' st, h1, fun σ2 H2 f2 O2 a2 I2 => ⟨f2, O2, s1, fb, s2, I2, h3, ?_⟩⟩
 cases fb with
 | next => exact fun σ3 H3 f3 O3 a3 I3 => ⟨f3, O3, s2, st.trans (a2.trans a3), I3, h4⟩
 | cont => exact fun σ3 H3 f3 O3 a3 I3 => ⟨f3, O3, s2, st.trans (a2.trans a3), I3, h4⟩
 | brk => cases h4; exact fun σ3 H3 f3 O3 a3 I3 => hk σ3 H3 f3 O3 (st.trans (a2.trans a3)) I3
 | ret v => cases h4; exact fun σ3 v H3 f3 O3 a3 I3 r => hk σ3 v H3 f3 O3 (st.trans (a2.trans a3)) I3 r
theorem a1D (hk : FlK K g E f1 O1 H1 fl sf) {n : Nat} (hn : ds.length ≤ n) (h : PvD K g f1 O1 H1 t b ds fl sf n σ' H') : E.nx σ' H' := by
 obtain ⟨fa', O', s', st, I, e⟩ := h
 rw [List.drop_eq_nil_of_le hn, A1] at e
 cases e
 exact hk σ' H' fa' O' st I
end
noncomputable def G9 (f : DE) (t : D → DS → Option DS) (b : DM) : DM := fun s => (f s).bind fun x => match x.1 with
 | .lst ds => A1 t b ds x.2
 | .tup ds => A1 t b ds x.2
 | _ => none
section
variable {X : Cx} {g : Gh} {tg iter : Expr} {body : List Stmt} {f : DE} {t : D → DS → Option DS} {b : DM} {pos : Pos}
noncomputable def a9j (K : PySem.W.Frag) (tl : TE) : TI := fun σ H R => tl σ H fun x H1 => ∃ a, x = .ref a ∧ (((∃ xs, SqL K H1 a xs) ∧ R (Itl K a) H1) ∨ ((∃ xs, SqT K H1 a xs) ∧ R (Itt K a) H1))
theorem a6R {l : Expr} {tl : TE} (hl : PE X l tl) : PI X tg l (a9j X.K tl) := by
 intro pins s σ H R I h
 refine thn (hl pins s σ H _ I h) fun v s1 ⟨x, H1, I1, r1, q1⟩ => ?_
 obtain ⟨a, e, q⟩ := q1
 subst e
 cases r1
 rcases q with ⟨⟨xs, hq⟩, q⟩ | ⟨⟨xs, hq⟩, q⟩
 ·obtain ⟨its, rv, p, hz⟩ := I1.list hq
  refine wpAny_pyIter_list p.isList ?_
  refine ⟨s1.heap.objs.size, [s1.heap.objs.size], _, _, H1, rfl, I1.kept (t' := s1.toks) fun b o e => Heap.get?_push_of_some _ e, b3o a _, ⟨_, Heap.get?_push_size _ rfl, rfl, rfl⟩, fun b hb => ?_, q⟩
  have e : b = s1.heap.objs.size := by simpa using hb
  subst e
  exact I1.fpOk (Nat.le_refl _) (I1.hok.fresh (Nat.le_refl _))
 ·obtain ⟨its, rv, p, hz⟩ := I1.tuple hq
  refine wpAny_pyIter_tuple (show s1.heap.IsTuple a its.toArray from p) ?_
  refine ⟨s1.heap.objs.size, [s1.heap.objs.size], _, _, H1, rfl, I1.kept (t' := s1.toks) fun b o e => Heap.get?_push_of_some _ e, b2F a _, ⟨_, Heap.get?_push_size _ rfl, rfl, rfl⟩, fun b hb => ?_, q⟩
  have e : b = s1.heap.objs.size := by simpa using hb
  subst e
  exact I1.fpOk (Nat.le_refl _) (I1.hok.fresh (Nat.le_refl _))
theorem U4 (hp : PassesOwn (model X.prog X.w) X.A X.env X.xe) (hc : X.calm = true) (he : EO X g iter f) (hg : GO X g tg t) (hb : SSO X g body b) (hs : ∀ x, foldedSetIterable iter X.env x = pure x := by intro _; rfl) :
  SO X g (.For tg iter body [] pos) (G9 f t b) := SO.w (a2u hp hc (a6R he.pe) hg.pe hb.pe hs) fun E σ H hQ__ => by
 obtain ⟨fa, O, s, fl, sf, I, q, k⟩ := hQ__
 obtain ⟨⟨d, s1⟩, h1, h2⟩ := Option.bind_eq_some_iff.mp q
 refine ⟨fa, O, s, d, s1, I, h1, fun v H1 f1 O1 a1 I1 r => ?_⟩
 have k1 := k.shift a1.stp
 cases d with
 | lst ds =>
  simp only [Rep] at r
  obtain ⟨a, xs, rfl, na, q, w⟩ := r
  refine ⟨a, rfl, .inl ⟨⟨xs, SqL.of q⟩, a8i (xs := xs) (PvD X.K g f1 O1 H1 t b ds fl sf) ⟨f1, O1, s1, Stp.refl, I1, h2⟩ ?_ ?_ ?_⟩⟩
  ·rintro i σ' H' _ ⟨fa', O', s', st, I', e⟩
   exact SqL.of ((I1.car st).ls a xs na q).1
  ·intro i x σ' H' hx h
   obtain ⟨d, hd, rd⟩ := Reps.get' w hx
   exact a1G k1 hd (fun fa' O' st => Rep.stp I1 st rd) h
  ·intro σ' H' h
   exact a1D k1 (Nat.le_of_eq w.length.symm) h
 | tup ds =>
  simp only [Rep] at r
  obtain ⟨a, xs, rfl, q, w⟩ := r
  refine ⟨a, rfl, .inr ⟨⟨xs, q⟩, a0z (xs := xs) (PvD X.K g f1 O1 H1 t b ds fl sf) ⟨f1, O1, s1, Stp.refl, I1, h2⟩ ?_ ?_ ?_⟩⟩
  ·rintro i σ' H' _ ⟨fa', O', s', st, I', e⟩
   exact (I1.car st).tp a xs q
  ·intro i x σ' H' hx h
   obtain ⟨d, hd, rd⟩ := Reps.get' w hx
   exact a1G k1 hd (fun fa' O' st => Rep.stp I1 st rd) h
  ·intro σ' H' h
   exact a1D k1 (Nat.le_of_eq w.length.symm) h
 | _ => cases h2
noncomputable def ups (lo : Int) (n : Nat) : List D := (List.range n).map fun (i : Nat) => D.int (lo + (i : Int))
theorem a35 {lo : Int} {n i : Nat} (h : i < n) : (ups lo n)[i]? = some (.int (lo + (i : Int))) := by simp [ups, h]
theorem O5 (lo : Int) (n : Nat) : (ups lo n).length = n := by simp [ups]
noncomputable def S3 : List D → Option (List D)
 | [.int j] => if -(2 ^ 62) ≤ j ∧ j < 2 ^ 62 then some (ups 0 j.toNat) else none
 | [.int i, .int j] => if -(2 ^ 62) ≤ i ∧ i < 2 ^ 62 ∧ -(2 ^ 62) ≤ j ∧ j < 2 ^ 62 then some (ups i (j - i).toNat) else none
 | _ => none
noncomputable def a0e (f : DA) (t : D → DS → Option DS) (b : DM) : DM := fun s => (f s).bind fun x => (S3 x.1).bind fun ds => A1 t b ds x.2
theorem a6w {ds es : List D} {a : D} (h : S3 ds = some es) (l : ds = [a]) : ∃ j : Int, a = .int j ∧ -(2 ^ 62) ≤ j ∧ j < 2 ^ 62 ∧ es = ups 0 j.toNat := by
 subst l
 cases a with
 | int j =>
  have h : (if -(2 ^ 62) ≤ j ∧ j < 2 ^ 62 then some (ups 0 j.toNat) else none) = some es := h
  by_cases hj : -(2 ^ 62) ≤ j ∧ j < 2 ^ 62
  ·rw [if_pos hj] at h; cases h; exact ⟨j, rfl, hj.1, hj.2, rfl⟩
  ·rw [if_neg hj] at h; cases h
 | _ => cases h
theorem a6p {a : Expr} {fa : DE} {p cpos : Pos} (hp : PassesOwn (model X.prog X.w) X.A X.env X.xe) (hc : X.calm = true) (hgl : Gl X "range") (hm : X.mg "range" = none) (ha : EO X g a fa) (hg : GO X g tg t) (hb : SSO X g body b)
  (hs1 : starEach [a] X.env = [(false, eval a X.env)] := by rfl) (hs : ∀ x, foldedSetIterable (.Call (.Name "range" p) [a] [] cpos) X.env x = pure x := by intro _; rfl) :
  SO X g (.For tg (.Call (.Name "range" p) [a] [] cpos) body [] pos) (a0e (a7 fa a8) t b) :=
 SO.w (a2u hp hc (a58 hgl hm (a4H ha b6 hs1).pe hs1) hg.pe hb.pe hs) fun E σ H hQ__ => by
  obtain ⟨fa, O, s, fl, sf, I, q, k⟩ := hQ__
  obtain ⟨⟨ds, s1⟩, h1, h2⟩ := Option.bind_eq_some_iff.mp q
  obtain ⟨es, h3, h4⟩ := Option.bind_eq_some_iff.mp h2
  obtain ⟨d, s2, rs, e1, e2, e3⟩ := a0t h1
  cases e2
  obtain ⟨j, rfl, j1, j2, rfl⟩ := a6w h3 e3
  refine ⟨fa, O, s, ds, s1, I, h1, fun vs H1 f1 O1 a1 I1 r => ?_⟩
  have k1 := k.shift a1.stp
  rw [e3] at r
  simp only [Reps, Rep] at r
  obtain ⟨x, ys, rfl, rfl, rfl⟩ := r
  refine ⟨j, rfl, j1, j2, a8R (lo := 0) (n := j.toNat) (PvD X.K g f1 O1 H1 t b (ups 0 j.toNat) fl sf) ⟨f1, O1, s1, Stp.refl, I1, h4⟩ ?_ ?_⟩
  ·intro i σ' H' hi h
   exact a1G k1 (a35 hi) (fun fa' O' st => by simp only [Rep]) h
  ·intro σ' H' h
   exact a1D k1 (by rw [O5]; exact Nat.le_refl _) h
noncomputable def whN (c : DT) (b : DM) : Nat → DS → Option (Fl × DS)
 | 0, _ => none
 | n + 1, s => (c s).bind fun x => if x.1 = true then (b x.2).bind fun y => match y.1 with
   | .next => whN c b n y.2
   | .cont => whN c b n y.2
   | .brk => some (.next, y.2)
   | .ret v => some (.ret v, y.2)
  else some (.next, x.2)
open Classical in
noncomputable def A8 (c : DT) (b : DM) : DM := fun s => if h : ∃ n r, whN c b n s = some r then whN c b h.choose s else none
theorem a3N {c : DT} {b : DM} : ∀ (n : Nat) {s : DS} {r : Fl × DS}, whN c b n s = some r → whN c b (n + 1) s = some r
 | 0, s, r, h => by cases h
 | n + 1, s, r, h => by
  rw [whN] at h ⊢
  obtain ⟨⟨x, s1⟩, h1, h2⟩ := Option.bind_eq_some_iff.mp h
  refine Option.bind_eq_some_iff.mpr ⟨(x, s1), h1, ?_⟩
  cases x with
  | false => exact h2
  | true =>
   simp only [if_true] at h2 ⊢
   obtain ⟨⟨y, s2⟩, h3, h4⟩ := Option.bind_eq_some_iff.mp h2
   refine Option.bind_eq_some_iff.mpr ⟨(y, s2), h3, ?_⟩
   cases y with
   | next => exact a3N n h4
   | cont => exact a3N n h4
   | brk => exact h4
   | ret v => exact h4
theorem a5V {c : DT} {b : DM} {n m : Nat} (hnm : n ≤ m) {s : DS} {r : Fl × DS} (h : whN c b n s = some r) : whN c b m s = some r := by
 induction hnm with
 | refl => exact h
 | step _ ih => exact a3N _ ih
theorem a70 {c : DT} {b : DM} {n : Nat} {s : DS} {r : Fl × DS} (h : whN c b n s = some r) : A8 c b s = some r := by
 have hx : ∃ n r, whN c b n s = some r := ⟨n, r, h⟩
 unfold A8
 rw [dif_pos hx]
 obtain ⟨r', h'⟩ := hx.choose_spec
 have e1 := a5V (Nat.le_max_left n hx.choose) h
 have e2 := a5V (Nat.le_max_right n hx.choose) h'
 rw [e1] at e2
 rw [h', e2]
theorem a53 {c : DT} {b : DM} {s : DS} {r : Fl × DS} (h : A8 c b s = some r) : ∃ n, whN c b n s = some r := by
 unfold A8 at h
 by_cases hx : ∃ n r, whN c b n s = some r
 ·rw [dif_pos hx] at h; exact ⟨_, h⟩
 ·rw [dif_neg hx] at h; cases h
theorem P6 {c : DT} {b : DM} {s s1 s2 : DS} {r : Fl × DS} (h1 : c s = some (true, s1)) (h2 : b s1 = some (.next, s2)) (h3 : A8 c b s2 = some r) : A8 c b s = some r := by
 obtain ⟨n, h⟩ := a53 h3
 refine a70 (n := n + 1) ?_
 rw [whN, h1]
 simp only [Option.bind_some, if_true, h2]
 exact h
theorem O8 {c : DT} {b : DM} {s s1 : DS} (h1 : c s = some (false, s1)) : A8 c b s = some (.next, s1) := by
 refine a70 (n := 1) ?_
 rw [whN, h1]
 simp
theorem Q8 {c : Expr} {fc : DT} (hp : PassesOwn (model X.prog X.w) X.A X.env X.xe) (hc : TO X g c fc) (hb : SSO X g body b) : SO X g (.While c body [] pos) (A8 fc b) := SO.w (b4b hp hc.pe hb.pe) fun E σ H hQ__ => by
 obtain ⟨fa, O, s, fl, sf, I, q, k⟩ := hQ__
 obtain ⟨n, h⟩ := a53 q
 refine ⟨fun m σ' H' => ∃ fa' O' s', Stp fa O H fa' O' H' ∧ GI X.K g σ' H' fa' O' s' ∧ whN fc b m s' = some (fl, sf), ⟨n, fa, O, s, Stp.refl, I, h⟩, ?_⟩
 rintro m σ1 H1 ⟨f1, O1, s1, a1, I1, h1⟩
 cases m with
 | zero => cases h1
 | succ m =>
  rw [whN] at h1
  obtain ⟨⟨x, s2⟩, h2, h3⟩ := Option.bind_eq_some_iff.mp h1
  refine ⟨f1, O1, s1, x, s2, I1, h2, fun H2 f2 O2 a2 I2 => ?_⟩
  cases x with
  | false => rw [if_neg Bool.false_ne_true] at h3 ⊢; cases h3; exact k σ1 H2 f2 O2 (a1.trans a2.stp) I2
  | true =>
   rw [if_pos rfl] at h3 ⊢
   obtain ⟨⟨y, s3⟩, h4, h5⟩ := Option.bind_eq_some_iff.mp h3
   refine ⟨fun σ' H' => ∃ fa' O' s', Stp fa O H fa' O' H' ∧ GI X.K g σ' H' fa' O' s' ∧ whN fc b m s' = some (fl, sf), fun σ' H' z => ⟨m, Nat.lt_succ_self m, z⟩, f2, O2, s2, y, s3, I2, h4, ?_⟩
   have a12 := a1.trans a2.stp
   cases y with
   | next => exact fun σ3 H3 f3 O3 a3 I3 => ⟨f3, O3, s3, a12.trans a3, I3, h5⟩
   | cont => exact fun σ3 H3 f3 O3 a3 I3 => ⟨f3, O3, s3, a12.trans a3, I3, h5⟩
   | brk => cases h5; exact fun σ3 H3 f3 O3 a3 I3 => k σ3 H3 f3 O3 (a12.trans a3) I3
   | ret v => cases h5; exact fun σ3 v H3 f3 O3 a3 I3 r => k σ3 v H3 f3 O3 (a12.trans a3) I3 r
end
noncomputable abbrev DFn := List D → Option FS → Option (D × Option FS)
noncomputable def spD (K : PySem.W.Frag) (n : Nat) (m : DFn) : Sp := fun vs H Q _ => ∃ (F : Addr → Prop) (fa : Option Addr) (ds : List D) (fs : Option FS) (d : D) (fs' : Option FS),
 (∀ b, F b → H b ≠ none) ∧ (∀ a, fa = some a → F a) ∧ Reps K F fa H ds vs ∧ FeedR F H fa fs ∧ m ds fs = some (d, fs') ∧ ds.length = n ∧
  ∀ v H' fa', Stp fa [] H fa' [] H' → FeedR (fun b => F b ∨ fa' = some b) H' fa' fs' → Rep K (fun b => F b ∨ fa' = some b) fa' H' d v → Q v H'
noncomputable abbrev FnD (P : Program) (w : World) (K : PySem.W.Frag) (mg : Str → Option Value) (base : Heap) (k : Nat) (f : Addr) (fd : FuncData) (ps : List Str) (m : DFn) : Prop := FnOk P w K mg base CX0 k f fd ps (spD K ps.length m)
noncomputable def mFn (n : Nat) (b : DM) : DFn := fun ds fs => (b ⟨ds.map .val ++ List.replicate (n - ds.length) .no, fs⟩).bind fun x => match x.1 with
 | .ret d => some (d, x.2.fs)
 | .next => some (.non, x.2.fs)
 | _ => none
theorem a4K {K : PySem.W.Frag} {N : Addr → Prop} {fa : Option Addr} {H : Hp} : ∀ n : Nat, SlR K N fa H (List.replicate n .no) (List.replicate n none) []
 | 0 => by simp [SlR]
 | n + 1 => by
  simp only [List.replicate_succ, SlR]
  exact ⟨_, _, rfl, a4K n⟩
theorem a4L {K : PySem.W.Frag} {N : Addr → Prop} {fa : Option Addr} {H : Hp} {n : Nat} : ∀ {ds : List D} {vs : List V}, Reps K N fa H ds vs → SlR K N fa H (ds.map .val ++ List.replicate n .no) (vs.map some ++ List.replicate n none) []
 | [], vs, h => by simp only [Reps] at h; subst h; simpa using a4K n
 | d :: r, vs, h => by
  simp only [Reps] at h
  obtain ⟨x, ys, rfl, h1, h2⟩ := h
  simp only [List.map_cons, List.cons_append, SlR]
  exact ⟨x, _, rfl, h1, a4L h2⟩
section
variable {P : Program} {w : World} {K : PySem.W.Frag} {mg : Str → Option Value} {base : Heap}
theorem a4S {x qual : Str} {st : Stmt} {f : Addr} {fd : FuncData} {N ps : List Str} {k : Nat} {b : DM} (F : Fun K x qual st f fd) (S : FnScope N ps (l7 st))
  (hbody : ∀ (cdv : Value) (A : Around) (outer : List Env) (s : Shared) (H : Hp) (E : XK) (g : Gh), Room k (A.deeper (PyProof.Rows.envOfC qual (l7 st) s.heap.objs.size f cdv)) → SSO (O6 CX0 P w K mg base N qual (l7 st) f cdv A outer s H E).nox g (J7 st) b) :
  FnD P w K mg base (k + 1) f fd ps (mFn N.length b) := by
 refine F.ok S (fun vs H Q E h => ?_) (fun cdv A outer s H vs Q E hr h => ?_)
 ·obtain ⟨F, fa, ds, fs, d, fs', _, _, r, _, _, hl, _⟩ := h
  rw [r.length]; exact hl
 obtain ⟨F, fa, ds, fs, d, fs', tr, ff, r, fd, e, hl, q⟩ := h
 refine ⟨_, (hbody cdv A outer s H E ⟨F, H, fa⟩ hr).pe, ?_⟩
 obtain ⟨⟨fl, s'⟩, h1, h2⟩ := Option.bind_eq_some_iff.mp e
 have hN : ∀ b, NN F fa [] b → F b := fun b z => by
  rcases z with z | z | z
  ·exact z
  ·cases z
  ·exact ff b z
 have c : Car K F fa H (NN F fa []) fa H := ⟨fun b xs n q => ⟨q, fun z => n (hN b z)⟩, fun _ _ q => q, fun _ _ q => q, fun _ q => q⟩
 have el : (L2.start N vs) = vs.map some ++ List.replicate (N.length - ds.length) none := by rw [L2.start, r.length]
 have I : GI K ⟨F, H, fa⟩ (L2.start N vs) H fa [] ⟨ds.map .val ++ List.replicate (N.length - ds.length) .no, fs⟩ := by
  refine ⟨List.nodup_nil, ?_, fun b hb => (by cases hb), Stp.refl, tr, ff, fd.car c fun _ _ => rfl, fun _ _ z => (by cases z)⟩
  rw [el]
  exact a4L (Reps.go c ds vs r)
 have fin : ∀ {fa' : Option Addr} {O' : List Addr} {H' : Hp} {σ' : L2.St} {v : V} {dd : D}, Stp fa [] H fa' O' H' → GI K ⟨F, H, fa⟩ σ' H' fa' O' s' → Rep K (NN F fa' O') fa' H' dd v → dd = d → s'.fs = fs' → Q v H' := by
  intro fa' O' H' σ' v dd a1 I1 r1 e1 e2
  subst e1; subst e2
  have c1 : Car K (NN F fa' O') fa' H' (fun b => F b ∨ fa' = some b) fa' H' := ⟨fun b xs n q => ⟨q, fun z => n (by
   rcases z with z | z
   ·exact .inl z
   ·exact .inr (.inr z))⟩, fun _ _ q => q, fun _ _ q => q, fun _ q => q⟩
  exact q v H' fa' ⟨fun b hb => (by cases hb), a1.fe, a1.same, a1.mon⟩ (I1.fd.car c1 fun _ _ => rfl) (Rep.go c1 _ _ r1)
 refine ⟨fa, [], _, fl, s', I, h1, ?_⟩
 cases fl with
 | next =>
  simp only [Option.some.injEq, Prod.mk.injEq] at h2
  exact fun σ' H' fa' O' a1 I1 => fin a1 I1 (v := .non) (dd := .non) (by simp only [Rep]) h2.1 h2.2
 | ret dd =>
  simp only [Option.some.injEq, Prod.mk.injEq] at h2
  exact fun σ' v H' fa' O' a1 I1 r1 => fin a1 I1 r1 h2.1 h2.2
 | brk => cases h2
 | cont => cases h2
end
noncomputable def c9 (m : DFn) (f : DA) : DE := fun s => (f s).bind fun x => (m x.1 x.2.fs).map fun y => (y.1, { x.2 with fs := y.2 })
section
variable {X : Cx} {g : Gh} {k : Nat} {f : Addr} {fd : FuncData} {ps : List Str} {m : DFn} {x : Str} {p pos : Pos} {e : Expr} {es : List Expr} {t : DA}
theorem a9k {n : Nat} (hn : ∀ s ds s', t s = some (ds, s') → ds.length = n) (σ : L2.St) (H : Hp) (Q : VK) (h : G6 X.K g (c9 m t) σ H Q) : a5u (spD X.K n m) [] E0 (a3s X.K g t) σ H Q := by
 obtain ⟨fa, O, s, d, s', I, q, k⟩ := h
 obtain ⟨⟨ds, s1⟩, h1, h2⟩ := Option.bind_eq_some_iff.mp q
 obtain ⟨⟨d1, fs1⟩, h3, h4⟩ := Option.map_eq_some_iff.mp h2
 simp only [Prod.mk.injEq] at h4
 obtain ⟨e1, e2⟩ := h4
 subst e1; subst e2
 refine ⟨fa, O, s, ds, s1, I, h1, fun vs H1 f1 O1 a1 I1 r => ?_⟩
 show spD X.K n m (vs ++ []) H1 Q E0
 rw [List.append_nil]
 refine ⟨NN g.F f1 O1, f1, ds, s1.fs, d1, fs1, fun b hb => I1.nn_tracked hb, fun a ha => .inr (.inr ha), r, I1.fd, h3, hn s ds s1 h1, fun v H2 f2 a2 fd2 r2 => ?_⟩
 have a3 : StE f1 O1 H1 f2 O1 H2 := ⟨fun b hb => hb, a2.fe, fun b u e n => a2.same b u e (by simp) n, a2.mon⟩
 have c := I1.car a3.stp
 have c2 : Car X.K (fun b => NN g.F f1 O1 b ∨ f2 = some b) f2 H2 (NN g.F f2 O1) f2 H2 := ⟨fun b xs n q => ⟨q, fun z => n (by
   rcases z with z | z | z
   ·exact .inl (.inl z)
   ·exact .inl (.inr (.inl z))
   ·exact .inr z)⟩, fun _ _ q => q, fun _ _ q => q, fun _ q => q⟩
 refine k v H2 f2 O1 (a1.trans a3) ⟨I1.nd, SlR.go c (fun b xs hb e => ?_) I1.sl, I1.fr, I1.st.trans ⟨fun b hb => (by cases hb), a2.fe, fun b u e n z => a2.same b u e n z, a2.mon⟩, I1.tr, I1.ff, fd2.car c2 fun _ _ => rfl, I1.nf_step a3.fe⟩ (Rep.go c2 _ _ r2)
 exact a3.same b _ e fun z => I1.nf b z hb
theorem a82 (F : FnD X.prog X.w X.K X.mg X.base k f fd ps m) (hr : Room k X.A) (hg : Gl X x) (hm : X.mg x = some (.ref f)) (hk : PySem.W.keepIn X.K (.ref f) = true) (hb : Binds X.K fd ps [])
  (ha : AO X g (e :: es) t) (hn : ∀ s ds s', t s = some (ds, s') → ds.length = ps.length) (hdb : (x == ("__debug__" : Str)) = false := by decide) (he : starEach (e :: es) X.env = (false, eval e X.env) :: starEach es X.env := by rfl) (hpl : (backTo pos (starEach es X.env)).any (·.1) = false := by rfl) :
  EO X g (.Call (.Name x p) (e :: es) [] pos) (c9 m t) := EO.w (b2d F hr hg hm hk hb .nil a8q ha.pe hdb he hpl) (a9k hn)
theorem j4 : ∀ s ds s', a8 s = some (ds, s') → ds.length = 0 := fun s ds s' h => by cases h; rfl
theorem c7 {a : DE} {r : DA} {n : Nat} (h : ∀ s ds s', r s = some (ds, s') → ds.length = n) : ∀ s ds s', a7 a r s = some (ds, s') → ds.length = n + 1 := fun s ds s' q => by
 obtain ⟨d, s1, es, h1, h2, h3⟩ := a0t q
 subst h3
 simp [h _ _ _ h2]
end
noncomputable def ItD (K : PySem.W.Frag) (N : Addr → Prop) (fa : Option Addr) (H1 : Hp) (J : It) (ds : List D) : Prop := ∀ N' fa' H', Car K N fa H1 N' fa' H' → (∀ b u, H1 b = some u → fa ≠ some b → H' b = some u) → ∀ i : Nat,
 (∀ d, ds[i]? = some d → J.go i H' ∧ ∀ x H'', J.yld i H' x H'' → H'' = H' ∧ Rep K N' fa' H' d x) ∧ (ds.length ≤ i → J.stop i H')
noncomputable def Z3 (K : PySem.W.Frag) (g : Gh) (f : DA) : TI := fun σ H R => ∃ fa O s ds s', GI K g σ H fa O s ∧ f s = some (ds, s') ∧ ds.length ≤ sizeLine ∧
 ∀ J H' fa' O', StE fa O H fa' O' H' → GI K g σ H' fa' O' s' → ItD K (NN g.F fa' O') fa' H' J ds → R J H'
structure IO (X : Cx) (g : Gh) (tg iter : Expr) (f : DA) : Prop where
 pe : PI X tg iter (Z3 X.K g f)
noncomputable def E8 (f : DE) : DA := fun s => (f s).bind fun x => match x.1 with
 | .lst ds => some (ds, x.2)
 | .tup ds => some (ds, x.2)
 | _ => none
noncomputable def R7 (f : DA) : DA := fun s => (f s).bind fun x => (S3 x.1).map fun ds => (ds, x.2)
section
variable {X : Cx} {g : Gh} {tg iter : Expr} {f : DE}
theorem PIw {t t' : TI} (h : PI X tg iter t) (w : ∀ σ H R, t' σ H R → t σ H R) : PI X tg iter t' := fun pins s σ H R I q => h pins s σ H R I (w σ H R q)
theorem IO.w {f : DA} {t : TI} (h : PI X tg iter t) (w : ∀ σ H R, Z3 X.K g f σ H R → t σ H R) : IO X g tg iter f := ⟨PIw h w⟩
theorem L6 (h : EO X g iter f) : IO X g tg iter (E8 f) := IO.w (a6R h.pe) fun σ H R hQ__ => by
 obtain ⟨fa, O, s, ds, s', I, e, hz, k⟩ := hQ__
 obtain ⟨⟨d, s1⟩, h1, h2⟩ := Option.bind_eq_some_iff.mp e
 refine ⟨fa, O, s, d, s1, I, h1, fun v H1 f1 O1 a1 I1 r => ?_⟩
 cases d with
 | lst es =>
  cases h2
  simp only [Rep] at r
  obtain ⟨a, xs, rfl, na, q, w⟩ := r
  refine ⟨a, rfl, .inl ⟨⟨xs, SqL.of q⟩, k _ H1 f1 O1 a1 I1 fun N' fa' H' c _ i => ⟨fun d hd => ?_, fun hl => ?_⟩⟩⟩
  ·obtain ⟨x, hx, rx⟩ := Reps.get w hd
   have q' := (c.ls a xs na q).1
   refine ⟨⟨xs, x, SqL.of q', hx⟩, fun y H'' hy => ?_⟩
   obtain ⟨e1, e2⟩ := hy
   have := e2 xs (SqL.of q')
   rw [hx] at this; cases this
   exact ⟨e1, Rep.go c d x rx⟩
  ·exact ⟨xs, SqL.of (c.ls a xs na q).1, by rw [w.length]; exact hl⟩
 | tup es =>
  cases h2
  simp only [Rep] at r
  obtain ⟨a, xs, rfl, q, w⟩ := r
  refine ⟨a, rfl, .inr ⟨⟨xs, q⟩, k _ H1 f1 O1 a1 I1 fun N' fa' H' c _ i => ⟨fun d hd => ?_, fun hl => ?_⟩⟩⟩
  ·obtain ⟨x, hx, rx⟩ := Reps.get w hd
   have q' := c.tp a xs q
   refine ⟨⟨xs, x, q', hx⟩, fun y H'' hy => ?_⟩
   obtain ⟨e1, e2⟩ := hy
   have := e2 xs q'
   rw [hx] at this; cases this
   exact ⟨e1, Rep.go c d x rx⟩
  ·exact ⟨xs, c.tp a xs q, by rw [w.length]; exact hl⟩
 | _ => cases h2
theorem a8v {K : PySem.W.Frag} {N : Addr → Prop} {fa : Option Addr} {H1 : Hp} (lo : Int) (n : Nat) : ItD K N fa H1 (Itr lo n) (ups lo n) := fun N' fa' H' c _ i => ⟨fun d hd => by
 have hi : i < n := by have := (List.getElem?_eq_some_iff.mp hd).1; rwa [O5] at this
 rw [a35 hi] at hd
 cases hd
 refine ⟨hi, fun x H'' hy => ?_⟩
 obtain ⟨e1, e2⟩ := hy
 subst e2
 exact ⟨e1, by simp only [Rep]⟩, fun hl => by rw [O5] at hl; exact hl⟩
theorem a7e {a : Expr} {fa : DE} {p cpos : Pos} (hgl : Gl X "range") (hm : X.mg "range" = none) (ha : EO X g a fa) (hs1 : starEach [a] X.env = [(false, eval a X.env)] := by rfl) :
  IO X g tg (.Call (.Name "range" p) [a] [] cpos) (R7 (a7 fa a8)) := IO.w (a58 hgl hm (a4H ha b6 hs1).pe hs1) fun σ H R hQ__ => by
 obtain ⟨fa, O, s, es, s', I, q, hz, k⟩ := hQ__
 obtain ⟨⟨ds, s1⟩, h1, h2⟩ := Option.bind_eq_some_iff.mp q
 obtain ⟨es', h3, h4⟩ := Option.map_eq_some_iff.mp h2
 cases h4
 obtain ⟨d, s2, rs, e1, e2, e3⟩ := a0t h1
 cases e2
 obtain ⟨j, rfl, j1, j2, rfl⟩ := a6w h3 e3
 refine ⟨fa, O, s, ds, _, I, h1, fun vs H1 f1 O1 a1 I1 r => ?_⟩
 rw [e3] at r
 simp only [Reps, Rep] at r
 obtain ⟨x, ys, rfl, rfl, rfl⟩ := r
 exact ⟨j, rfl, j1, j2, k _ H1 f1 O1 a1 I1 (a8v 0 j.toNat)⟩
end
noncomputable def V4 (sl : List Sl) (i : Nat) : Sl := match sl[i]? with
 | some (Sl.val d) => Sl.val d
 | _ => Sl.no
noncomputable def D9 (idx : List Nat) (sl : List Sl) : List Sl := idx.map (V4 sl)
noncomputable def w9 (mk : D → Option (List Sl)) (fc : DT) (fe : DE) : List D → Option FS → Option (List D × Option FS)
 | [], fs => some ([], fs)
 | d :: r, fs => (mk d).bind fun sl => (fc ⟨sl, fs⟩).bind fun c => if c.1 = true then (fe c.2).bind fun y => (w9 mk fc fe r y.2.fs).map fun z => (y.1 :: z.1, z.2) else w9 mk fc fe r c.2.fs
noncomputable def F2 (idx : List Nat) (fi : DA) (fc : DT) (fe : DE) : DA := fun s => (fi s).bind fun x => if x.1.length ≤ sizeLine then (w9 (fun d => some (.val d :: D9 idx x.2.sl)) fc fe x.1 x.2.fs).map fun y => (y.1, { x.2 with fs := y.2 }) else none
noncomputable def FF (g : Gh) (fa : Option Addr) (O : List Addr) (p : Addr) : Addr → Prop := fun b => NN g.F fa O b ∨ b = p
structure CI (K : PySem.W.Frag) (g : Gh) (f1 : Option Addr) (O1 : List Addr) (Hd : Hp) (p : Addr) (fa : Option Addr) (H : Hp) (ys : List V) (res : List D) (fs : Option FS) : Prop where
 st : Stp f1 [p] Hd fa [p] H
 ls : H p = some (.lst ys)
 rs : Reps K (FF g fa O1 p) fa H res ys
 fd : FeedR (FF g fa O1 p) H fa fs
 nf : fa ≠ some p
section
variable {K : PySem.W.Frag} {g : Gh} {f1 fa fa' : Option Addr} {O1 : List Addr} {Hd H H' : Hp} {p : Addr} {ys : List V} {res : List D} {fs : Option FS}
theorem CI.nofa (c : CI K g f1 O1 Hd p fa H ys res fs) : fa ≠ some p := c.nf
theorem b3v (h0 : ∀ xs, fa ≠ none → ∀ a, fa = some a → ¬ Rd H a (.tup xs)) (hfz : ∀ a, fa = some a → ∀ o u, ¬ H a = some (.frz o u)) (a : StE fa [] H fa' [] H') : Car K (FF g fa O1 p) fa H (FF g fa' O1 p) fa' H' := by
 refine ⟨fun b xs n q => ⟨a.same b _ q fun z => n (.inl (.inr (.inr z))), fun z => ?_⟩, fun b xs q => ?_, fun b xs q => ?_, fun x e => a.stp.fa_keep e⟩
 ·rcases z with (z | z | z) | z
  ·exact n (.inl (.inl z))
  ·exact n (.inl (.inr (.inl z)))
  ·rcases a.fe with e | ⟨e, h⟩
   ·exact n (.inl (.inr (.inr (e ▸ z))))
   ·rw [h b z] at q; cases q
  ·exact n (.inr z)
 ·refine SqT.stp' a.stp (fun x e ys => h0 ys (by rw [e]; simp) x e) (fun x hx => by cases hx) q
 ·rcases q with ⟨o, q⟩ | q
  ·exact .inl ⟨o, a.same _ _ q fun z => hfz b z _ _ q⟩
  ·exact .inr q
theorem b1K {N : Addr → Prop} (h : FeedR N H fa fs) : ∀ xs, fa ≠ none → ∀ a, fa = some a → ¬ Rd H a (.tup xs) := fun xs _ a e z => h.no_tup e z
theorem CI.step (c : CI K g f1 O1 Hd p fa H ys res fs) (a : StE fa [] H fa' [] H') {g' : Gh} {σ : L2.St} {s' : DS} (hF : ∀ b, FF g fa' O1 p b → NN g'.F fa' [] b) (I : GI K g' σ H' fa' [] s') : CI K g f1 O1 Hd p fa' H' ys res s'.fs := by
 have cr : Car K (FF g fa O1 p) fa H (FF g fa' O1 p) fa' H' := b3v (b1K c.fd) (fun x e o u => c.fd.no_frz e) a
 refine ⟨c.st.trans ⟨fun b hb => .inl hb, a.fe, fun b u e _ n => a.same b u e n, a.mon⟩, a.same p _ c.ls c.nofa, Reps.go cr _ _ c.rs, I.fd.car (K := K) ⟨fun b xs n q => ⟨q, fun z => n (hF b z)⟩, fun _ _ q => q, fun _ _ q => q, fun _ q => q⟩ fun _ _ => rfl, fun z => ?_⟩
 rcases a.fe with y | ⟨_, y⟩
 ·rw [y] at z; exact c.nf z
 ·have := c.ls; rw [y p z] at this; cases this
theorem CI.app (c : CI K g f1 O1 Hd p fa H ys res fs) {N : Addr → Prop} {d : D} {v : V} (hF : ∀ b, FF g fa O1 p b → N b) (r : Rep K N fa H d v) : CI K g f1 O1 Hd p fa (upd H p (.lst (ys ++ [v]))) (ys ++ [v]) (res ++ [d]) fs := by
 have cr : Car K (FF g fa O1 p) fa H (FF g fa O1 p) fa (upd H p (.lst (ys ++ [v]))) := by
  refine ⟨fun b xs n q => ⟨by rw [p8 (fun z => n (.inr z))]; exact q, n⟩, fun b xs q => ?_, fun b xs q => ?_, fun _ q => q⟩
  ·rcases q with (q | ⟨o, q⟩) | q
   ·exact .inl (.inl (by rw [p8 (fun z => by rw [z, c.ls] at q; cases q)]; exact q))
   ·exact .inl (.inr ⟨o, by rw [p8 (fun z => by rw [z, c.ls] at q; cases q)]; exact q⟩)
   ·exact .inr q
  ·rcases q with ⟨o, q⟩ | q
   ·exact .inl ⟨o, by rw [p8 (fun z => by rw [z, c.ls] at q; cases q)]; exact q⟩
   ·exact .inr q
 have c0 : Car K N fa H (FF g fa O1 p) fa H := ⟨fun b xs n q => ⟨q, fun z => n (hF b z)⟩, fun _ _ q => q, fun _ _ q => q, fun _ q => q⟩
 refine ⟨c.st.trans ⟨fun b hb => .inl hb, .inl rfl, fun b u e n _ => by rw [p8 (fun z => n (by simp [z]))]; exact e, fun b z => ?_⟩, A9, ?_, c.fd.car cr fun a e => p8 fun z => c.nofa (z ▸ e), c.nf⟩
 ·by_cases hb : b = p
  ·subst hb; rw [A9] at z; cases z
  ·rw [p8 hb] at z; exact z
 ·exact Reps.append (Reps.go cr _ _ c.rs) (Reps.one (Rep.go cr _ _ (Rep.go c0 _ _ r)))
end
section
variable {X : Cx} {g : Gh} {scope : Scope} {cl : List (Str × Addr)} {N' : List Str} {idx : List Nat} {iter elt tg : Expr} {ifs : List Expr} {pos : Pos} {fi : DA} {fc : DT} {fe : DE}
noncomputable def S4 (X : Cx) (g : Gh) (ifs : List Expr) (f : DT) : Prop := V8 X ifs (K7 X.K g f)
noncomputable def w8 : DT := fun s => some (true, s)
theorem J3 : S4 X g [] w8 := fun pins s σ H Q I ⟨fa, O, s0, d, s', G, e, k⟩ => b3r pins s σ H Q I (by cases e; exact k H fa O StE.refl G)
theorem b2z {c : Expr} {f : DT} (h : TO X g c f) : S4 X g [c] f := b3Z h.pe
theorem a7V {K : PySem.W.Frag} {N : Addr → Prop} {fa : Option Addr} {H : Hp} {sl : List Sl} {σ : L2.St} {O : List Addr} (h : SlR K N fa H sl σ O) : ∀ idx : List Nat, SlR K N fa H (D9 idx sl) (idx.map fun i => (σ[i]?).join) []
 | [] => by simp [D9, SlR]
 | i :: r => by
  have ih := a7V h r
  have go : ∀ e : sl[i]? = none ∨ (∃ z, sl[i]? = some z ∧ ∀ d, z ≠ .val d), V4 sl i = .no := fun e => by
   unfold V4
   rcases e with e | ⟨z, e, n⟩
   ·rw [e]
   ·rw [e]
    cases z with
    | val d => exact absurd rfl (n d)
    | no => rfl
    | own ds => rfl
  show SlR K N fa H (V4 sl i :: D9 r sl) ((σ[i]?).join :: r.map fun i => (σ[i]?).join) []
  cases e : sl[i]? with
  | none =>
   rw [go (.inl e)]
   simp only [SlR]
   exact ⟨_, _, rfl, ih⟩
  | some z =>
   cases z with
   | no =>
    rw [go (.inr ⟨_, e, fun d z => by cases z⟩)]
    simp only [SlR]
    exact ⟨_, _, rfl, ih⟩
   | own ds =>
    rw [go (.inr ⟨_, e, fun d z => by cases z⟩)]
    simp only [SlR]
    exact ⟨_, _, rfl, ih⟩
   | val d =>
    obtain ⟨u, e1, q⟩ := SlR.val h e
    have ec : V4 sl i = .val d := by unfold V4; rw [e]
    rw [ec]
    simp only [SlR]
    exact ⟨u, _, by rw [e1]; rfl, q, ih⟩
noncomputable def b08 (mk : List Sl → D → Option (List Sl)) (fi : DA) (fc : DT) (fe : DE) : DA := fun s => (fi s).bind fun x => if x.1.length ≤ sizeLine then (w9 (mk x.2.sl) fc fe x.1 x.2.fs).map fun y => (y.1, { x.2 with fs := y.2 }) else none
theorem a7E {n : Nat} {G : TG} {mk : List Sl → D → Option (List Sl)} (hG : ∀ (N : Addr → Prop) (fa : Option Addr) (sl : List Sl) (d : D) (sl0 : List Sl) (x : V) (σ : L2.St) (H : Hp) (Q : L2.St → Hp → Prop), mk sl d = some sl0 → Rep X.K N fa H d x → SlR X.K N fa H (D9 idx sl) (idx.map fun i => (σ[i]?).join) [] →
  (∀ σ' : L2.St, (σ'.length = (A2 n idx σ).length ∧ ∀ (j : Nat) (v : V), (A2 n idx σ)[j]? = some (some v) → σ'[j]? = some (some v)) → SlR X.K N fa H sl0 σ' [] → Q σ' H) → G x (A2 n idx σ) H Q) : ∀ σ H Q, Q2 X.K g (b08 mk fi fc fe) σ H Q → V9 n idx (Z3 X.K g fi) G (fun σ H Q => ∃ g', K7 X.K g' fc σ H Q) (fun σ H Q => ∃ g', G6 X.K g' fe σ H Q) σ H Q := by
 intro σ H Q ⟨fa, O, s, res, s', I, e, kk⟩
 obtain ⟨⟨ds, s1⟩, h1, h2⟩ := Option.bind_eq_some_iff.mp e
 by_cases hz : ds.length ≤ sizeLine
 ·simp only [if_pos hz] at h2
  obtain ⟨⟨out, fsf⟩, h3, h4⟩ := Option.map_eq_some_iff.mp h2
  simp only [Prod.mk.injEq] at h4
  obtain ⟨e1, e2⟩ := h4
  subst e1; subst e2
  refine ⟨fa, O, s, ds, s1, I, h1, hz, fun J H1 f1 O1 a1 I1 J1 p hp => ?_⟩
  have stE : ∀ {fa' : Option Addr} {H' : Hp}, Stp f1 [p] (upd H1 p (.lst [])) fa' [p] H' → StE f1 O1 H1 fa' O1 H' := fun {fa' H'} a => by
   refine ⟨fun _ h => h, ?_, fun b u e n => ?_, fun b z => (D6 (fa := f1) (O := O1) hp).mon b (a.mon b z)⟩
   ·rcases a.fe with e | ⟨e, h⟩
    ·exact .inl e
    ·exact .inr ⟨e, fun x z => (D6 (fa := f1) (O := O1) hp).mon x (h x z)⟩
   ·have nb : b ≠ p := L5 e hp
    exact a.same b u (by rw [p8 nb]; exact e) (by simp [nb]) n
  have carP : ∀ {fa' : Option Addr} {H' : Hp}, Stp f1 [p] (upd H1 p (.lst [])) fa' [p] H' → Car X.K (NN g.F f1 O1) f1 H1 (FF g fa' O1 p) fa' H' := fun {fa' H'} a => by
   have c := I1.car (stE a).stp
   refine ⟨fun b xs n q => ?_, c.tp, c.fz, c.fe⟩
   obtain ⟨q', n'⟩ := c.ls b xs n q
   refine ⟨q', ?_⟩
   rintro (z | z)
   ·exact n' z
   ·subst z; rw [hp] at q; cases q
  refine ⟨fun i m H' => m = ds.length - i ∧ i ≤ ds.length ∧ ∃ fa' ys res' rest fs', CI X.K g f1 O1 (upd H1 p (.lst [])) p fa' H' ys res' fs' ∧ w9 (mk s1.sl) fc fe (ds.drop i) fs' = some (rest, fsf) ∧ res' ++ rest = out ∧ ys.length ≤ i, ?_, ?_⟩
  ·refine ⟨ds.length, by simp, Nat.zero_le _, f1, [], [], out, s1.fs, ⟨Stp.refl, A9, Reps.nil, ?_, fun z => I1.fd.tracked z hp⟩, by simpa using h3, rfl, Nat.le_refl _⟩
   exact I1.fd.car (a1o I1 hp) (I1.fd.same_new hp)
  ·rintro i m H' ⟨rfl, hil, fa', ys, res', rest, fs', c, hd, ho, hy⟩
   have Hcar := carP c.st
   obtain ⟨jgo, jstop⟩ := J1 _ _ _ Hcar (fun b u e n => (stE c.st).same b u e n) i
   by_cases hlt : i < ds.length
   ·have hdi : ds[i]? = some ds[i] := List.getElem?_eq_getElem hlt
    obtain ⟨go, yl⟩ := jgo _ hdi
    refine .inr ⟨go, fun x H'' hx => ?_⟩
    obtain ⟨e1, rx⟩ := yl x H'' hx
    subst e1
    rw [a6e hdi, w9] at hd
    obtain ⟨sl0, hm, hd⟩ := Option.bind_eq_some_iff.mp hd
    obtain ⟨⟨b, sb⟩, h5, h6⟩ := Option.bind_eq_some_iff.mp hd
    have hNN : ∀ b, NN (FF g fa' O1 p) fa' [] b → FF g fa' O1 p b := fun b z => by
     rcases z with z | z | z
     ·exact z
     ·cases z
     ·exact .inl (.inr (.inr z))
    have cN : Car X.K (FF g fa' O1 p) fa' H'' (NN (FF g fa' O1 p) fa' []) fa' H'' := ⟨fun b xs n q => ⟨q, fun z => n (hNN b z)⟩, fun _ _ q => q, fun _ _ q => q, fun _ q => q⟩
    have trk : ∀ b, FF g fa' O1 p b → H'' b ≠ none := fun b z => by
     rcases z with (z | z | z) | z
     ·exact fun w => I1.trF z ((stE c.st).mon b w)
     ·obtain ⟨xs, e⟩ := I1.owned z
      exact fun w => by have := (stE c.st).mon b w; rw [e] at this; cases this
     ·exact c.fd.tracked z
     ·rw [z, c.ls]; simp
    refine hG (NN (FF g fa' O1 p) fa' []) fa' s1.sl ds[i] sl0 x σ H'' _ hm (Rep.go cN _ _ rx) (SlR.go cN (fun a xs ha => by cases ha) (a7V (SlR.go Hcar (fun a xs ha e => (stE c.st).same a _ e fun z => I1.nf a z ha) I1.sl) idx)) fun σ1 hσ hsl => ⟨hσ, ?_⟩
    have G0 : GI X.K ⟨FF g fa' O1 p, H'', fa'⟩ σ1 H'' fa' [] ⟨sl0, fs'⟩ := ⟨List.nodup_nil, hsl, fun b hb => (by cases hb), Stp.refl, trk, fun a ha => .inl (.inr (.inr ha)), c.fd.car cN fun _ _ => rfl, fun _ _ z => (by cases z)⟩
    refine ⟨⟨FF g fa' O1 p, H'', fa'⟩, fa', [], _, b, sb, G0, h5, fun H3 f3 O3 a3 I3 => ?_⟩
    have eO : O3 = [] := List.eq_nil_iff_forall_not_mem.mpr fun z hz => by have := a3.sub z hz; cases this
    subst eO
    have hF3 : ∀ b, FF g f3 O1 p b → NN (FF g fa' O1 p) f3 [] b := fun b z => by
     rcases z with (z | z | z) | z
     ·exact .inl (.inl (.inl z))
     ·exact .inl (.inl (.inr (.inl z)))
     ·exact .inr (.inr z)
     ·exact .inl (.inr z)
    have c3 := c.step a3 hF3 I3
    cases b with
    | false =>
     rw [if_neg Bool.false_ne_true] at h6
     refine a8h ?_
     exact ⟨ds.length - (i + 1), by omega, rfl, hlt, f3, ys, res', rest, sb.fs, c3, h6, ho, Nat.le_succ_of_le hy⟩
    | true =>
     rw [if_pos rfl] at h6
     refine b1I ?_
     obtain ⟨⟨dd, sd⟩, h7, h8⟩ := Option.bind_eq_some_iff.mp h6
     obtain ⟨⟨rest2, fs2⟩, h9, h10⟩ := Option.map_eq_some_iff.mp h8
     simp only [Prod.mk.injEq] at h10
     refine ⟨⟨FF g fa' O1 p, H'', fa'⟩, f3, [], sb, dd, sd, I3, h7, fun v H4 f4 O4 a4 I4 r4 => ?_⟩
     have eO : O4 = [] := List.eq_nil_iff_forall_not_mem.mpr fun z hz => by have := a4.sub z hz; cases this
     subst eO
     have hF4 : ∀ b, FF g f4 O1 p b → NN (FF g fa' O1 p) f4 [] b := fun b z => by
      rcases z with (z | z | z) | z
      ·exact .inl (.inl (.inl z))
      ·exact .inl (.inl (.inr (.inl z)))
      ·exact .inr (.inr z)
      ·exact .inl (.inr z)
     have c4 := c3.step a4 hF4 I4
     refine ⟨ys, c4.ls, by omega, ds.length - (i + 1), by omega, rfl, hlt, f4, ys ++ [v], res' ++ [dd], rest2, sd.fs, c4.app hF4 r4, by rw [h9, h10.2], ?_, by simp; omega⟩
     rw [← ho, ← h10.1]; simp
   ·refine .inl ⟨jstop (Nat.le_of_not_lt hlt), ?_⟩
    rw [List.drop_eq_nil_of_le (Nat.le_of_not_lt hlt), w9] at hd
    simp only [Option.some.injEq, Prod.mk.injEq] at hd
    obtain ⟨hd1, hd2⟩ := hd
    subst hd1; subst hd2
    rw [List.append_nil] at ho
    subst ho
    have aE := stE c.st
    have car1 := I1.car aE.stp
    have sameO : ∀ a xs, a ∈ O1 → H1 a = some (.lst xs) → H' a = some (.lst xs) := fun a xs ha e => aE.same a _ e fun z => I1.nf a z ha
    refine kk p ys H' fa' O1 (a1.trans aE) ⟨⟨I1.nd, SlR.go car1 sameO I1.sl, I1.fr, I1.st.trans ⟨fun b hb => (by cases hb), aE.fe, fun b u e _ n => aE.same b u e n, aE.mon⟩, I1.tr, I1.ff, ?_, I1.nf_step aE.fe⟩, c.ls, SlR.go Hcar sameO I1.sl, c.fd, c.rs, c.nf⟩ (a1.mon p hp)
    exact c.fd.car (K := X.K) ⟨fun b xs n q => ⟨q, fun z => n (.inl z)⟩, fun _ _ q => q, fun _ _ q => q, fun _ q => q⟩ fun _ _ => rfl
 ·simp only [if_neg hz] at h2; cases h2
theorem a60 (k : CompOk X scope cl N' 1 idx) : ∀ σ H Q, Q2 X.K g (F2 idx fi fc fe) σ H Q → V9 1 idx (Z3 X.K g fi) (K9 0) (fun σ H Q => ∃ g', K7 X.K g' fc σ H Q) (fun σ H Q => ∃ g', G6 X.K g' fe σ H Q) σ H Q :=
 a7E (mk := fun sl d => some (.val d :: D9 idx sl)) fun N fa sl d sl0 x σ H Q hm rx hc kk => by
  cases hm
  refine kk _ ⟨by simp, fun j v hj => ?_⟩ ?_
  ·cases j with
   | zero => simp [A2] at hj
   | succ j => rw [List.getElem?_set_ne (by simp)]; exact hj
  ·have eb : (A2 1 idx σ).set 0 (some x) = some x :: idx.map fun i => (σ[i]?).join := by simp [A2]
   rw [eb]
   simp only [SlR]
   exact ⟨x, _, rfl, rx, hc⟩
theorem a0y (hc : X.calm = true) (k : CompOk X scope cl N' 1 idx) (hi : IO X g tg iter fi) (hg : ∀ C s0 H0 ex, PG (blk X N' scope cl C s0 H0 ex) tg (K9 0))
  (ht : ∀ C s0 H0 ex g', S4 (blk X N' scope cl C s0 H0 ex) g' ifs fc) (he : ∀ C s0 H0 ex g', EO (blk X N' scope cl C s0 H0 ex) g' elt fe) (hs : ∀ x, foldedSetIterable iter X.env x = pure x := by intro _; rfl) :
  FO X g (.ListComp elt [⟨tg, iter, ifs, 0⟩] scope pos) (F2 idx fi fc fe) := by
 exact FO.w (a4M (tc := fun σ H Q => ∃ g', K7 X.K g' fc σ H Q) (te := fun σ H Q => ∃ g', G6 X.K g' fe σ H Q) hc k hi.pe hg (fun C s0 H0 ex pins s σ H Q I ⟨g', h⟩ => ht C s0 H0 ex g' pins s σ H Q I h) (fun C s0 H0 ex pins s σ H Q I ⟨g', h⟩ => (he C s0 H0 ex g').pe pins s σ H Q I h) hs) (a60 k)
end
end DL
namespace HT2
open PySem PyProof.Rows
theorem cat_tup0 {prog : Program} {w : World} {A : Around} {E : Value → Shared → Prop} {s : Shared} {t b : Addr} {ws : List Value} {Q : Value → Shared → Prop} (ht : IsTup s.heap t ([] : List Value).toArray) (hb : IsTup s.heap b ws.toArray)
  (h : Q (.ref b) s) : wpAny (model prog w) A (binaryOp .Add (.ref t) (.ref b)) Q E s := by
 obtain ⟨⟨cls, dd, data, sl⟩, ho, hc, n, hd⟩ := id ht
 obtain ⟨⟨cls2, dd2, data2, sl2⟩, ho2, hc2, n2, hd2⟩ := id hb
 simp only at hc hd hc2 hd2
 subst hc hd hc2 hd2
 exact concat_meets ⟨_, ho, rfl⟩ ⟨_, ho2, rfl⟩ noFill_tuple_add seq_tuple_add PySem.F.slot_tuple_add PySem.F.entry_tuple_add (PySem.F.args_tuple_add_2 _ _)
  (tuple_addW0 t b _ ws.toArray n n2 dd dd2 sl sl2 (by simp)) ⟨ho, ho2, h⟩
end HT2
namespace DL
open PySem PySem.Spec L2
noncomputable def u4 (i : Int) : Bool := decide (i.natAbs.log2 < 1000000)
theorem a5f {i : Int} (h : u4 i = true) : Builtin.Int.intBits i ≤ 2 ^ 20 := by
 have h1 : i.natAbs.log2 < 1000000 := of_decide_eq_true h
 unfold Builtin.Int.intBits
 split
 ·exact Nat.zero_le _
 ·have e : (2 : Nat) ^ 20 = 1048576 := by decide
  rw [e]; omega
noncomputable def A3 (j : Int) : Bool := decide (j ≠ 0) && decide (j.natAbs.log2 < 9000)
section
variable {X : Cx}
theorem op_mulB : OpR X (binaryOp .Mult) (rI (fun i j => u4 i = true ∧ u4 j = true) fun i j => .int (i * j)) := opI fun _ _ _ _ _ _ _ hc q => PyProof.Rows.mul_int q (IntMulOk.of_bits (a5f hc.1) (a5f hc.2))
theorem D2 : OpR X (binaryOp .FloorDiv) (rI (fun _ j => A3 j = true) fun i j => .int (i.fdiv j)) := opI fun i j _ _ _ _ _ hc q => by
 have hc' : A3 j = true := hc
 unfold A3 at hc'
 rw [Bool.and_eq_true] at hc'
 exact PyProof.Rows.floordiv_int (of_decide_eq_true hc'.1) q (.inl (PyProof.noPylong_of_log2 (of_decide_eq_true hc'.2)))
noncomputable def a6i (K : PySem.W.Frag) : R2 := fun x y H Q => ∃ a b ys, x = .ref a ∧ y = .ref b ∧ SqT K H a [] ∧ SqT K H b ys ∧ Q (.ref b) H
theorem op_catT0 : OpR X (binaryOp .Add) (a6i X.K) := by
 intro pins s σ H x y v u Q I rx ry h
 obtain ⟨a, b, ys, rfl, rfl, ha, hb, q⟩ := h
 cases rx
 cases ry
 obtain ⟨its, r1, ht, _⟩ := I.tuple ha
 obtain ⟨its2, r2, ht2, _⟩ := I.tuple hb
 cases r1
 exact HT2.cat_tup0 ht ht2 ⟨.ref b, H, I, rfl, q⟩
noncomputable def a7F (K : PySem.W.Frag) : R2 := fun x y H Q => (rI0 (fun i j => .int (i + j)) x y H Q ∨ (∃ i j, x = .str i ∧ y = .str j ∧ i.length + j.length ≤ sizeLine ∧ Q (.str (i ++ j)) H)) ∨ ((a6i K x y H Q ∨ a7H K x y H Q) ∨ a2t x y H Q)
theorem B1 : OpR X (binaryOp .Add) (a7F X.K) := (op_add.or b0m).or ((op_catT0.or b3a).or Y6)
noncomputable def a50 : R2 := fun x y H Q => rI (fun i j => u4 i = true ∧ u4 j = true) (fun i j => .int (i * j)) x y H Q ∨ a15 x y H Q
theorem m6 : OpR X (binaryOp .Mult) a50 := op_mulB.or a7D
end
noncomputable def n9 : D → D → Option D
 | .int i, .int j => some (.int (i + j))
 | .str x, .str y => if x.length + y.length ≤ sizeLine then some (.str (x ++ y)) else none
 | .tup xs, .tup ys => if xs.length + ys.length ≤ sizeLine then some (.tup (xs ++ ys)) else none
 | .lst xs, .lst ys => if xs.length + ys.length ≤ sizeLine then some (.lst (xs ++ ys)) else none
 | _, _ => none
noncomputable def v8 : D → D → Option D
 | .int i, .int j => some (.int (i - j))
 | _, _ => none
noncomputable def l4 : D → D → Option D
 | .int i, .int j => if u4 i && u4 j then some (.int (i * j)) else none
 | .lst xs, .int k => if -(2 ^ 63) ≤ k ∧ k < 2 ^ 63 ∧ xs.length * k.toNat ≤ sizeLine then some (.lst (List.replicate k.toNat xs).flatten) else none
 | _, _ => none
noncomputable def u8 : D → D → Option D
 | .int i, .int j => if A3 j then some (.int (i.fdiv j)) else none
 | _, _ => none
noncomputable def y4 : D → D → Option D
 | .int i, .int j => if j ≠ 0 then some (.int (i.fmod j)) else none
 | _, _ => none
noncomputable def U6 : D → D → Option D
 | .int i, .int j => if 0 ≤ j ∧ j ≤ 1000000 ∧ i.natAbs < 2 ^ 64 then some (.int (i ^ j.toNat)) else none
 | _, _ => none
noncomputable def t7 : D → Option D
 | .int i => some (.int (-i))
 | _ => none
noncomputable def n8 (p : Int → Int → Bool) : D → D → Option D
 | .int i, .int j => some (.bl (p i j))
 | _, _ => none
theorem a7j {K : PySem.W.Frag} {N : Addr → Prop} {fa : Option Addr} {H : Hp} {ds : List D} {xs : List V} (r : Reps K N fa H ds xs) : xs = [] ↔ ds = [] := by
 have := r.length
 cases xs <;> cases ds <;> simp_all
theorem Reps.flat {K : PySem.W.Frag} {N : Addr → Prop} {fa : Option Addr} {H : Hp} {ds : List D} {xs : List V} (r : Reps K N fa H ds xs) : ∀ k : Nat, Reps K N fa H (List.replicate k ds).flatten (List.replicate k xs).flatten
 | 0 => by simp [Reps]
 | k + 1 => by
  simp only [List.replicate_succ, List.flatten_cons]
  exact Reps.append r (Reps.flat r k)
section
variable {K : PySem.W.Frag}
theorem B2 : R2D K (a7F K) n9 := by
 intro g σ H fa O s x y d1 d2 d Q I r1 r2 e k
 cases d1 with
 | int i =>
  cases d2 with
  | int j =>
   cases e
   simp only [RepB, Rep] at r1 r2
   exact .inl (.inl ⟨i, j, r1, r2, k _ H StE.refl I (by simp only [Rep])⟩)
  | _ => cases e
 | str a =>
  cases d2 with
  | str b =>
   have e : (if a.length + b.length ≤ sizeLine then some (D.str (a ++ b)) else none) = some d := e
   by_cases h : a.length + b.length ≤ sizeLine
   ·rw [if_pos h] at e
    cases e
    simp only [RepB, Rep] at r1 r2
    refine .inl (.inr ⟨a, b, r1.1, r2.1, h, k _ H StE.refl I ?_⟩)
    simp only [Rep]
    exact ⟨trivial, by rw [strLen_append]; exact h⟩
   ·rw [if_neg h] at e; cases e
  | _ => cases e
 | tup as =>
  cases d2 with
  | tup bs =>
   have e : (if as.length + bs.length ≤ sizeLine then some (D.tup (as ++ bs)) else none) = some d := e
   by_cases h : as.length + bs.length ≤ sizeLine
   ·rw [if_pos h] at e
    cases e
    simp only [RepB, Rep] at r1 r2
    obtain ⟨a, xs, rfl, qa, wa⟩ := r1
    obtain ⟨b, ys, rfl, qb, wb⟩ := r2
    by_cases hx : xs = []
    ·have ha := (a7j wa).mp hx
     subst hx; subst ha
     refine .inr (.inl (.inl ⟨a, b, ys, rfl, rfl, qa, qb, k _ H StE.refl I ?_⟩))
     simp only [Rep, List.nil_append]
     exact ⟨b, ys, rfl, qb, wb⟩
    ·refine .inr (.inl (.inr ⟨a, b, xs, ys, rfl, rfl, qa, qb, hx, by rw [wa.length, wb.length]; exact h, fun hy => ?_, fun hy p hp => ?_⟩))
     ·have hb := (a7j wb).mp hy
      subst hy; subst hb
      refine k _ H StE.refl I ?_
      simp only [Rep, List.append_nil]
      exact ⟨a, xs, rfl, qa, wa⟩
     ·have a2 : StE fa O H fa O (upd H p (.tup (xs ++ ys))) := D6 hp
      refine k _ _ a2 (I.new hp) ?_
      simp only [Rep]
      exact ⟨p, _, rfl, SqT.of A9, Reps.stp I a2.stp (Reps.append wa wb)⟩
   ·rw [if_neg h] at e; cases e
  | _ => cases e
 | lst as =>
  cases d2 with
  | lst bs =>
   have e : (if as.length + bs.length ≤ sizeLine then some (D.lst (as ++ bs)) else none) = some d := e
   by_cases h : as.length + bs.length ≤ sizeLine
   ·rw [if_pos h] at e
    cases e
    obtain ⟨a, xs, rfl, _, qa, wa⟩ := r1
    obtain ⟨b, ys, rfl, _, qb, wb⟩ := r2
    refine .inr (.inr ⟨a, b, xs, ys, rfl, rfl, qa, qb, by rw [wa.length, wb.length]; exact h, fun p hp => ?_⟩)
    have a2 : StE fa O H fa O (upd H p (.lst (xs ++ ys))) := D6 hp
    have L := V1 I hp (Reps.append wa wb)
    refine k _ _ a2 L.gi ?_
    simp only [Rep]
    exact ⟨p, _, rfl, a0H I a2 L.gi hp L.nf, A9, Reps.stp I a2.stp (Reps.append wa wb)⟩
   ·rw [if_neg h] at e; cases e
  | _ => cases e
 | _ => cases e
noncomputable def S9 : D → D → Option (List D)
 | .lst xs, .lst ys => if xs.length + ys.length ≤ sizeLine then some (xs ++ ys) else none
 | _, _ => none
theorem a0C : R2F K a2t S9 := by
 intro g σ H fa O s x y d1 d2 ds Q I r1 r2 e k
 cases d1 with
 | lst as =>
  cases d2 with
  | lst bs =>
   simp only [S9] at e
   by_cases h : as.length + bs.length ≤ sizeLine
   ·rw [if_pos h] at e
    cases e
    obtain ⟨a, xs, rfl, _, qa, wa⟩ := r1
    obtain ⟨b, ys, rfl, _, qb, wb⟩ := r2
    refine ⟨a, b, xs, ys, rfl, rfl, qa, qb, by rw [wa.length, wb.length]; exact h, fun p hp => ?_⟩
    exact k p _ _ (D6 hp) (V1 I hp (Reps.append wa wb)) hp
   ·rw [if_neg h] at e; cases e
  | _ => cases e
 | _ => cases e
noncomputable def a0J : D → D → Option (List D)
 | .lst xs, .int k => if -(2 ^ 63) ≤ k ∧ k < 2 ^ 63 ∧ xs.length * k.toNat ≤ sizeLine then some (List.replicate k.toNat xs).flatten else none
 | _, _ => none
theorem a9c : R2F K a15 a0J := by
 intro g σ H fa O s x y d1 d2 ds Q I r1 r2 e k
 cases d1 with
 | lst as =>
  cases d2 with
  | int j =>
   simp only [a0J] at e
   by_cases h : -(2 ^ 63) ≤ j ∧ j < 2 ^ 63 ∧ as.length * j.toNat ≤ sizeLine
   ·rw [if_pos h] at e
    cases e
    obtain ⟨a, xs, rfl, _, qa, wa⟩ := r1
    simp only [RepB, Rep] at r2
    subst r2
    refine ⟨a, j, xs, rfl, rfl, qa, h.1, h.2.1, by rw [wa.length]; exact h.2.2, fun p hp => ?_⟩
    exact k p _ _ (D6 hp) (V1 I hp (wa.flat _)) hp
   ·rw [if_neg h] at e; cases e
  | _ => cases e
 | _ => cases e
theorem a2N {C : Int → Int → Prop} {f : Int → Int → D} {f' : Int → Int → V} {p : D → D → Option D} (hp : ∀ d1 d2 d, p d1 d2 = some d → ∃ i j, d1 = .int i ∧ d2 = .int j ∧ C i j ∧ d = f i j) (hf : ∀ N fa H i j, Rep K N fa H (f i j) (f' i j)) : R2D K (rI C f') p := by
 intro g σ H fa O s x y d1 d2 d Q I r1 r2 e k
 obtain ⟨i, j, rfl, rfl, c, rfl⟩ := hp d1 d2 d e
 simp only [RepB, Rep] at r1 r2
 exact ⟨i, j, r1, r2, c, k _ H StE.refl I (hf _ _ _ _ _)⟩
theorem a5J {f : Int → Int → D} {f' : Int → Int → V} {p : D → D → Option D} (hp : ∀ d1 d2 d, p d1 d2 = some d → ∃ i j, d1 = .int i ∧ d2 = .int j ∧ d = f i j) (hf : ∀ N fa H i j, Rep K N fa H (f i j) (f' i j)) : R2D K (rI0 f') p := by
 intro g σ H fa O s x y d1 d2 d Q I r1 r2 e k
 obtain ⟨i, j, rfl, rfl, rfl⟩ := hp d1 d2 d e
 simp only [RepB, Rep] at r1 r2
 exact ⟨i, j, r1, r2, k _ H StE.refl I (hf _ _ _ _ _)⟩
noncomputable def a18 (F : Int → Int → Option D) : D → D → Option D
 | .int i, .int j => F i j
 | _, _ => none
theorem a6E {F : Int → Int → Option D} {d1 d2 d : D} (e : a18 F d1 d2 = some d) : ∃ i j, d1 = .int i ∧ d2 = .int j ∧ F i j = some d := by
 cases d1 with
 | int i =>
  cases d2 with
  | int j => exact ⟨i, j, rfl, rfl, e⟩
  | _ => cases e
 | _ => cases e
theorem a3u {C : Int → Int → Prop} [∀ i j, Decidable (C i j)] {f : Int → Int → D} {d1 d2 d : D} (e : a18 (fun i j => if C i j then some (f i j) else none) d1 d2 = some d) : ∃ i j, d1 = .int i ∧ d2 = .int j ∧ C i j ∧ d = f i j := by
 obtain ⟨i, j, h1, h2, h3⟩ := a6E e
 by_cases h : C i j
 ·have h3 : (if C i j then some (f i j) else none) = some d := h3
  rw [if_pos h] at h3
  exact ⟨i, j, h1, h2, h, (Option.some.inj h3).symm⟩
 ·have h3 : (if C i j then some (f i j) else none) = some d := h3
  rw [if_neg h] at h3
  cases h3
theorem a7h {f : Int → Int → D} {d1 d2 d : D} (e : a18 (fun i j => some (f i j)) d1 d2 = some d) : ∃ i j, d1 = .int i ∧ d2 = .int j ∧ d = f i j := by
 obtain ⟨i, j, h1, h2, h3⟩ := a6E e
 exact ⟨i, j, h1, h2, (Option.some.inj h3).symm⟩
theorem M2 : R2D K (rI0 fun i j => .int (i - j)) v8 := a5J (f := fun i j => .int (i - j)) (fun d1 d2 d e => a7h (f := fun i j => .int (i - j)) e) fun _ _ _ _ _ => by simp only [Rep]
theorem F7 (p : Int → Int → Bool) : R2D K (rI0 fun i j => .bl (p i j)) (n8 p) := a5J (f := fun i j => .bl (p i j)) (fun d1 d2 d e => a7h (f := fun i j => .bl (p i j)) e) fun _ _ _ _ _ => by simp only [Rep]
theorem m7 : R2D K a50 l4 := by
 intro g σ H fa O s x y d1 d2 d Q I r1 r2 e k
 cases d1 with
 | int i =>
  cases d2 with
  | int j =>
   have e : (if u4 i && u4 j then some (D.int (i * j)) else none) = some d := e
   by_cases h : (u4 i && u4 j) = true
   ·rw [if_pos h] at e
    cases e
    rw [Bool.and_eq_true] at h
    simp only [RepB, Rep] at r1 r2
    exact .inl ⟨i, j, r1, r2, h, k _ H StE.refl I (by simp only [Rep])⟩
   ·rw [if_neg h] at e; cases e
  | _ => cases e
 | lst as =>
  cases d2 with
  | int j =>
   simp only [l4] at e
   by_cases h : -(2 ^ 63) ≤ j ∧ j < 2 ^ 63 ∧ as.length * j.toNat ≤ sizeLine
   ·rw [if_pos h] at e
    cases e
    obtain ⟨a, xs, rfl, _, qa, wa⟩ := r1
    simp only [RepB, Rep] at r2
    subst r2
    refine .inr ⟨a, j, xs, rfl, rfl, qa, h.1, h.2.1, by rw [wa.length]; exact h.2.2, fun p hp => ?_⟩
    have a2 : StE fa O H fa O (upd H p (.lst (List.replicate j.toNat xs).flatten)) := D6 hp
    have L := V1 I hp (wa.flat j.toNat)
    refine k _ _ a2 L.gi ?_
    simp only [Rep]
    exact ⟨p, _, rfl, a0H I a2 L.gi hp L.nf, A9, Reps.stp I a2.stp (wa.flat j.toNat)⟩
   ·rw [if_neg h] at e; cases e
  | _ => cases e
 | _ => cases e
theorem D3 : R2D K (rI (fun _ j => A3 j = true) fun i j => .int (i.fdiv j)) u8 := a2N (f := fun i j => .int (i.fdiv j)) (fun d1 d2 d e => a3u (C := fun _ j => A3 j = true) (f := fun i j => .int (i.fdiv j)) e) fun _ _ _ _ _ => by simp only [Rep]
theorem K4 : R2D K (rI (fun _ j => j ≠ 0) fun i j => .int (i.fmod j)) y4 := a2N (f := fun i j => .int (i.fmod j)) (fun d1 d2 d e => a3u (C := fun _ j => j ≠ 0) (f := fun i j => .int (i.fmod j)) e) fun _ _ _ _ _ => by simp only [Rep]
theorem a6c : R2D K (rI a7f fun i j => .int (i ^ j.toNat)) U6 := a2N (f := fun i j => .int (i ^ j.toNat)) (fun d1 d2 d e => a3u (C := fun i j => 0 ≤ j ∧ j ≤ 1000000 ∧ i.natAbs < 2 ^ 64) (f := fun i j => .int (i ^ j.toNat)) e) fun _ _ _ _ _ => by simp only [Rep]
theorem B7 : R1D K (rU fun i => .int (-i)) t7 := by
 intro g σ H fa O s x d1 d Q I r1 e k
 cases d1 with
 | int i => cases e; simp only [RepB, Rep] at r1; exact ⟨i, r1, k _ H StE.refl I (by simp only [Rep])⟩
 | _ => cases e
end
section
variable {X : Cx} {pins : List (Addr × Obj)} {σ : L2.St} {H : Hp} {s : Shared} {N : Addr → Prop} {fa : Option Addr}
mutual
theorem X5 (I : Inv X pins σ H s) : ∀ (d : D) (v : V) (u : Value), N7 X.K N fa H d v → RelV v u → d.plain = true → ∃ as, Reads s.heap u d.py as
 | .non, v, u, r, ru, _ => by
  simp only [N7, Rep] at r; subst r; cases ru
  simp only [D.py]; exact ⟨[], .none⟩
 | .bl b, v, u, r, ru, _ => by
  simp only [N7, Rep] at r; subst r; cases ru
  simp only [D.py]; exact ⟨[], .bool b⟩
 | .int i, v, u, r, ru, _ => by
  simp only [N7, Rep] at r; subst r
  obtain ⟨t, rfl⟩ := ru
  simp only [D.py]; exact ⟨[], .int i t⟩
 | .str x, v, u, r, ru, _ => by
  simp only [N7, Rep] at r; obtain ⟨r, _⟩ := r; subst r
  obtain ⟨t, rfl⟩ := ru
  simp only [D.py]; exact ⟨[], .str x t⟩
 | .tup ds, v, u, r, ru, hp => by
  simp only [N7, Rep] at r
  obtain ⟨a, xs, rfl, q, w⟩ := r
  cases ru
  obtain ⟨its, rv, ⟨o, h1, h2, n, h3⟩, _⟩ := I.tuple q
  obtain ⟨as, ra⟩ := a4p I ds xs its w rv (by simpa only [D.plain] using hp)
  simp only [D.py]
  exact ⟨as, .tuple h1 h2 h3 (by simpa using ra)⟩
 | .lst ds, v, u, r, ru, hp => by
  obtain ⟨a, xs, rfl, q, w⟩ := r
  cases ru
  obtain ⟨its, rv, ⟨o, n, h1, h2, h3, h4⟩, _⟩ := I.list (SqL.of q)
  obtain ⟨as, ra⟩ := a4p I ds xs its w rv (by simpa only [D.plain] using hp)
  simp only [D.py]
  exact ⟨_, .list h1 h2 h4 (by simpa using ra)⟩
 | .feed, v, u, r, ru, hp => by simp only [D.plain] at hp; cases hp
 | .scr _, v, u, r, ru, hp => by simp only [D.plain] at hp; cases hp
theorem a4p (I : Inv X pins σ H s) : ∀ (ds : List D) (xs : List V) (us : List Value), Reps X.K N fa H ds xs → Vals xs us → D.plains ds = true → ∃ as, ReadsAll s.heap us (D.pys ds) as
 | [], xs, us, r, ru, _ => by
  simp only [Reps] at r; subst r; cases ru
  simp only [D.pys]; exact ⟨[], .nil⟩
 | d :: ds, xs, us, r, ru, hp => by
  simp only [Reps] at r
  obtain ⟨x, ys, rfl, r1, r2⟩ := r
  cases ru with
  | cons q qs =>
   simp only [D.plains, Bool.and_eq_true] at hp
   obtain ⟨as, h1⟩ := X5 I d x _ r1.o q hp.1
   obtain ⟨bs, h2⟩ := a4p I ds ys _ r2 qs hp.2
   simp only [D.pys]; exact ⟨_, .cons h1 h2⟩
end
end
noncomputable def E5 (d : D) : Bool := d.plain && SeqAt.shaped d.py
noncomputable def pEq (d1 d2 : D) : Option D := match d1, d2 with
 | .str x, .str y => some (.bl (decide (x = y)))
 | d1, d2 => if E5 d1 && E5 d2 then some (.bl (PyData.eqv d1.py d2.py)) else none
noncomputable def pNe (d1 d2 : D) : Option D := match d1, d2 with
 | .str x, .str y => some (.bl (!decide (x = y)))
 | d1, d2 => if E5 d1 && E5 d2 then some (.bl (!PyData.eqv d1.py d2.py)) else none
noncomputable def W6 (K : PySem.W.Frag) (f : Bool → Bool) : R2 := fun x y H Q => ∃ N fa d1 d2, RepB K N fa H d1 x ∧ RepB K N fa H d2 y ∧ E5 d1 = true ∧ E5 d2 = true ∧ Q (.bl (f (PyData.eqv d1.py d2.py))) H
section
variable {X : Cx} {K : PySem.W.Frag}
theorem a8u (hu : X.A.units + 64 < cLine) : OpR X (compareOp .Eq) (W6 X.K id) := by
 intro pins s σ H x y v u Q I rx ry h
 obtain ⟨N, fa, d1, d2, r1, r2, o1, o2, q⟩ := h
 unfold E5 at o1 o2
 rw [Bool.and_eq_true] at o1 o2
 obtain ⟨as, h1⟩ := X5 I d1 x v r1.o rx o1.1
 obtain ⟨bs, h2⟩ := X5 I d2 y u r2.o ry o2.1
 exact PyProof.Rows.eq_dataH h1 h2 o1.2 o2.2 hu ⟨.bl _, H, I, rfl, q⟩
theorem b1U (hu : X.A.units + 64 < cLine) : OpR X (compareOp .NotEq) (W6 X.K not) := by
 intro pins s σ H x y v u Q I rx ry h
 obtain ⟨N, fa, d1, d2, r1, r2, o1, o2, q⟩ := h
 unfold E5 at o1 o2
 rw [Bool.and_eq_true] at o1 o2
 obtain ⟨as, h1⟩ := X5 I d1 x v r1.o rx o1.1
 obtain ⟨bs, h2⟩ := X5 I d2 y u r2.o ry o2.1
 exact PyProof.Rows.ne_dataH h1 h2 o1.2 o2.2 hu ⟨.bl _, H, I, rfl, q⟩
theorem M8 (hu : X.A.units + 64 < cLine) : OpR X (compareOp .Eq) (fun x y H Q => rEq x y H Q ∨ W6 X.K id x y H Q) := op_eq.or (a8u hu)
theorem T2 (hu : X.A.units + 64 < cLine) : OpR X (compareOp .NotEq) (fun x y H Q => rNe x y H Q ∨ W6 X.K not x y H Q) := op_ne.or (b1U hu)
theorem a9h {d1 d2 d : D} (h : pEq d1 d2 = some d) : (∃ x y, d1 = .str x ∧ d2 = .str y ∧ d = .bl (decide (x = y))) ∨ (E5 d1 = true ∧ E5 d2 = true ∧ d = .bl (PyData.eqv d1.py d2.py)) := by
 unfold pEq at h
 split at h
 ·cases h; exact .inl ⟨_, _, rfl, rfl, rfl⟩
 ·split at h
  ·rename_i q
   rw [Bool.and_eq_true] at q
   cases h; exact .inr ⟨q.1, q.2, rfl⟩
  ·cases h
theorem b1H {d1 d2 d : D} (h : pNe d1 d2 = some d) : (∃ x y, d1 = .str x ∧ d2 = .str y ∧ d = .bl (!decide (x = y))) ∨ (E5 d1 = true ∧ E5 d2 = true ∧ d = .bl (!PyData.eqv d1.py d2.py)) := by
 unfold pNe at h
 split at h
 ·cases h; exact .inl ⟨_, _, rfl, rfl, rfl⟩
 ·split at h
  ·rename_i q
   rw [Bool.and_eq_true] at q
   cases h; exact .inr ⟨q.1, q.2, rfl⟩
  ·cases h
theorem a4P (x y : Str) : decide (V.str x = V.str y) = decide (x = y) := by
 by_cases h : x = y
 ·subst h; simp
 ·rw [decide_eq_false h, decide_eq_false fun z => h (V.str.inj z)]
theorem N5 : R2D K (fun x y H Q => rEq x y H Q ∨ W6 K id x y H Q) pEq := by
 intro g σ H fa O s x y d1 d2 d Q I r1 r2 e k
 rcases a9h e with ⟨a, b, rfl, rfl, rfl⟩ | ⟨h1, h2, rfl⟩
 ·simp only [RepB, Rep] at r1 r2
  obtain ⟨rfl, _⟩ := r1
  obtain ⟨rfl, _⟩ := r2
  exact .inl ⟨rfl, k _ H StE.refl I (by simp only [Rep, a4P])⟩
 ·exact .inr ⟨_, _, d1, d2, r1, r2, h1, h2, k _ H StE.refl I (by simp only [Rep, id])⟩
theorem Q7 : R2D K (fun x y H Q => rNe x y H Q ∨ W6 K not x y H Q) pNe := by
 intro g σ H fa O s x y d1 d2 d Q I r1 r2 e k
 rcases b1H e with ⟨a, b, rfl, rfl, rfl⟩ | ⟨h1, h2, rfl⟩
 ·simp only [RepB, Rep] at r1 r2
  obtain ⟨rfl, _⟩ := r1
  obtain ⟨rfl, _⟩ := r2
  exact .inl ⟨rfl, k _ H StE.refl I (by simp only [Rep, a4P])⟩
 ·exact .inr ⟨_, _, d1, d2, r1, r2, h1, h2, k _ H StE.refl I (by simp only [Rep])⟩
noncomputable def pIx : D → D → Option D
 | .tup ds, .int i => atI ds i
 | .lst ds, .int i => atI ds i
 | _, _ => none
theorem a71 {N : Addr → Prop} {fa : Option Addr} {H : Hp} {ds : List D} {xs : List V} {i : Int} {d : D} (r : Reps K N fa H ds xs) (h : atI ds i = some d) : ∃ v, atI xs i = some v ∧ Rep K N fa H d v := by
 unfold atI at h ⊢
 rw [r.length]
 cases e : ixN ds.length i with
 | none => rw [e] at h; cases h
 | some j =>
  rw [e] at h
  simp only [Option.bind_some] at h ⊢
  exact Reps.get r h
theorem i6 : R2D K (fun x y H Q => a17 K x y H Q ∨ a3c K x y H Q) pIx := by
 intro g σ H fa O s x y d1 d2 d Q I r1 r2 e k
 cases d1 with
 | tup ds =>
  cases d2 with
  | int i =>
   simp only [RepB, Rep] at r1 r2
   obtain ⟨a, xs, rfl, q, w⟩ := r1
   obtain ⟨v, hv, rv⟩ := a71 w (show atI ds i = some d from e)
   exact .inr ⟨a, xs, i, v, rfl, r2, q, hv, k v H StE.refl I rv⟩
  | _ => cases e
 | lst ds =>
  cases d2 with
  | int i =>
   obtain ⟨a, xs, rfl, _, q, w⟩ := r1
   simp only [RepB, Rep] at r2
   obtain ⟨v, hv, rv⟩ := a71 w (show atI ds i = some d from e)
   exact .inl ⟨a, xs, i, v, rfl, r2, SqL.of q, hv, k v H StE.refl I rv⟩
  | _ => cases e
 | _ => cases e
theorem i7 : IxR X (fun x y H Q => a17 X.K x y H Q ∨ a3c X.K x y H Q) := ix_list.or b29
end
noncomputable def dCB (p : List D → Option D) (f : DA) : DE := fun s => (f s).bind fun x => (p x.1).map fun d => (d, x.2)
noncomputable def dCF (p : List D → Option (List D)) (f : DA) : DA := fun s => (f s).bind fun x => (p x.1).map fun d => (d, x.2)
section
variable {X : Cx} {g : Gh} {x : Str} {p pos : Pos} {e : Expr} {es : List Expr} {t : DA} {id T : String} {r : List V → Hp → VK → Prop} {pr : List D → Option D} {pf : List D → Option (List D)}
theorem a7R (hr : RCD X.K r pr) (σ : L2.St) (H : Hp) (Q : VK) (h : G6 X.K g (dCB pr t) σ H Q) : tCB r (a1f X.K g t) σ H Q := by
 obtain ⟨f0, O, s, d, s', I, e, k⟩ := h
 obtain ⟨⟨ds, s1⟩, h1, h⟩ := Option.bind_eq_some_iff.mp e
 obtain ⟨d', h3, h⟩ := Option.map_eq_some_iff.mp h
 simp only [Prod.mk.injEq] at h
 obtain ⟨e1, e2⟩ := h
 subst e1; subst e2
 exact ⟨f0, O, s, ds, s1, I, h1, fun vs H1 f1 O1 a1 I1 r1 => hr g σ H1 f1 O1 s1 vs ds d' Q I1 r1 h3 fun z H3 a3 I3 r3 => k z H3 f1 O1 (a1.trans a3) I3 r3⟩
theorem b2a (hr : RCF X.K r pf) (σ : L2.St) (H : Hp) (Q : VK) (h : Q2 X.K g (dCF pf t) σ H Q) : tCB r (a1f X.K g t) σ H Q := by
 obtain ⟨f0, O, s, d, s', I, e, k⟩ := h
 obtain ⟨⟨ds, s1⟩, h1, h⟩ := Option.bind_eq_some_iff.mp e
 obtain ⟨d', h3, h⟩ := Option.map_eq_some_iff.mp h
 simp only [Prod.mk.injEq] at h
 obtain ⟨e1, e2⟩ := h
 subst e1; subst e2
 exact ⟨f0, O, s, ds, s1, I, h1, fun vs H1 f1 O1 a1 I1 r1 => hr g σ H1 f1 O1 s1 vs ds d' Q I1 r1 h3 fun q ys H3 a3 L e3 => k q ys H3 f1 O1 (a1.trans a3) L (a1.mon _ e3)⟩
theorem D0 (hc : CallR X (.builtin id) r) (hr : RCD X.K r pr) (hg : Gl X x) (hm : X.mg x = none) (hv : bootBuiltins x = some (.builtin id)) (ha : BAO X g (e :: es) t) (hn : x ≠ "__name__" := by decide) (hdb : (x == ("__debug__" : Str)) = false := by decide)
  (he : starEach (e :: es) X.env = (false, eval e X.env) :: starEach es X.env := by rfl) (hpl : (backTo pos (starEach es X.env)).any (·.1) = false := by rfl) : EO X g (.Call (.Name x p) (e :: es) [] pos) (dCB pr t) :=
 EO.w (b3e hc hg hm hv ha.pe hn hdb he hpl) (a7R hr)
theorem L1 (hc : CallR X (.type T) r) (hr : RCD X.K r pr) (hg : Gl X x) (hm : X.mg x = none) (hv : bootBuiltins x = some (.type T)) (ha : BAO X g (e :: es) t) (hn : x ≠ "__name__" := by decide) (hdb : (x == ("__debug__" : Str)) = false := by decide)
  (he : starEach (e :: es) X.env = (false, eval e X.env) :: starEach es X.env := by rfl) (hpl : (backTo pos (starEach es X.env)).any (·.1) = false := by rfl) : EO X g (.Call (.Name x p) (e :: es) [] pos) (dCB pr t) :=
 EO.w (a80 hc hg hm hv ha.pe hn hdb he hpl) (a7R hr)
end
theorem b3D {K : PySem.W.Frag} {N : Addr → Prop} {fa : Option Addr} {H : Hp} {d : D} {xs : List V} (r : R0 K N fa H [d] xs) : ∃ x, xs = [x] ∧ RepB K N fa H d x := by
 obtain ⟨x, ys, rfl, r1, r2⟩ := r
 simp only [R0] at r2; subst r2
 exact ⟨x, rfl, r1⟩
noncomputable def one {α : Type} (p : D → Option α) : List D → Option α
 | [d] => p d
 | _ => none
theorem a75 {α : Type} {p : D → Option α} {ds : List D} {a : α} (h : one p ds = some a) : ∃ d, ds = [d] ∧ p d = some a := by
 cases ds with
 | nil => cases h
 | cons d r =>
  cases r with
  | nil => exact ⟨d, rfl, h⟩
  | cons _ _ => cases h
noncomputable def u3 : D → Option D
 | .tup ds => some (.int (ds.length : Nat))
 | .lst ds => some (.int (ds.length : Nat))
 | .str x => some (.int (x.length : Nat))
 | _ => none
noncomputable def T4 : D → Option D
 | .int i => some (.int (if i < 0 then -i else i))
 | _ => none
noncomputable def a4u : D → Option D
 | .int i => some (.int i)
 | .bl b => some (.int (if b then 1 else 0))
 | _ => none
noncomputable def D5 : D → Option D
 | .tup ds => some (.tup ds)
 | .lst ds => some (.tup ds)
 | _ => none
noncomputable def Q9 (d : D) : Bool := d.plain && d.py.showable && d.py.canLay0 && decide (d.py.depth ≤ 64) && decide (d.py.shown.length ≤ sizeLine)
noncomputable def E1 (d : D) : Option D := if Q9 d then some (.str d.py.shown) else none
section
variable {X : Cx} {K : PySem.W.Frag}
theorem Q5 : CallR X (.builtin "len") (fun xs H Q => (∃ p ys, xs = [.ref p] ∧ (SqL X.K H p ys ∨ SqT X.K H p ys) ∧ Q (.int ys.length) H) ∨ (∃ z, xs = [.str z] ∧ z.length ≤ sizeLine ∧ Q (.int z.length) H)) := call_len_seq.or b2E
theorem rc1 {r : List V → Hp → VK → Prop} {p : D → Option D} (h : ∀ (g : Gh) (σ : L2.St) (H : Hp) (fa : Option Addr) (O : List Addr) (s : DS) (x : V) (d1 d : D) (Q : VK), GI K g σ H fa O s → RepB K (NN g.F fa O) fa H d1 x → p d1 = some d →
  (∀ v H', StE fa O H fa O H' → GI K g σ H' fa O s → Rep K (NN g.F fa O) fa H' d v → Q v H') → r [x] H Q) : RCD K r (one p) := by
 intro g σ H fa O s xs ds d Q I rs e k
 obtain ⟨d1, rfl, e1⟩ := a75 e
 obtain ⟨x, rfl, rx⟩ := b3D rs
 exact h g σ H fa O s x d1 d Q I rx e1 k
theorem O9 : RCD K (fun xs H Q => (∃ p ys, xs = [.ref p] ∧ (SqL K H p ys ∨ SqT K H p ys) ∧ Q (.int ys.length) H) ∨ (∃ z, xs = [.str z] ∧ z.length ≤ sizeLine ∧ Q (.int z.length) H)) (one u3) := rc1 fun g σ H fa O s x d1 d Q I r e k => by
 cases d1 with
 | tup es =>
  cases e
  simp only [RepB, Rep] at r
  obtain ⟨a, ys, rfl, q, w⟩ := r
  exact .inl ⟨a, ys, rfl, .inr q, k _ H StE.refl I (by rw [w.length]; simp only [Rep])⟩
 | lst es =>
  cases e
  obtain ⟨a, ys, rfl, _, q, w⟩ := r
  exact .inl ⟨a, ys, rfl, .inl (SqL.of q), k _ H StE.refl I (by rw [w.length]; simp only [Rep])⟩
 | str z =>
  cases e
  simp only [RepB, Rep] at r
  obtain ⟨rfl, l⟩ := r
  exact .inr ⟨z, rfl, l, k _ H StE.refl I (by simp only [Rep])⟩
 | _ => cases e
theorem a0I : RCD K (fun xs H Q => ∃ i, xs = [.int i] ∧ Q (.int (if i < 0 then -i else i)) H) (one T4) := rc1 fun g σ H fa O s x d1 d Q I r e k => by
 cases d1 with
 | int i =>
  cases e
  simp only [RepB, Rep] at r
  subst r
  exact ⟨i, rfl, k _ H StE.refl I (by simp only [Rep])⟩
 | _ => cases e
theorem b2Q : RCD K (fun xs H Q => (∃ i, xs = [.int i] ∧ Q (.int i) H) ∨ ∃ k, xs = [.bl k] ∧ Q (.int (if k then 1 else 0)) H) (one a4u) := rc1 fun g σ H fa O s x d1 d Q I r e k => by
 cases d1 with
 | int i =>
  cases e
  simp only [RepB, Rep] at r
  subst r
  exact .inl ⟨i, rfl, k _ H StE.refl I (by simp only [Rep])⟩
 | bl b =>
  cases e
  simp only [RepB, Rep] at r
  subst r
  exact .inr ⟨b, rfl, k _ H StE.refl I (by simp only [Rep])⟩
 | _ => cases e
theorem N2 : RCD K (fun xs H Q => ∃ p ys, xs = [.ref p] ∧ ((SqL K H p ys ∧ ∀ l, H l = none → Q (.ref l) (upd H l (.tup ys))) ∨ (SqT K H p ys ∧ Q (.ref p) H))) (one D5) := rc1 fun g σ H fa O s x d1 d Q I r e k => by
 cases d1 with
 | tup es =>
  cases e
  simp only [RepB, Rep] at r
  obtain ⟨a, ys, rfl, q, w⟩ := r
  exact ⟨a, ys, rfl, .inr ⟨q, k _ H StE.refl I (by simp only [Rep]; exact ⟨a, ys, rfl, q, w⟩)⟩⟩
 | lst es =>
  cases e
  obtain ⟨a, ys, rfl, _, q, w⟩ := r
  refine ⟨a, ys, rfl, .inl ⟨SqL.of q, fun p hp => ?_⟩⟩
  have a2 : StE fa O H fa O (upd H p (.tup ys)) := D6 hp
  refine k _ _ a2 (I.new hp) ?_
  simp only [Rep]
  exact ⟨p, ys, rfl, SqT.of A9, Reps.stp I a2.stp w⟩
 | _ => cases e
noncomputable def a7p (K : PySem.W.Frag) : List V → Hp → VK → Prop := fun xs H Q => ∃ N fa d x, xs = [x] ∧ RepB K N fa H d x ∧ Q9 d = true ∧ Q (.str d.py.shown) H
theorem Y9 (hu : X.A.units + 66 < cLine) (hg : X.A.guards = some []) : CallR X (.builtin "repr") (a7p X.K) := by
 intro pins s σ H xs us Q I r h
 obtain ⟨N, fa, d, x, rfl, rx, ok, q⟩ := h
 obtain ⟨u, rfl, ru⟩ := U1 r
 unfold Q9 at ok
 simp only [Bool.and_eq_true, decide_eq_true_eq] at ok
 obtain ⟨⟨⟨⟨hp, hs⟩, hl⟩, hd⟩, hz⟩ := ok
 obtain ⟨as, ra⟩ := X5 I d x u rx.o ru hp
 have fin : ∀ (h' : Heap) (tk : Nat) (t : Tok), (∀ b o, s.heap.get? b = some o → h'.get? b = some o) → EP X pins σ Q (.str d.py.shown t) { s with heap := h', toks := tk } := fun h' tk t hk => ⟨.str d.py.shown, H, I.kept hk, ⟨t, rfl⟩, q⟩
 cases d with
 | non =>
  simp only [RepB, Rep] at rx; subst rx; cases ru
  exact P.repr_of_none (fin s.heap _ _ fun _ _ e => e)
 | bl b =>
  simp only [RepB, Rep] at rx; subst rx; cases ru
  have := fin s.heap (s.toks + 1) s.toks fun _ _ e => e
  refine P.repr_of_bool ?_
  cases b <;> simpa only [D.py, PyData.shown] using this
 | int i =>
  simp only [RepB, Rep] at rx; subst rx
  obtain ⟨t, rfl⟩ := ru
  have := fin s.heap (s.toks + 1) s.toks fun _ _ e => e
  simp only [D.py, PyData.showable, decide_eq_true_eq] at hs
  exact P.repr_of_int hs (by simpa only [D.py, PyData.shown] using this)
 | str z =>
  simp only [RepB, Rep] at rx; obtain ⟨rx, _⟩ := rx; subst rx
  obtain ⟨t, rfl⟩ := ru
  have := fin s.heap (s.toks + 1) s.toks fun _ _ e => e
  exact P.repr_of_str (by simpa only [D.py, PyData.shown] using this) (by simpa only [D.py, PyData.shown] using hz)
 | tup ds =>
  simp only [RepB, Rep] at rx
  obtain ⟨a, ys, rfl, _⟩ := rx
  cases ru
  exact repr_of_reads' ra hs (PyData.noDict_hsm (PyData.hasDict_of_canLay _ hl)) hg (by omega) (fun _ _ e => e) (fun h' t tk hk => fin h' tk t hk) hz
 | lst ds =>
  obtain ⟨a, ys, rfl, _⟩ := rx
  cases ru
  exact repr_of_reads' ra hs (PyData.noDict_hsm (PyData.hasDict_of_canLay _ hl)) hg (by omega) (fun _ _ e => e) (fun h' t tk hk => fin h' tk t hk) hz
 | feed => cases hp
 | scr _ => cases hp
theorem W0 : RCD K (a7p K) (one E1) := rc1 fun g σ H fa O s x d1 d Q I r e k => by
 unfold E1 at e
 by_cases h : Q9 d1 = true
 ·rw [if_pos h] at e
  cases e
  refine ⟨_, _, d1, x, rfl, r, h, k _ H StE.refl I ?_⟩
  simp only [Rep]
  unfold Q9 at h
  simp only [Bool.and_eq_true, decide_eq_true_eq] at h
  exact ⟨trivial, h.2⟩
 ·rw [if_neg h] at e; cases e
end
end DL
namespace DL
open PySem PySem.Spec L2
noncomputable def FS.get (key : Str) (f : FS) : Option D :=
 if f.kind = 0 then if key = "cells" then some (.lst (f.cells.map .int)) else if key = "at" then some (.int f.pos) else if key = "left" then some (.int f.left) else if key = "turn" then some (.int f.turn) else none else none
noncomputable def FS.put (key : Str) (n : Int) (f : FS) : Option FS :=
 if f.kind = 0 then if key = "at" then some { f with pos := n } else if key = "left" then some { f with left := n } else if key = "turn" then some { f with turn := n } else none else none
noncomputable def dFG (i : Nat) (key : Str) : DE := fun s => match s.sl[i]? with
 | some (.val .feed) => s.fs.bind fun f => (f.get key).map fun d => (d, s)
 | _ => none
section
variable {X : Cx} {g : Gh} {i : Nat} {x key : Str} {p1 p2 pos pos' : Pos} {j : Nat}
theorem a8U (xs : List V) (h : xs.length ≤ 63) : K1 xs none (some 63) = xs := by
 unfold K1
 have e1 : HT.sIx xs.length 0 none = 0 := rfl
 have e2 : HT.sIx xs.length xs.length (some 63) = xs.length := by
  have := HT.sIx_nat xs.length xs.length 63
  rw [show ((63 : Nat) : Int) = 63 from rfl] at this
  rw [this]; omega
 rw [e1, e2, List.drop_zero, Nat.sub_zero, List.take_length]
end
noncomputable def FS.tget (n : Int) (f : FS) : Option D :=
 if f.kind = 0 then none else if n = 0 then some (.lst (f.cells.map .int)) else if n = 1 then some (.int f.pos) else if n = 2 then some (.int f.left) else if n = 3 ∧ f.kind ≠ 1 then some (.int f.turn) else none
noncomputable def FS.tput (n v : Int) (f : FS) : Option FS :=
 if f.kind = 0 then none else if n = 1 then some { f with pos := v } else if n = 2 then some { f with left := v } else if n = 3 ∧ f.kind ≠ 1 then some { f with turn := v } else none
noncomputable def dTG (i : Nat) (n : Int) : DE := fun s => match s.sl[i]? with
 | some (.val .feed) => s.fs.bind fun f => (f.tget n).map fun d => (d, s)
 | _ => none
noncomputable def dTP (i : Nat) (n : Int) (fe : DE) : DM := fun s => (fe s).bind fun x => match x.2.sl[i]?, x.1 with
 | some (.val .feed), .int v => x.2.fs.bind fun f => (f.tput n v).map fun f' => (.next, { x.2 with fs := some f' })
 | _, _ => none
noncomputable def dTN (i : Nat) : DE := fun s => match s.sl[i]?, s.fs with
 | some (.val (.scr ns)), none => some (.feed, { s with fs := some ⟨ns, 0, 0, 0, 1⟩ })
 | _, _ => none
theorem FS.tget_val {n : Int} {f : FS} {d : D} (h : f.tget n = some d) (c : Addr) : ∃ v, atI (E9 c f) n = some v ∧ ((v = .ref c ∧ d = .lst (f.cells.map .int)) ∨ ∃ i, v = .int i ∧ d = .int i) ∧ f.kind ≠ 0 := by
 unfold FS.tget at h
 split at h
 ·cases h
 rename_i hk
 unfold E9
 split at h
 ·rename_i e; subst e; cases h
  refine ⟨.ref c, ?_, .inl ⟨rfl, rfl⟩, hk⟩
  split <;> rfl
 split at h
 ·rename_i e; subst e; cases h
  refine ⟨.int f.pos, ?_, .inr ⟨_, rfl, rfl⟩, hk⟩
  split <;> rfl
 split at h
 ·rename_i e; subst e; cases h
  refine ⟨.int f.left, ?_, .inr ⟨_, rfl, rfl⟩, hk⟩
  split <;> rfl
 split at h
 ·rename_i e; obtain ⟨e, e2⟩ := e; subst e; cases h
  refine ⟨.int f.turn, ?_, .inr ⟨_, rfl, rfl⟩, hk⟩
  rw [if_neg e2]; rfl
 ·cases h
theorem FS.tput_val {n v : Int} {f f' : FS} (h : f.tput n v = some f') (c : Addr) : ∃ j, ixN (E9 c f).length n = some j ∧ (E9 c f).set j (.int v) = E9 c f' ∧ f'.cells = f.cells ∧ f.kind ≠ 0 ∧ f'.kind ≠ 0 := by
 unfold FS.tput at h
 split at h
 ·cases h
 rename_i hk
 split at h
 ·rename_i e; subst e; cases h
  refine ⟨1, ?_, ?_, rfl, hk, hk⟩
  ·unfold E9; split <;> rfl
  ·by_cases z : f.kind = 1
   ·simp [E9, z]
   ·simp [E9, z]
 split at h
 ·rename_i e; subst e; cases h
  refine ⟨2, ?_, ?_, rfl, hk, hk⟩
  ·unfold E9; split <;> rfl
  ·by_cases z : f.kind = 1
   ·simp [E9, z]
   ·simp [E9, z]
 split at h
 ·rename_i e; obtain ⟨e, e2⟩ := e; subst e; cases h
  refine ⟨3, ?_, ?_, rfl, hk, hk⟩
  ·unfold E9; rw [if_neg e2]; rfl
  ·simp [E9, e2]
 ·cases h
section
variable {X : Cx} {g : Gh} {i : Nat} {x : Str} {n : Int} {p1 p2 pos pos' : Pos} {j : Nat}
theorem R9 (hv : PE X (.Name x p1) (T3 i)) : EO X g (.Subscript (.Name x p1) (.Constant (.int n) j p2) pos) (dTG i n) :=
 EO.w (a7P ix_list hv W1 (fun _ _ => rfl)) fun σ H Q hQ__ => by
  obtain ⟨fa, O, s, d, s', I, e, k⟩ := hQ__
  unfold dTG at e
  cases q : s.sl[i]? with
  | none => rw [q] at e; cases e
  | some z =>
   rw [q] at e
   cases z with
   | no => cases e
   | own _ => cases e
   | val dz =>
    cases dz with
    | feed =>
     obtain ⟨f, h1, h2⟩ := Option.bind_eq_some_iff.mp e
     obtain ⟨d', h3, h4⟩ := Option.map_eq_some_iff.mp h2
     cases h4
     obtain ⟨u, e1, r⟩ := SlR.val I.sl q
     simp only [Rep] at r
     obtain ⟨a, ha, rfl⟩ := r
     have fd := I.fd
     rw [h1, ha] at fd
     obtain ⟨_, c, hc, nc, lc⟩ := fd
     obtain ⟨v, hval, hd, hk⟩ := FS.tget_val h3 c
     rw [a2W hk] at hc
     refine ⟨_, e1, a, _, n, v, rfl, rfl, SqL.of hc, hval, k v H fa O StE.refl I ?_⟩
     rcases hd with ⟨rfl, rfl⟩ | ⟨n, rfl, rfl⟩
     ·simp only [Rep]
      exact ⟨c, _, rfl, by rw [ha]; exact nc, lc, Reps.ints⟩
     ·simp only [Rep]
    | _ => cases e
theorem a2M {e : Expr} {fe : DE} (hv : PE X (.Name x p1) (T3 i)) (he : EO X g e fe) (hs : swapsWithSole [.Subscript (.Name x p1) (.Constant (.int n) j p2) pos'] e pos.line X.env = pure false := by rfl) (hw : swappedStores [.Subscript (.Name x p1) (.Constant (.int n) j p2) pos'] e X.env = pure none := by rfl) :
  SO X g (.Assign [.Subscript (.Name x p1) (.Constant (.int n) j p2) pos'] e pos) (dTP i n fe) :=
 SO.w (a4T he.pe (b0E hv W1 b3P) hs hw) fun E σ H hQ__ => by
  obtain ⟨fa, O, s, fl, s', I, q, k⟩ := hQ__
  obtain ⟨⟨d, s1⟩, h1, h2⟩ := Option.bind_eq_some_iff.mp q
  simp only [] at h2
  cases q1 : s1.sl[i]? with
  | none => rw [q1] at h2; cases h2
  | some z =>
   rw [q1] at h2
   cases z with
   | no => cases h2
   | own _ => cases h2
   | val dz =>
    cases dz with
    | feed =>
     cases d with
     | int w =>
      simp only [] at h2
      obtain ⟨f, h3, h4⟩ := Option.bind_eq_some_iff.mp h2
      obtain ⟨f', h5, h6⟩ := Option.map_eq_some_iff.mp h4
      cases h6
      refine ⟨fa, O, s, .int w, s1, I, h1, fun v H1 f1 O1 a1 I1 r => ?_⟩
      simp only [Rep] at r
      subst r
      obtain ⟨u, e1, ru⟩ := SlR.val I1.sl q1
      simp only [Rep] at ru
      obtain ⟨a, ha, rfl⟩ := ru
      have fd := I1.fd
      rw [h3, ha] at fd
      obtain ⟨lc63, c, hc, nc, lc⟩ := fd
      obtain ⟨m, hix, hput, hcell, hk, hk'⟩ := FS.tput_val h5 c
      rw [a2W hk] at hc
      refine ⟨_, e1, a, _, n, m, rfl, rfl, hc, hix, ?_⟩
      rw [hput]
      have a2 : StE f1 O1 H1 f1 O1 (upd H1 a (.lst (E9 c f'))) := ⟨fun _ h => h, .inl rfl, fun b w e nb => by rw [p8 (fun z => nb (by rw [z]; exact ha))]; exact e, fun b z => by
       by_cases hb : b = a
       ·subst hb; rw [A9] at z; cases z
       ·rw [p8 hb] at z; exact z⟩
      have cr := I1.car a2.stp
      refine k σ _ f1 O1 (a1.stp.trans a2.stp) ⟨I1.nd, SlR.go cr (fun b xs hb e => a2.same b _ e fun z => I1.nf b z hb) I1.sl, I1.fr, ?_, I1.tr, I1.ff, ?_, I1.nf⟩
      ·refine ⟨fun b hb => (by cases hb), I1.st.fe, fun b w e _ nb => ?_, fun b z => I1.st.mon b (a2.mon b z)⟩
       refine a2.same b w (I1.st.same b w e (by simp) nb) fun z => ?_
       rcases I1.st.fe with y | ⟨y, y2⟩
       ·rw [y] at z; exact nb z
       ·rw [y2 b z] at e; cases e
      ·rw [ha]
       refine ⟨by rw [hcell]; exact lc63, c, by rw [a2W hk', A9], nc, ?_⟩
       rw [p8 (fun z => nc (.inr (.inr (by rw [z])))), hcell]
       exact lc
     | _ => cases h2
    | _ => cases h2
theorem a91 {j63 j0 j1 : Nat} {q5 q6 q7 q8 q9 : Pos} (hv : PE X (.Name x p1) (T3 i)) :
  EO X g (.List [.Subscript (.Name x p1) (.Slice none (some (.Constant (.int 63) j63 q5)) none q6) q7, .Constant (.int 0) j0 q8, .Constant (.int 0) j1 q9] pos) (dTN i) :=
 EO.w (a7v (X7 (a5z a5i hv a6I (a5H W1)) (X7 W1 (X7 W1 a1k)))) fun σ H Q hQ__ => by
  obtain ⟨fa, O, s, d, s', I, e, k⟩ := hQ__
  unfold dTN at e
  cases q : s.sl[i]? with
  | none => rw [q] at e; cases e
  | some z =>
   rw [q] at e
   cases z with
   | no => cases e
   | own _ => cases e
   | val dz =>
    cases dz with
    | scr ns =>
     cases hf : s.fs with
     | some f => rw [hf] at e; cases e
     | none =>
      rw [hf] at e
      cases e
      obtain ⟨u, e1, r⟩ := SlR.val I.sl q
      simp only [Rep] at r
      obtain ⟨l63, a, rfl, sq⟩ := r
      have fd := I.fd
      rw [hf] at fd
      have fan : fa = none := by cases fa with | none => rfl | some _ => exact fd.elim
      subst fan
      refine ⟨_, e1, 63, rfl, a, _, rfl, sq.sq, fun c hcH => ?_⟩
      rw [a8U _ (by rw [List.length_map]; exact l63)]
      refine ⟨by show 3 ≤ sizeLine; decide, fun p hp' => ?_⟩
      have npc : c ≠ p := fun z => by rw [← z, A9] at hp'; cases hp'
      have hp : H p = none := by rw [p8 (Ne.symm npc)] at hp'; exact hp'
      have fresh : ∀ b u, H b = some u → b ≠ p ∧ b ≠ c := fun b u e => ⟨L5 e hp, L5 e hcH⟩
      have a2 : StE none O H (some p) O (upd (upd H c (.lst (ns.map V.int))) p (.lst [V.ref c, V.int 0, V.int 0])) := by
       refine ⟨fun _ h => h, .inr ⟨rfl, fun b z => by cases z; exact hp⟩, fun b u e _ => ?_, fun b z => ?_⟩
       ·obtain ⟨n1, n2⟩ := fresh b u e
        rw [p8 n1, p8 n2]; exact e
       ·by_cases h1 : b = p
        ·subst h1; exact hp
        ·by_cases h2 : b = c
         ·subst h2; exact hcH
         ·rw [p8 h1, p8 h2] at z; exact z
      have cr := I.car a2.stp
      refine k _ _ (some p) O a2 ⟨I.nd, SlR.go cr (fun b xs hb e => a2.same b _ e (by simp)) I.sl, I.fr, I.st.trans ⟨fun b hb => (by cases hb), a2.fe, fun b u e _ n => a2.same b u e n, a2.mon⟩, I.tr, I.ff, ?_, I.nf_step a2.fe⟩ (by simp only [Rep]; exact ⟨p, rfl, rfl⟩)
      refine ⟨l63, c, A9, ?_, ?_⟩
      ·rintro (z | z | z)
       ·exact I.trF z hcH
       ·obtain ⟨xs, e⟩ := I.owned z
        rw [hcH] at e; cases e
       ·exact npc (Option.some.inj z).symm
      ·rw [p8 npc, A9]
    | _ => cases e
end
structure Cal (P : Program) (w : World) (K : PySem.W.Frag) (mg : Str → Option Value) (base : Heap) (k : Nat) (x : Str) (ps : List Str) (m : DFn) : Prop where
 ex : ∃ (f : Addr) (fd : FuncData), FnD P w K mg base k f fd ps m ∧ mg x = some (.ref f) ∧ PySem.W.keepIn K (.ref f) = true ∧ Binds K fd ps []
structure Blt (mg : Str → Option Value) : Prop where
 len : mg "len" = none
 range : mg "range" = none
 abs : mg "abs" = none
 tuple : mg "tuple" = none
 list : mg "list" = none
 int : mg "int" = none
 bool : mg "bool" = none
 str : mg "str" = none
 repr : mg "repr" = none
 all : mg "all" = none
 isinstance : mg "isinstance" = none
 zip : mg "zip" = none
 enumerate : mg "enumerate" = none
 min : mg "min" = none
 max : mg "max" = none
 reversed : mg "reversed" = none
 any : mg "any" = none
 sum : mg "sum" = none
 sorted : mg "sorted" = none
section
variable {X : Cx} {g : Gh} {k : Nat} {ps : List Str} {m : DFn} {x : Str} {p pos : Pos} {e : Expr} {es : List Expr} {t : DA}
theorem j6 (C : Cal X.prog X.w X.K X.mg X.base k x ps m) (k' : Nat) (hr : Room k' X.A) (hk : k ≤ k') (hg : Gl X x)
  (ha : AO X g (e :: es) t) (hn : ∀ s ds s', t s = some (ds, s') → ds.length = ps.length) (hdb : (x == ("__debug__" : Str)) = false := by decide) (he : starEach (e :: es) X.env = (false, eval e X.env) :: starEach es X.env := by rfl) (hpl : (backTo pos (starEach es X.env)).any (·.1) = false := by rfl) :
  EO X g (.Call (.Name x p) (e :: es) [] pos) (c9 m t) := by
 obtain ⟨f, fd, F, hm, hkp, hb⟩ := C.ex
 exact a82 F (hr.mono hk) hg hm hkp hb ha hn hdb he hpl
end
theorem b0y {P : Program} {w : World} {K : PySem.W.Frag} {mg : Str → Option Value} {base : Heap} {x : Str} {st : Stmt} {f : Addr} {fd : FuncData} {N ps : List Str} {k : Nat} {b : DM} (F : Fun K x x st f fd) (hm : mg x = some (.ref f)) (hb : Binds K fd ps []) (S : FnScope N ps (l7 st))
  (hbody : ∀ (cdv : Value) (A : Around) (outer : List Env) (s : Shared) (H : Hp) (E : XK) (g : Gh), Room k (A.deeper (PyProof.Rows.envOfC x (l7 st) s.heap.objs.size f cdv)) → SSO (O6 CX0 P w K mg base N x (l7 st) f cdv A outer s H E).nox g (J7 st) b) :
  Cal P w K mg base (k + 1) x ps (mFn N.length b) := ⟨f, fd, a4S F S hbody, hm, F.kp, hb⟩
theorem u64 {A : Around} {k : Nat} (hr : Room k A) : A.units + 64 < cLine := by have := hr.un; omega
theorem u66 {A : Around} {k : Nat} (hr : Room k A) : A.units + 66 < cLine := by have := hr.un; omega
theorem Q0 : bootBuiltins ("len" : Str) = some (.builtin "len") := by decide +kernel
theorem a1c : bootBuiltins ("abs" : Str) = some (.builtin "abs") := by decide +kernel
theorem V7 : bootBuiltins ("repr" : Str) = some (.builtin "repr") := by decide +kernel
theorem M9 : bootBuiltins ("tuple" : Str) = some (.type "tuple") := by decide +kernel
theorem a9C : bootBuiltins ("int" : Str) = some (.type "int") := by decide +kernel
theorem a0Q {κ : Type} [BEq κ] [LawfulBEq κ] {β : Type} : ∀ {l : List (κ × β)} {x : κ} {v : β}, l.lookup x = some v → (x, v) ∈ l
 | [], _, _, h => by simp at h
 | (a, b) :: r, x, v, h => by
  rw [List.lookup_cons] at h
  cases e : x == a with
  | true =>
   rw [e] at h
   cases h
   rw [eq_of_beq e]
   exact List.mem_cons_self ..
  | false =>
   rw [e] at h
   exact List.mem_cons_of_mem _ (a0Q h)
noncomputable def hasAll (names : List (Str × NameKind)) (cl : List (Str × Addr)) : Bool := names.all fun p => !(p.2 == .cell || p.2 == .free) || (cl.lookup p.1).isSome
theorem a5Y {names : List (Str × NameKind)} {cl : List (Str × Addr)} (h : hasAll names cl = true) : ∀ x, (names.lookup x = some .cell ∨ names.lookup x = some .free) → ∃ c, cl.lookup x = some c := fun x hx => by
 have key : ∀ kd, names.lookup x = some kd → (kd == NameKind.cell || kd == NameKind.free) = true → ∃ c, cl.lookup x = some c := fun kd e q => by
  have m := a0Q e
  have z := List.all_eq_true.mp h _ m
  simp only [q, Bool.not_true, Bool.false_or] at z
  exact Option.isSome_iff_exists.mp z
 rcases hx with e | e
 ·exact key _ e rfl
 ·exact key _ e rfl
inductive CapL (X : Cx) (scope : Scope) : List Nat → List Str → Prop where
 | nil : CapL X scope [] []
 | cons {i : Nat} {y : Str} {r : List Nat} {ys : List Str} (h1 : X.N[i]? = some y) (h2 : X.env.scope.names.lookup y = some .cell ∨ X.env.scope.names.lookup y = some .free)
   (h3 : (relabel scope X.env).names.lookup y = some .cell ∨ (relabel scope X.env).names.lookup y = some .free) (t : CapL X scope r ys) : CapL X scope (i :: r) (y :: ys)
theorem CapL.len {X : Cx} {scope : Scope} : ∀ {idx : List Nat} {ys : List Str}, CapL X scope idx ys → ys.length = idx.length
:= by
 intro idx ys h
 induction h with
 | nil => rfl
 | cons _ _ _ t ih => rw [List.length_cons, List.length_cons, ih]
theorem CapL.at {X : Cx} {scope : Scope} : ∀ {idx : List Nat} {ys : List Str}, CapL X scope idx ys → ∀ (j i : Nat) (y : Str), idx[j]? = some i → ys[j]? = some y →
  X.N[i]? = some y ∧ (X.env.scope.names.lookup y = some .cell ∨ X.env.scope.names.lookup y = some .free) ∧ ((relabel scope X.env).names.lookup y = some .cell ∨ (relabel scope X.env).names.lookup y = some .free)
:= by
 intro idx ys h
 induction h with
 | nil => intro j i y h; cases h
 | cons h1 h2 h3 t ih =>
  intro j i y e1 e2
  cases j with
  | zero =>
   cases e1
   cases e2
   exact ⟨h1, h2, h3⟩
  | succ j => exact ih j i y e1 e2
inductive SubL (cells : List (Str × Addr)) : List (Str × Addr) → Prop where
 | nil : SubL cells []
 | cons {x : Str} {c : Addr} {r : List (Str × Addr)} (h : cells.lookup x = some c) (t : SubL cells r) : SubL cells ((x, c) :: r)
theorem SubL.mem {cells : List (Str × Addr)} : ∀ {cl : List (Str × Addr)}, SubL cells cl → ∀ x c, (x, c) ∈ cl → cells.lookup x = some c
:= by
 intro cl h
 induction h with
 | nil => intro x c h; cases h
 | cons e t ih =>
  intro x c h
  rcases List.mem_cons.mp h with z | z
  ·cases z; exact e
  ·exact ih x c z
theorem R5 {X : Cx} {scope : Scope} {cl : List (Str × Addr)} {x : Str} {caps : List Str} {idx : List Nat} (clos : closureFor scope X.env = pure cl) (sub : SubL X.env.cells cl) (cell : ∀ y ∈ scope.names, y.2 ≠ .cell) (kind : scope.kind = .function)
  (names : ∀ y ∈ scope.names, y.2 = .local → scope.names.lookup y.1 = some .local) (has : hasAll (relabel scope X.env).names cl = true) (cap : CapL X scope idx caps) : CompOk X scope cl (x :: caps) 1 idx :=
 ⟨clos, fun y c e => sub.mem y c (a0Q e), cell, kind, names, a5Y has, by rw [List.length_cons, cap.len, Nat.add_comm], fun j i y e1 e2 => cap.at j i y e1 (by rw [Nat.add_comm] at e2; simpa using e2)⟩
noncomputable def C1 (i j : Nat) (f : DA) : DM := fun s => (f s).bind fun x => match x.1 with
 | [a, b] => some (.next, { x.2 with sl := (x.2.sl.set i (.val a)).set j (.val b) })
 | _ => none
section
variable {X : Cx} {g : Gh}
theorem a4x {i j : Nat} {x y : Str} {a b : Expr} {f : DA} {px py pt pos : Pos} {kt k2 pt2} (hc : X.calm = true) (hN : X.N.Nodup) (hi : X.N[i]? = some x) (hj : X.N[j]? = some y) (hij : i ≠ j)
  (hx : X.env.scope.names.lookup x = some .local) (hy : X.env.scope.names.lookup y = some .local) (ha : AO X g [a, b] f)
  (hw : swappedStores [.Tuple [.Name x px, .Name y py] kt pt] (.Tuple [a, b] k2 pt2) X.env = pure (some [x, y]))
  (hs : swapsWithSole [.Tuple [.Name x px, .Name y py] kt pt] (.Tuple [a, b] k2 pt2) pos.line X.env = pure false := by rfl) :
  SO X g (.Assign [.Tuple [.Name x px, .Name y py] kt pt] (.Tuple [a, b] k2 pt2) pos) (C1 i j f) := SO.w (b3S hc hN hi hj hij hx hy ha.pe hw hs) fun E σ H hQ__ => by
 obtain ⟨fa, O, s, fl, s', I, q, k⟩ := hQ__
 obtain ⟨⟨ds, s1⟩, h1, h2⟩ := Option.bind_eq_some_iff.mp q
 refine ⟨fa, O, s, ds, s1, I, h1, fun vs H1 f1 O1 a1 I1 r => ?_⟩
 match ds, h2, r with
 | [d1, d2], h2, r =>
  simp only [Option.some.injEq, Prod.mk.injEq] at h2
  obtain ⟨e1, e2⟩ := h2
  subst e1; subst e2
  simp only [Reps] at r
  obtain ⟨v, ys, rfl, rv, u, zs, rfl, ru, rfl⟩ := r
  refine ⟨v, u, rfl, ?_⟩
  obtain ⟨P, sub, I2⟩ := I1.put i rv
  have a2 : StE f1 O1 H1 f1 P H1 := a00 sub
  obtain ⟨P3, sub3, I3⟩ := I2.put j (Rep.stp I1 a2.stp ru)
  exact k _ H1 f1 P3 (a1.stp.trans (a2.stp.trans (a00 sub3).stp)) I3
end
theorem walkD {l : PySem.W.OpenLaw} {q : Program} {loose : List Str} {XP : (Str → Option Value) → Heap → Prop} {YP : World → Heap → Prop} {d : DefRec} {K : Params → PySem.W.Frag} {m : DFn} {k : Nat} (hn : l.most = some 63) (hdf : d.params.defaults = []) (hr : Room k callerA)
  (hY : ∀ (w : World) (h : Heap), YP w h → (K w.params).In h)
  (F : ∀ (w : World) (mg : Str → Option Value) (fa : Addr) (h : Heap), (K w.params).In h → h.Ns mainGlobals mg → mg d.name = some (.ref fa) →
   ∃ fd : FuncData, (∀ (s : Shared) (u : Value), BindsTo s fd ⟨[u], []⟩ [("_law_script", u)]) ∧ ∀ base : Heap, (K w.params).In base → base.Ns mainGlobals mg → FnOk l.prog w (K w.params) mg base CX0 k fa fd ["_law_script"] (spD (K w.params) 1 m))
  (math : ∀ ns : List Int, ns.length ≤ 63 → ∃ fs', m [.scr ns] none = some (.bl true, fs')) :
  PySem.W.WalkO q loose XP YP l.row.toRowW d [] (fun f vs => PySem.call f vs) :=
 L2.walk_of (n := 63) (k := k) (x := "_law_script") (CX := fun _ => CX0) (sp := fun w => spD (K w.params) 1 m) hn (by decide) hdf hr hY F (fun w H a ns hl hO hS => by
  obtain ⟨fs', e⟩ := math ns hl
  refine ⟨fun _ => False, none, [.scr ns], none, .bl true, fs', fun b z => z.elim, fun a z => (by cases z), ?_, trivial, e, rfl, fun v H' fa' _ _ r => by simpa only [Rep] using r⟩
  simp only [Reps, Rep]
  refine ⟨_, _, rfl, ⟨hl, a, rfl, ?_⟩, rfl⟩
  rcases hS with (z | ⟨o, z⟩) | z
  ·rcases hO a with y | ⟨o, xs, y⟩ <;> · rw [z] at y; cases y
  ·exact .inl ⟨o, z⟩
  ·exact .inr z) fun _ _ _ _ _ z => z
section
variable {X : Cx} {g : Gh} {a b c : Expr} {fa fb fc : DE} {pos : Pos}
noncomputable abbrev DO := DS → Option (Option Int × DS)
noncomputable def a7i (K : PySem.W.Frag) (g : Gh) (f : DO) : L2.TO := fun σ H Q => ∃ fa O s d s', GI K g σ H fa O s ∧ f s = some (d, s') ∧ ∀ H' fa' O', StE fa O H fa' O' H' → GI K g σ H' fa' O' s' → Q d H'
structure OO (X : Cx) (g : Gh) (e : Option Expr) (f : DO) : Prop where
 pe : PO X e (a7i X.K g f)
noncomputable def dNo : DO := fun s => some (none, s)
noncomputable def dAt (f : DE) : DO := fun s => (f s).bind fun x => match x.1 with | .int i => some (some i, x.2) | _ => none
theorem POw {e : Option Expr} {t t' : L2.TO} (h : PO X e t) (w : ∀ σ H Q, t' σ H Q → t σ H Q) : PO X e t' := fun pins s σ H Q I q => h pins s σ H Q I (w σ H Q q)
theorem OO.w {e : Option Expr} {f : DO} {t : L2.TO} (h : PO X e t) (w : ∀ σ H Q, a7i X.K g f σ H Q → t σ H Q) : OO X g e f := ⟨POw h w⟩
theorem a0f : OO X g none dNo := OO.w a6I fun σ H Q hQ__ => by
 obtain ⟨f0, O, s, d, s', I, e, k⟩ := hQ__
 cases e
 exact k H f0 O StE.refl I
theorem Z2 (h : BO X g a fa) : OO X g (some a) (dAt fa) := OO.w (a5H h.pe) fun σ H Q hQ__ => by
 obtain ⟨f0, O, s, d, s', I, e, k⟩ := hQ__
 obtain ⟨⟨x, s1⟩, h1, e⟩ := Option.bind_eq_some_iff.mp e
 cases x with
 | int i =>
  simp only [Option.some.injEq, Prod.mk.injEq] at e
  obtain ⟨e1, e2⟩ := e
  subst e1; subst e2
  exact ⟨f0, O, s, .int i, s1, I, h1, fun v H1 f1 O1 a1 I1 r1 => ⟨i, by simpa only [RepB, Rep] using r1, k H1 f1 O1 a1 I1⟩⟩
 | _ => cases e
noncomputable def G7 (xs : List D) (lo hi : Option Int) : List D := (xs.drop (HT.sIx xs.length 0 lo)).take (HT.sIx xs.length xs.length hi - HT.sIx xs.length 0 lo)
theorem a2Q {K : PySem.W.Frag} {N : Addr → Prop} {fa : Option Addr} {H : Hp} {ds : List D} {xs : List V} (r : Reps K N fa H ds xs) (lo hi : Option Int) : Reps K N fa H (G7 ds lo hi) (K1 xs lo hi) := by
 unfold G7 K1
 rw [r.length]
 exact (r.drop _).take _
end
end DL
namespace HT2
open PySem PyProof.Rows HT
section
variable {prog : Program} {w : World} {A : Around} {E : Value → Shared → Prop} {s : Shared}
theorem getItem_tuple_whole {t sl : Addr} {items : Array Value} {vl vu : Value} {lo hi : Option Int} {Q : Value → Shared → Prop} (ht : IsTup s.heap t items) (hs : s.heap.IsSliceOf sl vl vu .none) (pl : IsPart vl lo) (pu : IsPart vu hi)
  (hw : sIx items.size 0 lo = 0 ∧ sIx items.size items.size hi = items.size) (h : Q (.ref t) s) : wpAny (model prog w) A (getItem (.ref t) (.ref sl)) Q E s := by
 obtain ⟨os, hos, hcs, hds⟩ := id hs
 have hTs : s.TypeIs (.ref sl) "slice" := ⟨os, hos, hcs⟩
 unfold getItem
 try with_reducible refine wpAny_holding ?_
 first | refine wpAny_bind (wpAny_pure ?_) | skip
 refine wpAny_bind (wpAny_sequenceKey ht.typeIs (by decide) ?_)
 refine wpAny_bind (wpAny_callSpecial?_slot (name := Str.ofString "__getitem__") ht.typeIs PyProof.Rows.slot_tuple_getitem
  (wpAny_call_entry PyProof.Rows.slot_tuple_getitem ht.typeIs entry_tuple_getitem ?_ (args_tuple_getitem _ _)))
 show wpAny _ _ (Builtin.Tuple.tupleItemsOf (.ref t) >>= _) _ _ s
 refine wpAny_bind (tupleItemsOf_ ht ?_)
 refine wpAny_bind (wpAny_typeOf hTs ?_)
 rw [if_pos (by decide)]
 refine wpAny_bind (a6U hs pl pu ?_)
 have hyes : (((sIx items.size 0 lo : Nat) : Int) == 0 && (1 : Int) == 1 && (sIx items.size items.size hi - sIx items.size 0 lo) == items.size) = true := by
  rw [hw.1, hw.2]; simp
 show wpAny _ _ (if (((sIx items.size 0 lo : Nat) : Int) == 0 && (1 : Int) == 1 && (sIx items.size items.size hi - sIx items.size 0 lo) == items.size) = true then _ else _) _ _ s
 rw [if_pos hyes]
 refine wpAny_bind (m := Builtin.Tuple.tupleIsExact _) (wpAny_bind (wpAny_typeOf ht.typeIs (wpAny_pure ?_)))
 rw [if_pos (by decide)]
 first
  | exact wpAny_bind (wpAny_rule (wpAny_bind (wpAny_pure (wpAny_pure ⟨_, rfl, wpAny_pure h⟩))))
  | exact wpAny_bind (wpAny_rule (wpAny_pure ⟨_, rfl, wpAny_pure h⟩))
  | exact wpAny_bind (wpAny_rule (wpAny_bind (wpAny_pure ⟨_, rfl, wpAny_pure h⟩)))
end
end HT2
namespace DL
open PySem PySem.Spec L2
section
variable {X : Cx} {g : Gh} {a : Expr} {fa : DE} {pos : Pos}
noncomputable def a9X (K : PySem.W.Frag) : V → Option Int → Option Int → Hp → VK → Prop := fun x lo hi H Q => ∃ a xs, x = .ref a ∧ SqT K H a xs ∧ (HT.sIx xs.length 0 lo = 0 ∧ HT.sIx xs.length xs.length hi = xs.length) ∧ Q (.ref a) H
theorem b1C : L2.SlR X (a9X X.K) := by
 intro pins s σ H x v vl vu lo hi sl Q I rx hs pl pu h
 obtain ⟨a, xs, rfl, hx, hw, q⟩ := h
 cases rx
 obtain ⟨its, r, ht, hz⟩ := I.tuple hx
 have hlen : its.toArray.size = xs.length := by rw [List.size_toArray]; exact r.length.symm
 refine ⟨"tuple", _, PyProof.Rows.slot_tuple_getitem.lookup, ht.typeIs, ?_⟩
 exact HT2.getItem_tuple_whole ht hs pl pu (by rw [hlen]; exact hw) ⟨.ref a, H, I, rfl, q⟩
theorem b30 {xs : List D} {lo hi : Option Int} (h : HT.sIx xs.length 0 lo = 0 ∧ HT.sIx xs.length xs.length hi = xs.length) : G7 xs lo hi = xs := by
 unfold G7
 rw [h.1, h.2, List.drop_zero, Nat.sub_zero, List.take_length]
noncomputable def dSl (f : DE) (lo hi : DO) : DE := fun s => (f s).bind fun x => (lo x.2).bind fun l => (hi l.2).bind fun h => match x.1 with
 | .tup ds => some (.tup (G7 ds l.1 h.1), h.2)
 | .lst ds => some (.lst (G7 ds l.1 h.1), h.2)
 | _ => none
theorem b0t {x r : D} {F : List D → List D} {t z : DS} (e : (match x with
 | .tup ds => some (D.tup (F ds), t)
 | .lst ds => some (D.lst (F ds), t)
 | _ => none) = some (r, z)) : t = z ∧ ((∃ ds, x = .lst ds ∧ r = .lst (F ds)) ∨ ∃ ds, x = .tup ds ∧ r = .tup (F ds)) := by
 cases x with
 | tup ds => cases e; exact ⟨rfl, .inr ⟨ds, rfl, rfl⟩⟩
 | lst ds => cases e; exact ⟨rfl, .inl ⟨ds, rfl, rfl⟩⟩
 | _ => cases e
theorem a0h {lo hi : Option Expr} {fl fh : DO} {p2 : Pos} (ha : BO X g a fa) (hl : OO X g lo fl) (hh : OO X g hi fh) : EO X g (.Subscript a (.Slice lo hi none p2) pos) (dSl fa fl fh) :=
 EO.w (a5z (L2.SlR.or (L2.SlR.or b3g b1C) a5i) ha.pe hl.pe hh.pe) fun σ H Q hQ__ => by
  obtain ⟨f0, O, s, d, s', I, e, k⟩ := hQ__
  obtain ⟨⟨x, s1⟩, h1, e⟩ := Option.bind_eq_some_iff.mp e
  obtain ⟨⟨l, s2⟩, h2, e⟩ := Option.bind_eq_some_iff.mp e
  obtain ⟨⟨h, s3⟩, h3, e⟩ := Option.bind_eq_some_iff.mp e
  obtain ⟨rfl, c⟩ := b0t (F := fun ds => G7 ds l h) e
  refine ⟨f0, O, s, x, s1, I, h1, fun v H1 f1 O1 a1 I1 r1 => ⟨f1, O1, s1, l, s2, I1, h2, fun H2 f2 O2 a2 I2 => ⟨f2, O2, s2, h, s3, I2, h3, fun H3 f3 O3 a3 I3 => ?_⟩⟩⟩
  have r3 := RepB.stp I2 a3 (RepB.stp I1 a2 r1)
  rcases c with ⟨ds, rfl, rfl⟩ | ⟨ds, rfl, rfl⟩
  ·obtain ⟨c, xs, rfl, _, q, w⟩ := r3
   refine .inr ⟨c, xs, rfl, SqL.of q, fun p hp => ?_⟩
   have a4 : StE f3 O3 H3 f3 O3 (upd H3 p (.lst (K1 xs l h))) := D6 hp
   have L := V1 I3 hp (a2Q w l h)
   refine k _ _ f3 O3 (a1.trans (a2.trans (a3.trans a4))) L.gi ?_
   simp only [Rep]
   exact ⟨p, _, rfl, a0H I3 a4 L.gi hp L.nf, A9, Reps.stp I3 a4.stp (a2Q w l h)⟩
  ·simp only [RepB, Rep] at r3
   obtain ⟨c, xs, rfl, q, w⟩ := r3
   by_cases hw : HT.sIx xs.length 0 l = 0 ∧ HT.sIx xs.length xs.length h = xs.length
   ·refine .inl (.inr ⟨c, xs, rfl, q, hw, k _ H3 f3 O3 (a1.trans (a2.trans a3)) I3 ?_⟩)
    rw [w.length] at hw
    rw [b30 hw]
    simp only [Rep]
    exact ⟨c, xs, rfl, q, w⟩
   ·refine .inl (.inl ⟨c, xs, rfl, q, hw, fun p hp => ?_⟩)
    have a4 : StE f3 O3 H3 f3 O3 (upd H3 p (.tup (K1 xs l h))) := D6 hp
    refine k _ _ f3 O3 (a1.trans (a2.trans (a3.trans a4))) (I3.new hp) ?_
    simp only [Rep]
    exact ⟨p, _, rfl, SqT.of A9, Reps.stp I3 a4.stp (a2Q w l h)⟩
end
end DL
namespace HT3
open PySem PyProof.Rows HT
section
variable {prog : Program} {w : World} {A : Around} {E : Value → Shared → Prop} {s : Shared}
theorem b2h (n : Nat) : Builtin.Slice.sliceAdjust none none (-1) (n : Int) = ((n : Int) - 1, -1) := by
 have h1 : ((-1 : Int) < 0) := by omega
 unfold Builtin.Slice.sliceAdjust
 simp only [h1, if_true]
theorem b3y (n : Nat) : Builtin.Slice.slicePlaces ((n : Int) - 1) (-1) (-1) = n := by
 unfold Builtin.Slice.slicePlaces
 have h1 : ¬ ((-1 : Int) > 0) := by omega
 simp only [h1, if_false]
 have e : -(-1 : Int) = 1 := rfl
 rw [e, Int.ediv_one]
 split <;> omega
theorem b3B {sl : Addr} {t : Tok} {n : Nat} {Q : Int × Int × Nat → Shared → Prop} (hs : s.heap.IsSliceOf sl .none .none (.int (-1) t))
  (h : Q ((n : Int) - 1, -1, n) s) : wpAny (model prog w) A (Builtin.Slice.sliceApplied (.ref sl) (pure (n : Int))) Q E s := by
 obtain ⟨os, hos, hcs, hds⟩ := id hs
 unfold Builtin.Slice.sliceApplied Builtin.Slice.sliceFields
 refine wpAny_bind (wpAny_bind (wpAny_field hos hds (x := .none) rfl (wpAny_bind (wpAny_field hos hds (x := .none) rfl (wpAny_bind (wpAny_field hos hds (x := .int (-1) t) rfl (wpAny_pure ?_)))))))
 refine wpAny_bind (slicePart_int ?_)
 show wpAny _ _ (if ((-1 : Int) == 0) = true then _ else _) _ _ s
 rw [if_neg (by decide)]
 refine wpAny_bind (slicePart_none (wpAny_bind (slicePart_none (wpAny_bind (wpAny_pure ?_)))))
 show wpAny _ _ (match Builtin.Slice.sliceAdjust none none (-1) (n : Int) with | (lo, hi) => pure (lo, (-1 : Int), Builtin.Slice.slicePlaces lo hi (-1))) _ _ s
 rw [b2h n]
 show wpAny _ _ (pure ((n : Int) - 1, (-1 : Int), Builtin.Slice.slicePlaces ((n : Int) - 1) (-1) (-1))) _ _ s
 rw [b3y]
 exact wpAny_pure h
theorem b3b (xs : Array Value) : ((List.range xs.size).filterMap fun (m : Nat) => xs[(((xs.size : Int) - 1) + (m : Int) * (-1)).toNat]?).toArray = xs.toList.reverse.toArray := by
 congr 1
 have e : ((List.range xs.size).filterMap fun (m : Nat) => xs[(((xs.size : Int) - 1) + (m : Int) * (-1)).toNat]?) = ((List.range xs.size).filterMap fun (m : Nat) => xs.toList.reverse[m]?) := by
  have cg : ∀ (l : List Nat) (f g : Nat → Option Value), (∀ m ∈ l, f m = g m) → l.filterMap f = l.filterMap g := by
   intro l f g
   induction l with
   | nil => intro _; rfl
   | cons a r ih => intro h; rw [List.filterMap_cons, List.filterMap_cons, h a (List.mem_cons_self ..), ih fun m hm => h m (List.mem_cons_of_mem _ hm)]
  refine cg _ _ _ fun m hm => ?_
  have hm' : m < xs.size := List.mem_range.mp hm
  have : (((xs.size : Int) - 1) + (m : Int) * (-1)).toNat = xs.size - 1 - m := by omega
  rw [this, List.getElem?_reverse (by simpa using hm')]
  simp
 rw [e]
 have hl : xs.size = xs.toList.reverse.length := by simp
 rw [hl]
 generalize xs.toList.reverse = l
 clear e hl
 induction l with
 | nil => rfl
 | cons a r ih =>
  rw [List.length_cons, List.range_succ_eq_map, List.filterMap_cons]
  simp only [List.getElem?_cons_zero, List.filterMap_map]
  congr 1
theorem getItem_tuple_rev {t sl : Addr} {items : Array Value} {tk : Tok} {Q : Value → Shared → Prop} (ht : IsTup s.heap t items) (hs : s.heap.IsSliceOf sl .none .none (.int (-1) tk))
  (h : Q (.ref s.heap.objs.size) { s with heap := s.heap.push { cls := .type "tuple", data := .seq items.toList.reverse.toArray } })
  (hsz : items.size ≤ sizeLine) : wpAny (model prog w) A (getItem (.ref t) (.ref sl)) Q E s := by
 have htake : sizeOk (.seq items.toList.reverse.toArray) := by
  show items.toList.reverse.toArray.size ≤ sizeLine
  rw [List.size_toArray, List.length_reverse, Array.length_toList]
  exact hsz
 obtain ⟨os, hos, hcs, hds⟩ := id hs
 have hTs : s.TypeIs (.ref sl) "slice" := ⟨os, hos, hcs⟩
 unfold getItem
 try with_reducible refine wpAny_holding ?_
 first | refine wpAny_bind (wpAny_pure ?_) | skip
 refine wpAny_bind (wpAny_sequenceKey ht.typeIs (by decide) ?_)
 refine wpAny_bind (wpAny_callSpecial?_slot (name := Str.ofString "__getitem__") ht.typeIs PyProof.Rows.slot_tuple_getitem
  (wpAny_call_entry PyProof.Rows.slot_tuple_getitem ht.typeIs entry_tuple_getitem ?_ (args_tuple_getitem _ _)))
 show wpAny _ _ (Builtin.Tuple.tupleItemsOf (.ref t) >>= _) _ _ s
 refine wpAny_bind (tupleItemsOf_ ht ?_)
 refine wpAny_bind (wpAny_typeOf hTs ?_)
 rw [if_pos (by decide)]
 refine wpAny_bind (b3B hs ?_)
 have hno : ¬ ((((items.size : Int) - 1) == 0 && (-1 : Int) == 1 && items.size == items.size) = true) := by
  intro q
  rw [Bool.and_eq_true, Bool.and_eq_true] at q
  exact absurd q.1.2 (by decide)
 show wpAny _ _ (if (((items.size : Int) - 1) == 0 && (-1 : Int) == 1 && items.size == items.size) = true then _ else _) _ _ s
 rw [if_neg hno, b3b]
 first
  | exact wpAny_bind (m := Builtin.Tuple.tupleExact _) (wpAny_newObj_type (wpAny_pure ⟨_, rfl, wpAny_pure h⟩) htake)
  | exact wpAny_bind (m := Builtin.Tuple.tupleExact _) (wpAny_newObj_type (wpAny_bind (wpAny_pure (wpAny_pure ⟨_, rfl, wpAny_pure h⟩))) htake)
  | exact wpAny_bind (wpAny_bind (m := Builtin.Tuple.tupleExact _) (wpAny_newObj_type (wpAny_pure (wpAny_pure ⟨_, rfl, wpAny_pure h⟩)) htake))
  | exact wpAny_bind (wpAny_bind (m := Builtin.Tuple.tupleExact _) (wpAny_newObj_type (wpAny_pure ⟨_, rfl, wpAny_pure h⟩) htake))
theorem a8b {sl : Addr} {t : Tok} {n : Nat} {Q : Int × Int × Nat → Shared → Prop} (hs : s.heap.IsSliceOf sl .none .none (.int 1 t))
  (h : Q (0, 1, n) s) : wpAny (model prog w) A (Builtin.Slice.sliceApplied (.ref sl) (pure (n : Int))) Q E s := by
 obtain ⟨os, hos, hcs, hds⟩ := id hs
 unfold Builtin.Slice.sliceApplied Builtin.Slice.sliceFields
 refine wpAny_bind (wpAny_bind (wpAny_field hos hds (x := .none) rfl (wpAny_bind (wpAny_field hos hds (x := .none) rfl (wpAny_bind (wpAny_field hos hds (x := .int 1 t) rfl (wpAny_pure ?_)))))))
 refine wpAny_bind (slicePart_int ?_)
 show wpAny _ _ (if ((1 : Int) == 0) = true then _ else _) _ _ s
 rw [if_neg (by decide)]
 refine wpAny_bind (slicePart_none (wpAny_bind (slicePart_none (wpAny_bind (wpAny_pure ?_)))))
 show wpAny _ _ (match Builtin.Slice.sliceAdjust none none 1 (n : Int) with | (lo, hi) => pure (lo, (1 : Int), Builtin.Slice.slicePlaces lo hi 1)) _ _ s
 rw [a6B none none n]
 show wpAny _ _ (pure (((sIx n 0 none : Nat) : Int), (1 : Int), Builtin.Slice.slicePlaces ((sIx n 0 none : Nat) : Int) ((sIx n n none : Nat) : Int) 1)) _ _ s
 rw [a6q]
 exact wpAny_pure h
theorem getItem_tuple_one {t sl : Addr} {items : Array Value} {tk : Tok} {Q : Value → Shared → Prop} (ht : IsTup s.heap t items) (hs : s.heap.IsSliceOf sl .none .none (.int 1 tk)) (h : Q (.ref t) s) : wpAny (model prog w) A (getItem (.ref t) (.ref sl)) Q E s := by
 obtain ⟨os, hos, hcs, hds⟩ := id hs
 have hTs : s.TypeIs (.ref sl) "slice" := ⟨os, hos, hcs⟩
 unfold getItem
 try with_reducible refine wpAny_holding ?_
 first | refine wpAny_bind (wpAny_pure ?_) | skip
 refine wpAny_bind (wpAny_sequenceKey ht.typeIs (by decide) ?_)
 refine wpAny_bind (wpAny_callSpecial?_slot (name := Str.ofString "__getitem__") ht.typeIs PyProof.Rows.slot_tuple_getitem
  (wpAny_call_entry PyProof.Rows.slot_tuple_getitem ht.typeIs entry_tuple_getitem ?_ (args_tuple_getitem _ _)))
 show wpAny _ _ (Builtin.Tuple.tupleItemsOf (.ref t) >>= _) _ _ s
 refine wpAny_bind (tupleItemsOf_ ht ?_)
 refine wpAny_bind (wpAny_typeOf hTs ?_)
 rw [if_pos (by decide)]
 refine wpAny_bind (a8b hs ?_)
 have hyes : ((0 : Int) == 0 && (1 : Int) == 1 && items.size == items.size) = true := by simp
 show wpAny _ _ (if ((0 : Int) == 0 && (1 : Int) == 1 && items.size == items.size) = true then _ else _) _ _ s
 rw [if_pos hyes]
 refine wpAny_bind (m := Builtin.Tuple.tupleIsExact _) (wpAny_bind (wpAny_typeOf ht.typeIs (wpAny_pure ?_)))
 rw [if_pos (by decide)]
 first
  | exact wpAny_bind (wpAny_rule (wpAny_bind (wpAny_pure (wpAny_pure ⟨_, rfl, wpAny_pure h⟩))))
  | exact wpAny_bind (wpAny_rule (wpAny_pure ⟨_, rfl, wpAny_pure h⟩))
  | exact wpAny_bind (wpAny_rule (wpAny_bind (wpAny_pure ⟨_, rfl, wpAny_pure h⟩)))
end
end HT3
namespace DL
open PySem PySem.Spec L2 PyProof.Rows
section
variable {X : Cx} {g : Gh} {a st : Expr} {fa fs : DE} {pos p2 : Pos}
noncomputable def b00 (K : PySem.W.Frag) (te ts : TE) : TE := fun σ H Q => te σ H fun x H1 => ts σ H1 fun y H2 => (y = .int (-1) ∧ ∃ p xs, x = .ref p ∧ SqT K H2 p xs ∧ ∀ l, H2 l = none → Q (.ref l) (upd H2 l (.tup xs.reverse))) ∨ (y = .int 1 ∧ ∃ p xs, x = .ref p ∧ SqT K H2 p xs ∧ Q (.ref p) H2)
theorem b0e {te ts : TE} (he : PE X a te) (hs : PE X st ts) : PE X (.Subscript a (.Slice none none (some st) p2) pos) (b00 X.K te ts) := by
 intro pins s σ H Q I h
 refine Subscript_ (thn (he pins s σ H _ I h) fun v s1 ⟨x, H1, I1, r1, q1⟩ => ?_)
 refine wpAny_Slice ?_
 rw [evalPart_none]
 refine wpAny_pure (wpAny_pure ?_)
 rw [evalPart_some]
 refine thn (hs pins s1 σ H1 _ I1 q1) fun u s3 ⟨y, H3, I3, r3, q3⟩ => ?_
 rcases q3 with ⟨rfl, p, xs, rfl, hx, q⟩ | ⟨rfl, p, xs, rfl, hx, q⟩
 case inr =>
  obtain ⟨tk, rfl⟩ := r3
  cases r1
  have I4 : Inv X pins σ H3 { s3 with heap := s3.heap.push { cls := .type "slice", data := .fields #[.none, .none, .int 1 tk] } } := I3.kept (t' := s3.toks) fun b ob q => Heap.get?_push_of_some _ q
  obtain ⟨its, r, ht, hz⟩ := I4.tuple hx
  show wpAny (model X.prog X.w) X.A (subscriptTail a (.Slice none none (some st) p2) (.ref p) (.ref s3.heap.objs.size)) (EP X pins σ Q) X.xe { s3 with heap := s3.heap.push { cls := .type "slice", data := .fields #[.none, .none, .int 1 tk] } }
  refine tail_any (ops := [.ref p, .ref s3.heap.objs.size]) ht.typeIs PyProof.Rows.slot_tuple_getitem.lookup ?_ (by with_unfolding_all rfl)
  exact HT3.getItem_tuple_one ht (Heap.IsSliceOf.new ..) ⟨.ref p, H3, I4, rfl, q⟩
 obtain ⟨tk, rfl⟩ := r3
 cases r1
 have I4 : Inv X pins σ H3 { s3 with heap := s3.heap.push { cls := .type "slice", data := .fields #[.none, .none, .int (-1) tk] } } := I3.kept (t' := s3.toks) fun b ob q => Heap.get?_push_of_some _ q
 obtain ⟨its, r, ht, hz⟩ := I4.tuple hx
 have hlen : its.toArray.size = xs.length := by rw [List.size_toArray]; exact r.length.symm
 show wpAny (model X.prog X.w) X.A (subscriptTail a (.Slice none none (some st) p2) (.ref p) (.ref s3.heap.objs.size)) (EP X pins σ Q) X.xe { s3 with heap := s3.heap.push { cls := .type "slice", data := .fields #[.none, .none, .int (-1) tk] } }
 refine tail_any (ops := [.ref p, .ref s3.heap.objs.size]) ht.typeIs PyProof.Rows.slot_tuple_getitem.lookup ?_ (by with_unfolding_all rfl)
 refine HT3.getItem_tuple_rev ht (Heap.IsSliceOf.new ..) ?_ (by rw [hlen]; exact hz)
 refine ⟨.ref (s3.heap.push { cls := .type "slice", data := .fields #[.none, .none, .int (-1) tk] }).objs.size, _, I4.laid (t' := s3.toks) (o := .tup xs.reverse) (fun b ob q => Heap.get?_push_of_some _ q) (Nat.le_refl _) ?_, rfl, q _ (I4.hok.fresh (Nat.le_refl _))⟩
 exact ⟨by rw [List.length_reverse]; exact hz, _, r.reverse, IsTup.new _ _⟩
noncomputable def a1h (f h : DE) : DE := fun s => (f s).bind fun x => (h x.2).bind fun y => match x.1, y.1 with
 | .tup ds, .int i => if i = -1 then some (.tup ds.reverse, y.2) else if i = 1 then some (.tup ds, y.2) else none
 | _, _ => none
theorem a85 {x y r : D} {t : DS} {z : DS} (e : (match x, y with
 | .tup ds, .int i => if i = -1 then some (D.tup ds.reverse, t) else if i = 1 then some (.tup ds, t) else none
 | _, _ => none) = some (r, z)) : ∃ ds i, x = .tup ds ∧ y = .int i ∧ t = z ∧ ((i = -1 ∧ r = .tup ds.reverse) ∨ (i = 1 ∧ r = .tup ds)) := by
 cases x with
 | tup ds =>
  cases y with
  | int i =>
   have e : (if i = -1 then some (D.tup ds.reverse, t) else if i = 1 then some (.tup ds, t) else none) = some (r, z) := e
   by_cases hi : i = -1
   ·rw [if_pos hi] at e
    cases e
    exact ⟨ds, i, rfl, rfl, rfl, .inl ⟨hi, rfl⟩⟩
   ·rw [if_neg hi] at e
    by_cases h1 : i = 1
    ·rw [if_pos h1] at e
     cases e
     exact ⟨ds, i, rfl, rfl, rfl, .inr ⟨h1, rfl⟩⟩
    ·rw [if_neg h1] at e
     cases e
  | _ => cases e
 | _ => cases e
theorem b2f (ha : BO X g a fa) (hs : BO X g st fs) : EO X g (.Subscript a (.Slice none none (some st) p2) pos) (a1h fa fs) := EO.w (b0e ha.pe hs.pe) fun σ H Q hQ__ => by
 obtain ⟨f0, O, s, d, s', I, e, k⟩ := hQ__
 obtain ⟨⟨x, s1⟩, h1, e⟩ := Option.bind_eq_some_iff.mp e
 obtain ⟨⟨y, s2⟩, h2, e⟩ := Option.bind_eq_some_iff.mp e
 obtain ⟨ds, i, rfl, rfl, rfl, c⟩ := a85 e
 refine ⟨f0, O, s, _, s1, I, h1, fun v H1 f1 O1 a1 I1 r1 => ⟨f1, O1, s1, _, s2, I1, h2, fun u H2 f2 O2 a2 I2 r2 => ?_⟩⟩
 have r3 := RepB.stp I1 a2 r1
 simp only [RepB, Rep] at r2 r3
 subst r2
 obtain ⟨c', xs, rfl, q, w⟩ := r3
 rcases c with ⟨rfl, rfl⟩ | ⟨rfl, rfl⟩
 ·refine .inl ⟨rfl, c', xs, rfl, q, fun l hl => ?_⟩
  have a4 : StE f2 O2 H2 f2 O2 (upd H2 l (.tup xs.reverse)) := D6 hl
  refine k _ _ f2 O2 (a1.trans (a2.trans a4)) (I2.new hl) ?_
  simp only [Rep]
  exact ⟨l, _, rfl, SqT.of A9, Reps.stp I2 a4.stp (Reps.reverse w)⟩
 ·refine .inr ⟨rfl, c', xs, rfl, q, k _ _ f2 O2 (a1.trans a2) I2 ?_⟩
  simp only [Rep]
  exact ⟨c', xs, rfl, q, w⟩
end
end DL
namespace DL
open PySem PySem.Spec L2
noncomputable def a3v : Expr → Bool
 | .Starred _ _ => false
 | _ => true
theorem a5U {a : Expr} {es : List Expr} {env : Env} (h : a3v a = true) : starEach (a :: es) env = (false, eval a env) :: starEach es env := by
 cases a <;> first | rfl | (cases h)
section
variable {X : Cx} {g : Gh} {a : Expr} {es : List Expr} {fa : DE} {fr : DA}
theorem ac (ha : EO X g a fa) (hr : AO X g es fr) (hs : a3v a = true := by rfl) : AO X g (a :: es) (a7 fa fr) := a4H ha hr (a5U hs)
theorem bc (ha : BO X g a fa) (hr : BAO X g es fr) (hs : a3v a = true := by rfl) : BAO X g (a :: es) (a7 fa fr) := b0T ha hr (a5U hs)
end
end DL
namespace DL
open PySem PySem.Spec L2 PyProof.Rows
structure LitV (K : PySem.W.Frag) (d : D) (u : Value) : Prop where
 ex : ∃ v : V, RelV v u ∧ ∀ N fa H, Rep K N fa H d v
section
variable {K : PySem.W.Frag}
theorem b3d (i : Int) (t : Tok) : LitV K (.int i) (.int i t) := ⟨.int i, ⟨t, rfl⟩, fun _ _ _ => by simp only [Rep]⟩
end
structure Con (K : PySem.W.Frag) (mg : Str → Option Value) (x : Str) (d : D) : Prop where
 ex : ∃ u : Value, mg x = some u ∧ LitV K d u
theorem b1e {X : Cx} {g : Gh} {x : Str} {d : D} {pos : Pos} (C : Con X.K X.mg x d) (hg : Gl X x) (hd : (x == ("__debug__" : Str)) = false := by decide) : EO X g (.Name x pos) (dC d) := by
 obtain ⟨u, hm, h⟩ := C.ex
 obtain ⟨v, r, q⟩ := h.ex
 exact EO.w (b1N (v := v) hg hm r hd) fun σ H Q hQ__ => by
  obtain ⟨fa, O, s, d', s', I, e, k⟩ := hQ__
  simp only [dC, Option.some.injEq, Prod.mk.injEq] at e
  obtain ⟨q1, q2⟩ := e
  subst q1; subst q2
  exact k v H fa O StE.refl I (q _ _ _)
end DL
namespace DL
open PySem PySem.Spec L2
noncomputable def mk2 (idx : List Nat) (sl : List Sl) : D → Option (List Sl)
 | .tup [a, b] => some (.val a :: .val b :: D9 idx sl)
 | _ => none
theorem b1m {idx : List Nat} {sl : List Sl} {d : D} {r : List Sl} (h : mk2 idx sl d = some r) : ∃ a b, d = .tup [a, b] ∧ r = .val a :: .val b :: D9 idx sl := by
 cases d with
 | tup ds =>
  match ds, h with
  | [a, b], h => cases h; exact ⟨a, b, rfl, rfl⟩
 | _ => cases h
noncomputable def K3 (idx : List Nat) (fi : DA) (fc : DT) (fe : DE) : DA := fun s => (fi s).bind fun x => if x.1.length ≤ sizeLine then (w9 (mk2 idx x.2.sl) fc fe x.1 x.2.fs).map fun y => (y.1, { x.2 with fs := y.2 }) else none
section
variable {X : Cx} {g : Gh} {scope : Scope} {cl : List (Str × Addr)} {N' : List Str} {idx : List Nat} {iter elt tg : Expr} {ifs : List Expr} {pos : Pos} {fi : DA} {fc : DT} {fe : DE}
theorem a6T {G : TG} (k : CompOk X scope cl N' 2 idx)
  (hG : ∀ (a : Addr) (x y : V) (σ : L2.St) (H : Hp) (Q : L2.St → Hp → Prop), SqT X.K H a [x, y] → Q ((σ.set 0 (some x)).set 1 (some y)) H → G (.ref a) σ H Q) : ∀ σ H Q, Q2 X.K g (K3 idx fi fc fe) σ H Q → V9 2 idx (Z3 X.K g fi) G (fun σ H Q => ∃ g', K7 X.K g' fc σ H Q) (fun σ H Q => ∃ g', G6 X.K g' fe σ H Q) σ H Q :=
 a7E (mk := mk2 idx) fun N fa sl d sl0 x σ H Q hm rx hc kk => by
  obtain ⟨da, db, rfl, rfl⟩ := b1m hm
  simp only [Rep, Reps] at rx
  obtain ⟨ad, xs0, rfl, hsq, u, ys0, rfl, ru, w, ys1, rfl, rw', rfl⟩ := rx
  refine hG ad u w _ _ _ hsq (kk _ ⟨by simp, fun j v hj => ?_⟩ ?_)
  ·cases j with
   | zero => simp [A2] at hj
   | succ j =>
    cases j with
    | zero => simp [A2] at hj
    | succ j => rw [List.getElem?_set_ne (by simp), List.getElem?_set_ne (by simp)]; exact hj
  ·have eb : ((A2 2 idx σ).set 0 (some u)).set 1 (some w) = some u :: some w :: idx.map fun i => (σ[i]?).join := by simp [A2]
   rw [eb]
   simp only [SlR]
   exact ⟨u, _, rfl, ru, w, _, rfl, rw', hc⟩
theorem b37 {G : TG} (hc : X.calm = true) (k : CompOk X scope cl N' 2 idx) (hi : IO X g tg iter fi) (hg : ∀ C s0 H0 ex, PG (blk X N' scope cl C s0 H0 ex) tg G)
  (hG : ∀ (a : Addr) (x y : V) (σ : L2.St) (H : Hp) (Q : L2.St → Hp → Prop), SqT X.K H a [x, y] → Q ((σ.set 0 (some x)).set 1 (some y)) H → G (.ref a) σ H Q)
  (ht : ∀ C s0 H0 ex g', S4 (blk X N' scope cl C s0 H0 ex) g' ifs fc) (he : ∀ C s0 H0 ex g', EO (blk X N' scope cl C s0 H0 ex) g' elt fe) (hs : ∀ x, foldedSetIterable iter X.env x = pure x := by intro _; rfl) :
  FO X g (.ListComp elt [⟨tg, iter, ifs, 0⟩] scope pos) (K3 idx fi fc fe) := by
 exact FO.w (a4M (tc := fun σ H Q => ∃ g', K7 X.K g' fc σ H Q) (te := fun σ H Q => ∃ g', G6 X.K g' fe σ H Q) hc k hi.pe hg (fun C s0 H0 ex pins s σ H Q I ⟨g', h⟩ => ht C s0 H0 ex g' pins s σ H Q I h) (fun C s0 H0 ex pins s σ H Q I ⟨g', h⟩ => (he C s0 H0 ex g').pe pins s σ H Q I h) hs) (a6T k hG)
theorem a0b {X : Cx} {scope : Scope} {cl : List (Str × Addr)} {x y : Str} {caps : List Str} {idx : List Nat} (clos : closureFor scope X.env = pure cl) (sub : SubL X.env.cells cl) (cell : ∀ y ∈ scope.names, y.2 ≠ .cell) (kind : scope.kind = .function)
  (names : ∀ y ∈ scope.names, y.2 = .local → scope.names.lookup y.1 = some .local) (has : hasAll (relabel scope X.env).names cl = true) (cap : CapL X scope idx caps) : CompOk X scope cl (x :: y :: caps) 2 idx :=
 ⟨clos, fun y c e => sub.mem y c (a0Q e), cell, kind, names, a5Y has, by rw [List.length_cons, List.length_cons, cap.len]; omega, fun j i y e1 e2 => cap.at j i y e1 (by
  rw [show 2 + j = j + 1 + 1 by omega] at e2; simpa using e2)⟩
end
noncomputable def RwIt (h : Heap) (i l : Addr) (xs : Array Value) (k : Nat) : Prop := (h.IsListIter i l k ∧ h.IsList l xs) ∨ (h.IsTupleIter i l k ∧ h.IsTuple l xs)
section
variable {h h' : Heap} {i l : Addr} {xs : Array Value} {k : Nat}
theorem RwIt.at (x : RwIt h i l xs k) (ei : ∀ o, h.get? i = some o → h'.get? i = some o) (el : ∀ o, h.get? l = some o → h'.get? l = some o) : RwIt h' i l xs k := by
 rcases x with ⟨⟨o, q, r⟩, ⟨p, u, v⟩⟩ | ⟨⟨o, q, r⟩, ⟨p, u, v⟩⟩
 ·exact .inl ⟨⟨o, ei o q, r⟩, ⟨p, el p u, v⟩⟩
 ·exact .inr ⟨⟨o, ei o q, r⟩, ⟨p, el p u, v⟩⟩
theorem RwIt.lt (x : RwIt h i l xs k) : i < h.objs.size := by
 rcases x with ⟨⟨o, q, r⟩, _⟩ | ⟨⟨o, q, r⟩, _⟩ <;> exact Heap.lt_size q
end
section
variable {prog : Program} {w : World} {A : Around} {E : Value → Shared → Prop} {s : Shared}
theorem b3j {it t : Addr} {i : Nat} {items : Array Value} {x : Value} {Q : Value → Shared → Prop} (hit : s.heap.IsTupleIter it t i) (ht : s.heap.IsTuple t items) (hx : items[i]? = some x)
  (hQ : ∀ h', h'.IsTupleIter it t (i + 1) → Heap.SameBut it s.heap h' → Q x { s with heap := h' }) : wpAny (model prog w) A (Builtin.SmallTypes.nextOf (.ref it)) Q E s := by
 obtain ⟨o, ho, hc, hd⟩ := id hit
 obtain ⟨ol, hol, _, nl, hdl⟩ := ht
 unfold Builtin.SmallTypes.nextOf
 refine wpAny_bind (wpAny_callSpecial?_slot (name := Str.ofString "__next__") hit.typeIs PySem.F.slot_tuple_iterator_next (wpAny_call_entry PySem.F.slot_tuple_iterator_next hit.typeIs PySem.F.entry_tuple_iterator_next ?_ (PySem.F.args_tuple_iterator_next_1 _)))
 show wpAny _ _ (field (.ref it) 0 >>= _) _ _ s
 refine wpAny_bind (wpAny_field ho hd (x := .ref t) rfl ?_)
 show wpAny _ _ (if (Value.ref t == Value.none) = true then _ else _) _ _ s
 rw [if_neg (show ¬ ((Value.ref t == Value.none) = true) from Bool.false_ne_true)]
 show wpAny _ _ (field (.ref it) 1 >>= _) _ _ s
 refine wpAny_bind (wpAny_field ho hd (x := .int i 0) rfl ?_)
 show wpAny _ _ (seqItems? (.ref t) >>= _) _ _ s
 refine wpAny_bind (wpAny_seqItems hol hdl ?_)
 simp only [Int.toNat_natCast, hx]
 refine wpAny_bind (wpAny_setField ho hd (by simp) (wpAny_pure ⟨x, rfl, wpAny_pure (hQ _ ?_ (Heap.SameBut.update ..))⟩))
 exact ⟨_, Heap.get?_update_self _ ho (Obj.isFreed_of_fields (Obj.data_mapFields hd _)), (Obj.cls_mapFields ..).trans hc, by rw [Obj.data_mapFields hd]; simp [rawInt]⟩
theorem b3U {it t : Addr} {i : Nat} {items : Array Value} {Q : Value → Shared → Prop} (hh : A.handled = none) (hit : s.heap.IsTupleIter it t i) (ht : s.heap.IsTuple t items) (hx : items[i]? = none)
  (hE : ∀ h' e, Heap.ExtBut it s.heap h' → (∃ o, h'.get? e = some o ∧ o.cls = .type "StopIteration") → E (.ref e) { s with heap := h' }) : wpAny (model prog w) A (Builtin.SmallTypes.nextOf (.ref it)) Q E s := by
 obtain ⟨o, ho, hc, hd⟩ := id hit
 obtain ⟨ol, hol, _, nl, hdl⟩ := ht
 unfold Builtin.SmallTypes.nextOf
 refine wpAny_bind (wpAny_callSpecial?_slot (name := Str.ofString "__next__") hit.typeIs PySem.F.slot_tuple_iterator_next (wpAny_call_entry PySem.F.slot_tuple_iterator_next hit.typeIs PySem.F.entry_tuple_iterator_next ?_ (PySem.F.args_tuple_iterator_next_1 _)))
 show wpAny _ _ (field (.ref it) 0 >>= _) _ _ s
 refine wpAny_bind (wpAny_field ho hd (x := .ref t) rfl ?_)
 show wpAny _ _ (if (Value.ref t == Value.none) = true then _ else _) _ _ s
 rw [if_neg (show ¬ ((Value.ref t == Value.none) = true) from Bool.false_ne_true)]
 show wpAny _ _ (field (.ref it) 1 >>= _) _ _ s
 refine wpAny_bind (wpAny_field ho hd (x := .int i 0) rfl ?_)
 show wpAny _ _ (seqItems? (.ref t) >>= _) _ _ s
 refine wpAny_bind (wpAny_seqItems hol hdl ?_)
 simp only [Int.toNat_natCast, hx]
 refine wpAny_bind (wpAny_rule (wpAny_bind (wpAny_setField ho hd (by simp) ?_)))
 show wpAny _ _ (newExc (.type "StopIteration") [] >>= _) _ _ _
 refine wpAny_bind ?_
 simp only [newExc, newTuple]
 refine wpAny_bind (wpAny_newObj_type ?_ (by size_fits))
 refine wpAny_bind (m := firstArgMember _ _) (wpAny_of_eq (a := Value.none) (by first | rfl | (simp only [firstArgMember]; rfl)) ?_)
 refine wpAny_newObj_type ?_ (by size_fits)
 simp only [raiseNew]
 refine wpAny_bind (wpAny_handled ?_)
 first | rw [show A.in1.handled = none from hh] | rw [hh]
 refine wpAny_bind (wpAny_pure (wpAny_throw ?_))
 exact hE _ _ (((Heap.SameBut.update ..).extBut.push _).push _) ⟨_, Heap.get?_push_size _ rfl, rfl⟩
theorem Z0 {it l : Addr} {i : Nat} {xs : Array Value} {x : Value} {Q : Value → Shared → Prop} (r : RwIt s.heap it l xs i) (hl : l ≠ it) (hx : xs[i]? = some x)
  (hQ : ∀ h', RwIt h' it l xs (i + 1) → Heap.SameBut it s.heap h' → Q x { s with heap := h' }) : wpAny (model prog w) A (Builtin.SmallTypes.nextOf (.ref it)) Q E s := by
 rcases r with ⟨a, b⟩ | ⟨a, b⟩
 ·exact wpAny_nextOf_list_item a b hx fun h' a' hs => hQ h' (.inl ⟨a', b.extBut hs.extBut hl⟩) hs
 ·exact b3j a b hx fun h' a' hs => hQ h' (.inr ⟨a', b.extBut hs.extBut hl⟩) hs
theorem a1C {it l : Addr} {i : Nat} {xs : Array Value} {Q : Value → Shared → Prop} (hh : A.handled = none) (r : RwIt s.heap it l xs i) (hx : xs[i]? = none)
  (hE : ∀ h' e, Heap.ExtBut it s.heap h' → (∃ o, h'.get? e = some o ∧ o.cls = .type "StopIteration") → E (.ref e) { s with heap := h' }) : wpAny (model prog w) A (Builtin.SmallTypes.nextOf (.ref it)) Q E s := by
 rcases r with ⟨a, b⟩ | ⟨a, b⟩
 ·exact wpAny_nextOf_list_end hh a b hx hE
 ·exact b3U hh a b hx hE
noncomputable abbrev B0 (h : Heap) (z TI TO : Addr) (f0 f1 : Value) : Prop := h.get? z = some { cls := .type "zip", dict := none, data := .fields #[f0, f1, .bool false, .ref TI, .ref TO], slots := #[] }
variable {z TI TO i1 i2 l1 l2 : Addr} {xs ys : Array Value} {k : Nat}
theorem a5a {x y a b : Value} {Q : Value → Shared → Prop} (D : ZipApart z TI TO i1 i2 l1 l2)
  (hz : B0 s.heap z TI TO .none (.bool false)) (hTI : IsPair s.heap TI (.ref i1) (.ref i2)) (hTO : IsPair s.heap TO a b) (h1 : RwIt s.heap i1 l1 xs k) (h2 : RwIt s.heap i2 l2 ys k) (hx : xs[k]? = some x) (hy : ys[k]? = some y)
  (hQ : ∀ h', B0 h' z TI TO (rawInt s.heap.objs.size) (.bool false) → RwIt h' i1 l1 xs (k + 1) → RwIt h' i2 l2 ys (k + 1) → IsPair h' s.heap.objs.size x y →
   (∀ c o, c ≠ z → c ≠ TO → c ≠ i1 → c ≠ i2 → s.heap.get? c = some o → h'.get? c = some o) → IsPair h' TO x y → Q (.ref s.heap.objs.size) { s with heap := h' }) :
  wpAny (model prog w) A (Builtin.«zip.__next__» ⟨[.ref z], []⟩) (fun fin s' => ∃ v, fin = .done (.ret v) ∧ Q v s') E s := by
 show wpAny _ _ (field (.ref z) 2 >>= _) _ _ _
 refine wpAny_bind (wpAny_field hz rfl (x := .bool false) rfl ?_)
 show wpAny _ _ (field (.ref z) 3 >>= _) _ _ _
 refine wpAny_bind (wpAny_field hz rfl (x := .ref TI) rfl ?_)
 refine wpAny_bind (wpAny_seqItems hTI rfl ?_)
 show wpAny _ _ (Builtin.SmallTypes.ownedTupleIsFree (.ref z) >>= _) _ _ _
 refine wpAny_bind ?_
 unfold Builtin.SmallTypes.ownedTupleIsFree
 refine wpAny_bind (wpAny_field hz rfl (x := .none) rfl (wpAny_pure ?_))
 simp only [if_true]
 refine wpAny_bind (wpAny_rule ?_)
 refine wpAny_bind (wpAny_field hz rfl (x := .ref TO) rfl ?_)
 refine wpAny_bind (wpAny_setField_rec hz (by simp) fun g1 z1 k1 => ?_)
 replace z1 : B0 g1 z TI TO .ellipsis (.bool false) := z1
 refine wpAny_bind ?_
 simp only [List.zipIdx_cons, List.zipIdx_nil, List.forIn_cons, List.forIn_nil]
 refine wpAny_bind (wpAny_bind (wpAny_onRaise ?_))
 show wpAny _ _ (Builtin.SmallTypes.nextOf (.ref i1) >>= _) _ _ _
 refine wpAny_bind (Z0 (h1.at (fun o e => k1.extBut _ o D.i1z e) fun o e => k1.extBut _ o D.l1z e) D.l1i1 hx fun g2 r2 k2 => wpAny_pure ?_)
 have o2 : IsPair g2 TO a b := k2.extBut _ _ D.TOi1 (k1.extBut _ _ D.TOz hTO)
 refine wpAny_bind (wpAny_seqItems o2 rfl ?_)
 refine wpAny_bind (wpAny_updateSeq_pair o2 fun g3 o3 k3 => ?_)
 replace o3 : IsPair g3 TO x b := o3
 refine wpAny_bind (wpAny_letGo (wpAny_pure ?_))
 refine wpAny_bind (wpAny_bind (wpAny_onRaise ?_))
 show wpAny _ _ (Builtin.SmallTypes.nextOf (.ref i2) >>= _) _ _ _
 refine wpAny_bind (Z0 (h2.at (fun o e => k3.extBut _ o D.TOi2.symm (k2.extBut _ o D.i12.symm (k1.extBut _ o D.i2z e))) fun o e => k3.extBut _ o D.l2TO (k2.extBut _ o D.l2i1 (k1.extBut _ o D.l2z e))) D.l2i2 hy fun g4 r4 k4 => wpAny_pure ?_)
 have o4 : IsPair g4 TO x b := k4.extBut _ _ D.TOi2 o3
 refine wpAny_bind (wpAny_seqItems o4 rfl ?_)
 refine wpAny_bind (wpAny_updateSeq_pair o4 fun g5 o5 k5 => ?_)
 replace o5 : IsPair g5 TO x y := o5
 refine wpAny_bind (wpAny_letGo (wpAny_pure (wpAny_pure ?_)))
 refine wpAny_bind (wpAny_seqItems o5 rfl ?_)
 refine wpAny_bind (wpAny_newTuple ?_)
 have sz : g5.objs.size = s.heap.objs.size := by rw [k5.1, k4.1, k3.1, k2.1, k1.1]
 have z5 : B0 g5 z TI TO .ellipsis (.bool false) := k5.extBut _ _ D.TOz.symm (k4.extBut _ _ D.i2z.symm (k3.extBut _ _ D.TOz.symm (k2.extBut _ _ D.i1z.symm z1)))
 have q5 : ∀ c o, c ≠ z → c ≠ TO → c ≠ i1 → c ≠ i2 → s.heap.get? c = some o → g5.get? c = some o := fun c o c1 c2 c3 c4 e =>
  k5.extBut _ _ c2 (k4.extBut _ _ c4 (k3.extBut _ _ c2 (k2.extBut _ _ c3 (k1.extBut _ _ c1 e))))
 have p1 : RwIt g5 i1 l1 xs (k + 1) := r2.at (fun o e => k5.extBut _ o D.TOi1.symm (k4.extBut _ o D.i12 (k3.extBut _ o D.TOi1.symm e))) fun o e => k5.extBut _ o D.l1TO (k4.extBut _ o D.l1i2 (k3.extBut _ o D.l1TO e))
 have p2 : RwIt g5 i2 l2 ys (k + 1) := r4.at (fun o e => k5.extBut _ o D.TOi2.symm e) fun o e => k5.extBut _ o D.l2TO e
 have zl : z < g5.objs.size := Heap.lt_size z5
 show wpAny _ _ (Builtin.SmallTypes.ownedTupleHandOut (.ref z) (.ref g5.objs.size) >>= _) _ _ _
 refine wpAny_bind ?_
 unfold Builtin.SmallTypes.ownedTupleHandOut
 have z6 : B0 (g5.push { cls := .type "tuple", data := .seq #[x, y] }) z TI TO .ellipsis (.bool false) := Heap.get?_push_of_some _ z5
 refine wpAny_bind (wpAny_setField_rec z6 (by simp) fun g7 z7 k7 => ?_)
 replace z7 : B0 g7 z TI TO (rawInt g5.objs.size) (.bool false) := z7
 refine wpAny_setField_rec z7 (by simp) fun g8 z8 k8 => ?_
 replace z8 : B0 g8 z TI TO (rawInt g5.objs.size) (.bool false) := z8
 have up : ∀ c o, c ≠ z → g5.get? c = some o → g8.get? c = some o := fun c o c1 e => k8.extBut _ _ c1 (k7.extBut _ _ c1 (Heap.get?_push_of_some _ e))
 have t8 : IsPair g8 g5.objs.size x y := k8.extBut _ _ (Nat.ne_of_gt zl) (k7.extBut _ _ (Nat.ne_of_gt zl) (Heap.get?_push_size _ rfl))
 rw [sz] at z8 t8
 refine wpAny_pure ⟨_, rfl, ?_⟩
 show Q (.ref g5.objs.size) _
 rw [sz]
 exact hQ g8 z8 (p1.at (fun o e => up _ o D.i1z e) fun o e => up _ o D.l1z e) (p2.at (fun o e => up _ o D.i2z e) fun o e => up _ o D.l2z e) t8 (fun c o c1 c2 c3 c4 e => up c o c1 (q5 c o c1 c2 c3 c4 e)) (up _ _ D.TOz o5)
theorem a6g {a b : Value} {Q : Fin → Shared → Prop} (hh : A.handled = none) (D : ZipApart z TI TO i1 i2 l1 l2)
  (hz : B0 s.heap z TI TO .none (.bool false)) (hTI : IsPair s.heap TI (.ref i1) (.ref i2)) (hTO : IsPair s.heap TO a b) (h1 : RwIt s.heap i1 l1 xs k) (h2 : RwIt s.heap i2 l2 ys k) (hend : xs[k]? = none ∨ ys[k]? = none)
  (hE : ∀ h' e, (∀ c o, c ≠ z → c ≠ TO → c ≠ i1 → c ≠ i2 → s.heap.get? c = some o → h'.get? c = some o) → (∃ o, h'.get? e = some o ∧ o.cls = .type "StopIteration") → E (.ref e) { s with heap := h' }) :
  wpAny (model prog w) A (Builtin.«zip.__next__» ⟨[.ref z], []⟩) Q E s := by
 show wpAny _ _ (field (.ref z) 2 >>= _) _ _ _
 refine wpAny_bind (wpAny_field hz rfl (x := .bool false) rfl ?_)
 show wpAny _ _ (field (.ref z) 3 >>= _) _ _ _
 refine wpAny_bind (wpAny_field hz rfl (x := .ref TI) rfl ?_)
 refine wpAny_bind (wpAny_seqItems hTI rfl ?_)
 show wpAny _ _ (Builtin.SmallTypes.ownedTupleIsFree (.ref z) >>= _) _ _ _
 refine wpAny_bind ?_
 unfold Builtin.SmallTypes.ownedTupleIsFree
 refine wpAny_bind (wpAny_field hz rfl (x := .none) rfl (wpAny_pure ?_))
 simp only [if_true]
 refine wpAny_bind (wpAny_rule ?_)
 refine wpAny_bind (wpAny_field hz rfl (x := .ref TO) rfl ?_)
 refine wpAny_bind (wpAny_setField_rec hz (by simp) fun g1 z1 k1 => ?_)
 replace z1 : B0 g1 z TI TO .ellipsis (.bool false) := z1
 refine wpAny_bind ?_
 simp only [List.zipIdx_cons, List.zipIdx_nil, List.forIn_cons, List.forIn_nil]
 refine wpAny_bind (wpAny_bind (wpAny_onRaise ?_))
 show wpAny _ _ (Builtin.SmallTypes.nextOf (.ref i1) >>= _) _ _ _
 cases hx : xs[k]? with
 | none =>
  refine wpAny_bind (a1C hh (h1.at (fun o e => k1.extBut _ o D.i1z e) fun o e => k1.extBut _ o D.l1z e) hx fun g2 e k2 he => ?_)
  obtain ⟨oe, hoe, hce⟩ := he
  have z2 : B0 g2 z TI TO .ellipsis (.bool false) := k2 _ _ D.i1z.symm z1
  have hez : e ≠ z := fun x => by subst x; rw [z2] at hoe; cases hoe; simp at hce
  exact wpAny_setField_rec z2 (by simp) fun g3 _ k3 => hE g3 e (fun c o c1 _ c3 _ x => k3.extBut _ _ c1 (k2 _ _ c3 (k1.extBut _ _ c1 x))) ⟨oe, k3.extBut _ _ hez hoe, hce⟩
 | some x =>
  have hy : ys[k]? = none := by
   rcases hend with h | h
   ·rw [hx] at h; cases h
   ·exact h
  refine wpAny_bind (Z0 (h1.at (fun o e => k1.extBut _ o D.i1z e) fun o e => k1.extBut _ o D.l1z e) D.l1i1 hx fun g2 r2 k2 => wpAny_pure ?_)
  have o2 : IsPair g2 TO a b := k2.extBut _ _ D.TOi1 (k1.extBut _ _ D.TOz hTO)
  refine wpAny_bind (wpAny_seqItems o2 rfl ?_)
  refine wpAny_bind (wpAny_updateSeq_pair o2 fun g3 o3 k3 => ?_)
  refine wpAny_bind (wpAny_letGo (wpAny_pure ?_))
  refine wpAny_bind (wpAny_bind (wpAny_onRaise ?_))
  show wpAny _ _ (Builtin.SmallTypes.nextOf (.ref i2) >>= _) _ _ _
  refine wpAny_bind (a1C hh (h2.at (fun o e => k3.extBut _ o D.TOi2.symm (k2.extBut _ o D.i12.symm (k1.extBut _ o D.i2z e))) fun o e => k3.extBut _ o D.l2TO (k2.extBut _ o D.l2i1 (k1.extBut _ o D.l2z e))) hy fun g4 e k4 he => ?_)
  obtain ⟨oe, hoe, hce⟩ := he
  have z4 : B0 g4 z TI TO .ellipsis (.bool false) := k4 _ _ D.i2z.symm (k3.extBut _ _ D.TOz.symm (k2.extBut _ _ D.i1z.symm z1))
  have hez : e ≠ z := fun x => by subst x; rw [z4] at hoe; cases hoe; simp at hce
  exact wpAny_setField_rec z4 (by simp) fun g5 _ k5 => hE g5 e (fun c o c1 c2 c3 c4 x => k5.extBut _ _ c1 (k4 _ _ c4 (k3.extBut _ _ c2 (k2.extBut _ _ c3 (k1.extBut _ _ c1 x))))) ⟨oe, k5.extBut _ _ hez hoe, hce⟩
end
section
variable {prog : Program} {w : World} {A : Around} {E : Value → Shared → Prop} {s : Shared}
variable {z TI TO i1 i2 l1 l2 : Addr} {xs ys : Array Value} {k : Nat}
theorem a8B {a : Addr} {o : Obj} {Q : Option Obj → Shared → Prop} (ho : s.heap.get? a = some o) (h : Q (some o) s) : wpAny (model prog w) A (loadIfAlive a) Q E s := by
 have h' : Q (s.heap.get? a) s := by rw [ho]; exact h
 exact fun _ _ _ => h'
theorem a4R {T : Addr} {f : Bool} {oT : Obj} {Q : Bool → Shared → Prop} (hz : B0 s.heap z TI TO (rawInt T) (.bool f)) (hT : s.heap.get? T = some oT)
  (hQ : ∀ h', B0 h' z TI TO (rawInt T) (.bool true) → Heap.SameBut z s.heap h' → Q false { s with heap := h' }) : wpAny (model prog w) A (Builtin.SmallTypes.ownedTupleIsFree (.ref z)) Q E s := by
 unfold Builtin.SmallTypes.ownedTupleIsFree
 refine wpAny_bind (wpAny_field hz rfl (x := rawInt T) rfl ?_)
 show wpAny _ _ (loadIfAlive ((T : Int).toNat) >>= _) _ _ _
 rw [Int.toNat_natCast]
 refine wpAny_bind (a8B hT ?_)
 simp only [Option.isNone_some, Bool.false_eq_true, if_false]
 refine wpAny_bind (wpAny_field hz rfl (x := .bool f) rfl ?_)
 cases f with
 | true =>
  rw [if_neg (show ¬ ((Value.bool true != Value.bool true) = true) from Bool.false_ne_true)]
  exact wpAny_pure (hQ s.heap hz (Heap.SameBut.refl _ _))
 | false =>
  rw [if_pos (show (Value.bool false != Value.bool true) = true from rfl)]
  exact wpAny_bind (wpAny_setField_rec hz (by simp) fun g gz gk => wpAny_pure (hQ g gz gk))
theorem a8T {x y : Value} {T : Addr} {f : Bool} {oT : Obj} {Q : Value → Shared → Prop} (D : ZipApart z TI TO i1 i2 l1 l2)
  (hz : B0 s.heap z TI TO (rawInt T) (.bool f)) (hT : s.heap.get? T = some oT) (hTI : IsPair s.heap TI (.ref i1) (.ref i2)) (h1 : RwIt s.heap i1 l1 xs k) (h2 : RwIt s.heap i2 l2 ys k) (hx : xs[k]? = some x) (hy : ys[k]? = some y)
  (hQ : ∀ h', B0 h' z TI TO (rawInt T) (.bool true) → RwIt h' i1 l1 xs (k + 1) → RwIt h' i2 l2 ys (k + 1) → IsPair h' s.heap.objs.size x y →
   (∀ c o, c ≠ z → c ≠ TO → c ≠ i1 → c ≠ i2 → s.heap.get? c = some o → h'.get? c = some o) → Q (.ref s.heap.objs.size) { s with heap := h' }) :
  wpAny (model prog w) A (Builtin.«zip.__next__» ⟨[.ref z], []⟩) (fun fin s' => ∃ v, fin = .done (.ret v) ∧ Q v s') E s := by
 show wpAny _ _ (field (.ref z) 2 >>= _) _ _ _
 refine wpAny_bind (wpAny_field hz rfl (x := .bool false) rfl ?_)
 show wpAny _ _ (field (.ref z) 3 >>= _) _ _ _
 refine wpAny_bind (wpAny_field hz rfl (x := .ref TI) rfl ?_)
 refine wpAny_bind (wpAny_seqItems hTI rfl ?_)
 show wpAny _ _ (Builtin.SmallTypes.ownedTupleIsFree (.ref z) >>= _) _ _ _
 refine wpAny_bind (a4R hz hT fun g1 z1 k1 => ?_)
 simp only [Bool.false_eq_true, if_false]
 simp only [List.forIn_toArray, List.forIn_cons, List.forIn_nil]
 refine wpAny_bind (wpAny_bind (wpAny_bind (wpAny_holding ?_)))
 show wpAny _ _ (Builtin.SmallTypes.nextOf (.ref i1) >>= _) _ _ _
 refine wpAny_bind (Z0 (h1.at (fun o e => k1.extBut _ o D.i1z e) fun o e => k1.extBut _ o D.l1z e) D.l1i1 hx fun g2 r2 k2 => wpAny_pure ?_)
 refine wpAny_pure ?_
 refine wpAny_bind (wpAny_bind (wpAny_holding ?_))
 show wpAny _ _ (Builtin.SmallTypes.nextOf (.ref i2) >>= _) _ _ _
 refine wpAny_bind (Z0 (h2.at (fun o e => k2.extBut _ o D.i12.symm (k1.extBut _ o D.i2z e)) fun o e => k2.extBut _ o D.l2i1 (k1.extBut _ o D.l2z e)) D.l2i2 hy fun g4 r4 k4 => wpAny_pure ?_)
 refine wpAny_pure (wpAny_pure ?_)
 show wpAny _ _ (newTuple [x, y] >>= _) _ _ _
 refine wpAny_bind (wpAny_newTuple (items := [x, y]) ?_ (show 2 ≤ sizeLine by decide))
 have sz : g4.objs.size = s.heap.objs.size := by rw [k4.1, k2.1, k1.1]
 have q4 : ∀ c o, c ≠ z → c ≠ i1 → c ≠ i2 → s.heap.get? c = some o → g4.get? c = some o := fun c o c1 c3 c4 e => k4.extBut _ _ c4 (k2.extBut _ _ c3 (k1.extBut _ _ c1 e))
 refine wpAny_pure ⟨_, rfl, ?_⟩
 show Q (.ref g4.objs.size) _
 rw [sz]
 refine hQ _ (Heap.get?_push_of_some _ (k4.extBut _ _ D.i2z.symm (k2.extBut _ _ D.i1z.symm z1)))
  (r2.at (fun o e => Heap.get?_push_of_some _ (k4.extBut _ o D.i12 e)) fun o e => Heap.get?_push_of_some _ (k4.extBut _ o D.l1i2 e))
  (r4.at (fun o e => Heap.get?_push_of_some _ e) fun o e => Heap.get?_push_of_some _ e) ?_ fun c o c1 c2 c3 c4 e => Heap.get?_push_of_some _ (q4 c o c1 c3 c4 e)
 rw [← sz]
 exact Heap.get?_push_size _ rfl
theorem a9t {T : Addr} {f : Bool} {oT : Obj} {Q : Fin → Shared → Prop} (hh : A.handled = none) (D : ZipApart z TI TO i1 i2 l1 l2)
  (hz : B0 s.heap z TI TO (rawInt T) (.bool f)) (hT : s.heap.get? T = some oT) (hTI : IsPair s.heap TI (.ref i1) (.ref i2)) (h1 : RwIt s.heap i1 l1 xs k) (h2 : RwIt s.heap i2 l2 ys k) (hend : xs[k]? = none ∨ ys[k]? = none)
  (hE : ∀ h' e, (∀ c o, c ≠ z → c ≠ TO → c ≠ i1 → c ≠ i2 → s.heap.get? c = some o → h'.get? c = some o) → (∃ o, h'.get? e = some o ∧ o.cls = .type "StopIteration") → E (.ref e) { s with heap := h' }) :
  wpAny (model prog w) A (Builtin.«zip.__next__» ⟨[.ref z], []⟩) Q E s := by
 show wpAny _ _ (field (.ref z) 2 >>= _) _ _ _
 refine wpAny_bind (wpAny_field hz rfl (x := .bool false) rfl ?_)
 show wpAny _ _ (field (.ref z) 3 >>= _) _ _ _
 refine wpAny_bind (wpAny_field hz rfl (x := .ref TI) rfl ?_)
 refine wpAny_bind (wpAny_seqItems hTI rfl ?_)
 show wpAny _ _ (Builtin.SmallTypes.ownedTupleIsFree (.ref z) >>= _) _ _ _
 refine wpAny_bind (a4R hz hT fun g1 z1 k1 => ?_)
 simp only [Bool.false_eq_true, if_false]
 simp only [List.forIn_toArray, List.forIn_cons, List.forIn_nil]
 refine wpAny_bind (wpAny_bind (wpAny_bind (wpAny_holding ?_)))
 show wpAny _ _ (Builtin.SmallTypes.nextOf (.ref i1) >>= _) _ _ _
 cases hx : xs[k]? with
 | none =>
  refine wpAny_bind (a1C hh (h1.at (fun o e => k1.extBut _ o D.i1z e) fun o e => k1.extBut _ o D.l1z e) hx fun g2 e k2 he => ?_)
  exact hE g2 e (fun c o c1 _ c3 _ x => k2 _ _ c3 (k1.extBut _ _ c1 x)) he
 | some x =>
  have hy : ys[k]? = none := by
   rcases hend with h | h
   ·rw [hx] at h; cases h
   ·exact h
  refine wpAny_bind (Z0 (h1.at (fun o e => k1.extBut _ o D.i1z e) fun o e => k1.extBut _ o D.l1z e) D.l1i1 hx fun g2 r2 k2 => wpAny_pure ?_)
  refine wpAny_pure ?_
  refine wpAny_bind (wpAny_bind (wpAny_holding ?_))
  show wpAny _ _ (Builtin.SmallTypes.nextOf (.ref i2) >>= _) _ _ _
  refine wpAny_bind (a1C hh (h2.at (fun o e => k2.extBut _ o D.i12.symm (k1.extBut _ o D.i2z e)) fun o e => k2.extBut _ o D.l2i1 (k1.extBut _ o D.l2z e)) hy fun g4 e k4 he => ?_)
  exact hE g4 e (fun c o c1 c2 c3 c4 x => k4 _ _ c4 (k2.extBut _ _ c3 (k1.extBut _ _ c1 x))) he
structure ZSt (h : Heap) (z TI TO i1 i2 l1 l2 S : Addr) (xs ys : Array Value) (k : Nat) : Prop where
 ti : IsPair h TI (.ref i1) (.ref i2)
 r1 : RwIt h i1 l1 xs k
 r2 : RwIt h i2 l2 ys k
 zz : (B0 h z TI TO .none (.bool false) ∧ ∃ a b, IsPair h TO a b) ∨ ∃ (T : Addr) (f : Bool) (oT : Obj), B0 h z TI TO (rawInt T) (.bool f) ∧ h.get? T = some oT ∧ T ≠ z ∧ T ≠ TO ∧ T ≠ i1 ∧ T ≠ i2 ∧ T ≠ S
theorem b3Y {S : Addr} {x y : Value} {Q : Option Value → Shared → Prop} (D : ZipApart z TI TO i1 i2 l1 l2) (st : ZSt s.heap z TI TO i1 i2 l1 l2 S xs ys k) (hS : S < s.heap.objs.size) (hTO : TO < s.heap.objs.size) (hx : xs[k]? = some x) (hy : ys[k]? = some y)
  (hQ : ∀ h', ZSt h' z TI TO i1 i2 l1 l2 S xs ys (k + 1) → IsPair h' s.heap.objs.size x y → (∀ c o, c ∉ [z, TO, i1, i2] → s.heap.get? c = some o → h'.get? c = some o) → Q (some (.ref s.heap.objs.size)) { s with heap := h' }) :
  wpAny (model prog w) A (pyNext (.ref z)) Q E s := by
 obtain ⟨ti, r1, r2, zz⟩ := st
 have K : ∀ {h' : Heap}, (∀ c o, c ≠ z → c ≠ TO → c ≠ i1 → c ≠ i2 → s.heap.get? c = some o → h'.get? c = some o) → ∀ c o, c ∉ [z, TO, i1, i2] → s.heap.get? c = some o → h'.get? c = some o := fun k c o hc e => by
  simp only [List.mem_cons, List.not_mem_nil, or_false, not_or] at hc
  exact k c o hc.1 hc.2.1 hc.2.2.1 hc.2.2.2 e
 unfold pyNext
 rcases zz with ⟨hz, a, b, ho⟩ | ⟨T, f, oT, hz, hT, t1, t2, t3, t4, t5⟩
 ·have tz : s.TypeIs (.ref z) "zip" := ⟨_, hz, rfl⟩
  exact wpAny_bind (wpAny_attempt (wpAny_callSpecial?_slot (name := Str.ofString "__next__") tz PySem.F.slot_zip_next (wpAny_call_entry PySem.F.slot_zip_next tz PySem.F.entry_zip_next
   (a5a D hz ti ho r1 r2 hx hy fun h' a1 a2 a3 a4 a5 _ => wpAny_pure (hQ h' ⟨a5 _ _ D.TIz D.TITO D.TIi1 D.TIi2 ti, a2, a3, .inr ⟨_, _, _, a1, a4, Nat.ne_of_gt (Heap.lt_size hz), Nat.ne_of_gt hTO, Nat.ne_of_gt r1.lt, Nat.ne_of_gt r2.lt, Nat.ne_of_gt hS⟩⟩ a4 (K a5))) (PySem.F.args_zip_next_1 _))))
 ·have tz : s.TypeIs (.ref z) "zip" := ⟨_, hz, rfl⟩
  exact wpAny_bind (wpAny_attempt (wpAny_callSpecial?_slot (name := Str.ofString "__next__") tz PySem.F.slot_zip_next (wpAny_call_entry PySem.F.slot_zip_next tz PySem.F.entry_zip_next
   (a8T D hz hT ti r1 r2 hx hy fun h' a1 a2 a3 a4 a5 => wpAny_pure (hQ h' ⟨a5 _ _ D.TIz D.TITO D.TIi1 D.TIi2 ti, a2, a3, .inr ⟨T, true, oT, a1, a5 _ _ t1 t2 t3 t4 hT, t1, t2, t3, t4, t5⟩⟩ a4 (K a5))) (PySem.F.args_zip_next_1 _))))
theorem a9y {S : Addr} {Q : Option Value → Shared → Prop} (hh : A.handled = none) (D : ZipApart z TI TO i1 i2 l1 l2) (st : ZSt s.heap z TI TO i1 i2 l1 l2 S xs ys k) (hend : xs[k]? = none ∨ ys[k]? = none)
  (hQ : ∀ h', (∀ c o, c ∉ [z, TO, i1, i2] → s.heap.get? c = some o → h'.get? c = some o) → Q none { s with heap := h' }) : wpAny (model prog w) A (pyNext (.ref z)) Q E s := by
 obtain ⟨ti, r1, r2, zz⟩ := st
 have K : ∀ {h' : Heap}, (∀ c o, c ≠ z → c ≠ TO → c ≠ i1 → c ≠ i2 → s.heap.get? c = some o → h'.get? c = some o) → ∀ c o, c ∉ [z, TO, i1, i2] → s.heap.get? c = some o → h'.get? c = some o := fun k c o hc e => by
  simp only [List.mem_cons, List.not_mem_nil, or_false, not_or] at hc
  exact k c o hc.1 hc.2.1 hc.2.2.1 hc.2.2.2 e
 unfold pyNext
 rcases zz with ⟨hz, a, b, ho⟩ | ⟨T, f, oT, hz, hT, t1, t2, t3, t4, t5⟩
 ·have tz : s.TypeIs (.ref z) "zip" := ⟨_, hz, rfl⟩
  refine wpAny_bind (wpAny_attempt (wpAny_callSpecial?_slot (name := Str.ofString "__next__") tz PySem.F.slot_zip_next (wpAny_call_entry PySem.F.slot_zip_next tz PySem.F.entry_zip_next (a6g hh D hz ti ho r1 r2 hend fun h' e hk he => ?_) (PySem.F.args_zip_next_1 _))))
  obtain ⟨o, ho, hc⟩ := he
  refine wpAny_bind (wpAny_isInstance (T := "StopIteration") (b := true) ⟨o, ho, hc⟩ isSubtype_stop ?_)
  exact wpAny_pure (hQ _ (K hk))
 ·have tz : s.TypeIs (.ref z) "zip" := ⟨_, hz, rfl⟩
  refine wpAny_bind (wpAny_attempt (wpAny_callSpecial?_slot (name := Str.ofString "__next__") tz PySem.F.slot_zip_next (wpAny_call_entry PySem.F.slot_zip_next tz PySem.F.entry_zip_next (a9t hh D hz hT ti r1 r2 hend fun h' e hk he => ?_) (PySem.F.args_zip_next_1 _))))
  obtain ⟨o, ho, hc⟩ := he
  refine wpAny_bind (wpAny_isInstance (T := "StopIteration") (b := true) ⟨o, ho, hc⟩ isSubtype_stop ?_)
  exact wpAny_pure (hQ _ (K hk))
end
structure LW (prog : Program) (w : World) (A : Around) (I S : Addr) (wr : List Addr) (n : Nat) (P : Nat → Value → Heap → Prop) (St : Nat → Heap → Prop) : Prop where
 item : ∀ (i : Nat) (s : Shared) (Q : Option Value → Shared → Prop) (E : Value → Shared → Prop), i < n → St i s.heap → S < s.heap.objs.size →
  (∀ v h', P i v h' → St (i + 1) h' → (∀ j u, P j u s.heap → u ≠ v) → (∀ b o, b ∉ wr → s.heap.get? b = some o → h'.get? b = some o) → Q (some v) { s with heap := h' }) → wpAny (model prog w) A (pyNext (.ref I)) Q E s
 done : ∀ (s : Shared) (Q : Option Value → Shared → Prop) (E : Value → Shared → Prop), St n s.heap → (∀ h', (∀ b o, b ∉ wr → s.heap.get? b = some o → h'.get? b = some o) → Q none { s with heap := h' }) → wpAny (model prog w) A (pyNext (.ref I)) Q E s
 stay : ∀ i h h', St i h → (∀ b o, b ≠ S → h.get? b = some o → h'.get? b = some o) → St i h'
 pay : ∀ i v h h', P i v h → (∀ b o, b ≠ S → b ∉ wr → h.get? b = some o → h'.get? b = some o) → P i v h'
 self : ∀ (A : Around) (s : Shared) (Q : Value → Shared → Prop) (E : Value → Shared → Prop), St 0 s.heap → Q (.ref I) s → wpAny (model prog w) A (pyIter (.ref I)) Q E s
 out : S ∉ wr
section
variable {prog : Program} {w : World} {A : Around} {I S : Addr} {wr : List Addr} {n : Nat} {P : Nat → Value → Heap → Prop} {St : Nat → Heap → Prop} {s : Shared} {R : Result → Shared → Prop}
noncomputable def Got (P : Nat → Value → Heap → Prop) (h : Heap) (acc : Array Value) (i : Nat) : Prop := acc.size = i ∧ (∀ j v, acc[j]? = some v → P j v h) ∧ acc.toList.Nodup
noncomputable abbrev R8 (h : Heap) (S : Addr) (acc : Array Value) (c : Nat) : Prop := h.get? S = some { cls := .type "list", dict := none, data := .seq acc c, slots := #[] }
theorem b2u (W : LW prog w A.in1 I S wr n P St) (hn : n ≤ sizeLine) (res : Value) {h₁ : Heap}
  (hR : ∀ h' acc c, (∀ b o, b ≠ S → b ∉ wr → h₁.get? b = some o → h'.get? b = some o) → R8 h' S acc c → Got P h' acc n → R (.ok (.ret res)) { s with heap := h' }) :
  ∀ (k i : Nat) (h : Heap) (c : Nat) (acc : Array Value), n - i = k → i ≤ n → St i h → (∀ b o, b ≠ S → b ∉ wr → h₁.get? b = some o → h.get? b = some o) → R8 h S acc c → Got P h acc i →
   codeAny (model prog w) A (.builtin "list.extend.loop" ⟨[.ref S, .ref I, res], []⟩) R { s with heap := h } := by
 intro k
 induction k with
 | zero =>
  intro i h c acc hk hi hst kp hS hG
  have e : i = n := by omega
  subst e
  refine codeAny_builtin PySem.F.entry_extend_loop ?_
  rw [Around.under_plainId PySem.F.plain_extend_loop _]
  show wpAny _ A.in1 (pyNext (.ref I) >>= _) _ _ _
  refine wpAny_bind (W.done { s with heap := h } _ _ hst fun h' he => ?_)
  exact wpAny_pure (hR h' acc c (fun b o h1 h2 e => he b o h2 (kp b o h1 h2 e)) (he S _ W.out hS) ⟨hG.1, fun j v e => W.pay j v h h' (hG.2.1 j v e) fun b o _ h2 e => he b o h2 e, hG.2.2⟩)
 | succ k ih =>
  intro i h c acc hk hi hst kp hS hG
  have hlt : i < n := by omega
  refine codeAny_builtin PySem.F.entry_extend_loop ?_
  rw [Around.under_plainId PySem.F.plain_extend_loop _]
  show wpAny _ A.in1 (pyNext (.ref I) >>= _) _ _ _
  refine wpAny_bind (W.item i { s with heap := h } _ _ hlt hst (Heap.lt_size hS) fun v h' hP hst' hne he => ?_)
  dsimp only at he hne ⊢
  have hS' : R8 h' S acc c := he S _ W.out hS
  have up : ∀ b o, b ≠ S → h'.get? b = some o → (h'.update S (Obj.mapSeq (·.push v))).get? b = some o := fun b o hb e => (Heap.get?_update_other _ _ (Ne.symm hb)).trans e
  show wpAny _ A.in1 (updateSeq S (·.push v) >>= _) _ _ _
  refine wpAny_bind ?_
  have hsz := hG.1
  refine wpAny_updateSeq hS' rfl (wpAny_pure ⟨plainId_quiet PySem.F.plain_extend_loop _, ih (i + 1) _ _ (acc.push v) (by omega) hlt (W.stay _ h' _ hst' up)
   (fun b o h1 h2 e => up b o h1 (he b o h2 (kp b o h1 h2 e))) (Heap.get?_update_self _ hS' rfl) ⟨by rw [Array.size_push, hsz], fun j x hj => ?_, ?_⟩⟩) (by rw [hsz]; omega) (by show (acc.push v).size ≤ sizeLine + 1; rw [Array.size_push, hsz]; omega)
  ·rw [Array.getElem?_push] at hj
   split at hj
   ·rename_i e
    cases hj
    rw [e, hsz]
    exact W.pay i v h' _ hP fun b o h1 _ e => up b o h1 e
   ·exact W.pay j x h _ (hG.2.1 j x hj) fun b o h1 h2 e => up b o h1 (he b o h2 e)
  ·rw [Array.toList_push]
   refine List.nodup_append.mpr ⟨hG.2.2, by simp, fun a ha b hb => ?_⟩
   have e : b = v := by simpa using hb
   subst e
   obtain ⟨j, hj⟩ := List.mem_iff_getElem?.mp ha
   exact hne j a (hG.2.1 j a (by simpa using hj))
theorem b1q {T : String} (W : LW prog w A.in1 I S wr n P St) (hn : n ≤ sizeLine) (hT : s.TypeIs (.ref I) T) (hl : (Value.type T == Value.type "list") = false) (ht : (Value.type T == Value.type "tuple") = false)
  (nl : typeLookup (.type T) "__len__" = pure none) (nh : typeLookup (.type T) "__length_hint__" = pure none) (hst : St 0 s.heap) (hSI : S ≠ I) (res : Value) (c₀ : Nat) (hS : R8 s.heap S #[] c₀)
  (hR : ∀ h' acc c, (∀ b o, b ≠ S → b ∉ wr → s.heap.get? b = some o → h'.get? b = some o) → R8 h' S acc c → Got P h' acc n → R (.ok (.ret res)) { s with heap := h' }) :
  wpAny (model prog w) A.in1 (Builtin.List.listExtendWith (.ref S) (.ref I) res)
   (fun fin s' => match fin with | .done f => R (.ok f) s' | .again c' => c'.quiet = true ∧ codeAny (model prog w) A c' R s') (fun e s' => R (.error e) s') s := by
 have key : ∀ (h : Heap) (c₁ : Nat), (∀ b o, b ≠ S → s.heap.get? b = some o → h.get? b = some o) → R8 h S #[] c₁ →
   codeAny (model prog w) A (.builtin "list.extend.loop" ⟨[.ref S, .ref I, res], []⟩) R { s with heap := h } := fun h c₁ hk hS₁ =>
  b2u (h₁ := s.heap) W hn res hR n 0 h c₁ #[] (Nat.sub_zero _) (Nat.zero_le _) (W.stay 0 _ h hst hk) (fun b o h1 _ e => hk b o h1 e) hS₁ ⟨rfl, fun j v e => by simp at e, by simp⟩
 unfold Builtin.List.listExtendWith
 refine wpAny_bind (wpAny_typeOf hT ?_)
 have h1 : Builtin.List.listSameRef (.ref S) (.ref I) = false := by simp [Builtin.List.listSameRef, hSI]
 simp only [h1, hl, ht, Bool.or_false, Bool.false_eq_true, if_false]
 refine wpAny_bind (W.self _ _ _ _ hst ?_)
 refine wpAny_bind (wpAny_holding ?_)
 unfold Builtin.List.listLengthHint
 refine wpAny_bind (wpAny_specialOf hT nl ?_)
 show wpAny _ A.in1 (specialOf (Value.ref I) (Str.ofString "__length_hint__") >>= _) _ _ _
 refine wpAny_bind (wpAny_specialOf hT nh ?_)
 refine wpAny_pure ?_
 show wpAny _ A.in1 (rule "list.extend.makes-room" >>= fun _ => Builtin.List.listTouch (.ref S) >>= fun _ =>
  again (.builtin "list.extend.loop" ⟨[.ref S, .ref I, res], []⟩)) _ _ _
 refine wpAny_bind (wpAny_rule ?_)
 refine wpAny_bind ?_
 show wpAny _ A.in1 (updateSeq S (·.push .none) >>= fun _ => updateSeq S (·.pop)) _ _ _
 refine wpAny_bind (wpAny_updateSeq hS rfl ?_)
 have hS₂ := Heap.get?_update_self (Obj.mapSeq (·.push Value.none)) hS rfl
 refine wpAny_updateSeq (hz := by seq_fits) hS₂ rfl ?_
 have hS₃ := Heap.get?_update_self (Obj.mapSeq (·.pop)) hS₂ rfl
 refine wpAny_pure ⟨plainId_quiet PySem.F.plain_extend_loop _, key _ _ (fun b o hb e => ?_) hS₃⟩
 exact (Heap.get?_update_other _ _ (Ne.symm hb)).trans ((Heap.get?_update_other _ _ (Ne.symm hb)).trans e)
theorem a9Z {T : String} {E : Value → Shared → Prop} {Q : Value → Shared → Prop} (W : LW prog w A.in1.in1 I s.heap.objs.size wr n P St) (hn : n ≤ sizeLine) (hT : s.TypeIs (.ref I) T) (hl : (Value.type T == Value.type "list") = false) (ht : (Value.type T == Value.type "tuple") = false)
  (nl : typeLookup (.type T) "__len__" = pure none) (nh : typeLookup (.type T) "__length_hint__" = pure none) (hst : St 0 s.heap)
  (hQ : ∀ h' acc c, (∀ b o, b ∉ wr → s.heap.get? b = some o → h'.get? b = some o) → R8 h' s.heap.objs.size acc c → Got P h' acc n → Q (.ref s.heap.objs.size) { s with heap := h' }) :
  wpAny (model prog w) A (call (.type "list") [.ref I]) Q E s := by
 refine callType_codes (Q₁ := fun obj s₁ => obj = .ref s.heap.objs.size ∧ s₁ = { s with heap := s.heap.push { cls := .type "list", data := .seq #[] } }) PySem.F.called_list (PySem.F.typeCall_list_1 _) PySem.F.entry_list_init
  (code_list_new _ ⟨rfl, rfl⟩) fun obj s₁ h₁ => ?_
 obtain ⟨rfl, rfl⟩ := h₁
 have hS : (s.heap.push { cls := .type "list", data := .seq #[] }).get? s.heap.objs.size = some { cls := .type "list", data := .seq #[] } := Heap.get?_push_size _ rfl
 obtain ⟨oI, hoI, hcI⟩ := id hT
 have hI : I < s.heap.objs.size := Heap.lt_size hoI
 refine ⟨⟨_, hS, rfl⟩, PySem.F.args_list_init_2 _ _, ?_⟩
 show wpAny _ _ (do let old ← Builtin.List.listItems (.ref s.heap.objs.size); Builtin.List.listUpdate (.ref s.heap.objs.size) (fun _ => #[]); letGo old.toList.reverse; Builtin.List.listExtendWith (.ref s.heap.objs.size) (.ref I) .none) _ _ _
 refine wpAny_bind ?_
 unfold Builtin.List.listItems
 refine wpAny_bind (wpAny_seqItems hS rfl (wpAny_pure ?_))
 show wpAny _ _ (updateSeq s.heap.objs.size (fun _ => #[]) >>= fun _ => letGo (#[] : Array Value).toList.reverse >>= fun _ => Builtin.List.listExtendWith (.ref s.heap.objs.size) (.ref I) .none) _ _ _
 refine wpAny_bind (wpAny_updateSeq hS rfl ?_)
 have hS₂ := Heap.get?_update_self (Obj.mapSeq (fun _ => (#[] : Array Value))) hS rfl
 have oth : ∀ b o, b ≠ s.heap.objs.size → s.heap.get? b = some o → ((s.heap.push { cls := .type "list", data := .seq #[] }).update s.heap.objs.size (Obj.mapSeq (fun _ => (#[] : Array Value)))).get? b = some o :=
  fun b o hb e => (Heap.get?_update_other _ _ (Ne.symm hb)).trans (Heap.get?_push_of_some _ e)
 refine wpAny_bind (wpAny_letGo ?_)
 refine b1q (A := A.in1) W hn ⟨oI, oth I _ (Nat.ne_of_lt hI) hoI, hcI⟩ hl ht nl nh (W.stay 0 s.heap _ hst oth) (Nat.ne_of_gt hI) .none _ hS₂ fun h' acc c hk hS' hG => ?_
 exact ⟨rfl, hQ h' acc c (fun b o h2 e => hk b o (Nat.ne_of_lt (Heap.lt_size e)) h2 (oth b o (Nat.ne_of_lt (Heap.lt_size e)) e)) hS' hG⟩
end
theorem b07 : typeLookup (.type "zip") "__len__" = pure none := by rw [typeLookup_type, builtinLookup_eq_fast]; kernel_rfl
theorem a8C : typeLookup (.type "zip") "__length_hint__" = pure none := by rw [typeLookup_type, builtinLookup_eq_fast]; kernel_rfl
theorem b0I {prog : Program} {w : World} {A : Around} {z TI TO i1 i2 l1 l2 S : Addr} {xs ys : Array Value} (hh : A.handled = none) (D : ZipApart z TI TO i1 i2 l1 l2) (hTO : TO < S) (hS : S ∉ [z, TI, TO, i1, i2, l1, l2]) (top : ∀ b ∈ [z, TO, i1, i2], b < S) :
  LW prog w A z S [z, TO, i1, i2] (min xs.size ys.size) (fun j v h => ∃ a x y, v = .ref a ∧ S ≤ a ∧ a ≠ S ∧ xs[j]? = some x ∧ ys[j]? = some y ∧ IsPair h a x y) (fun k h => ZSt h z TI TO i1 i2 l1 l2 S xs ys k) where
 item := fun i s Q E hi st hs hQ => by
  have hix : i < xs.size := Nat.lt_of_lt_of_le hi (Nat.min_le_left ..)
  have hiy : i < ys.size := Nat.lt_of_lt_of_le hi (Nat.min_le_right ..)
  exact b3Y D st hs (Nat.lt_trans hTO hs) (Array.getElem?_eq_getElem hix) (Array.getElem?_eq_getElem hiy) fun h' a1 a2 a3 => hQ _ h' ⟨_, _, _, rfl, Nat.le_of_lt hs, Nat.ne_of_gt hs, Array.getElem?_eq_getElem hix, Array.getElem?_eq_getElem hiy, a2⟩ a1 (fun j u ⟨a, x, y, e, _, _, _, _, q⟩ z => by
   rw [e] at z; cases z; exact absurd (Heap.lt_size q) (Nat.lt_irrefl _)) a3
 done := fun s Q E st hQ => by
  have hend : xs[min xs.size ys.size]? = none ∨ ys[min xs.size ys.size]? = none := by
   rcases Nat.le_total xs.size ys.size with h | h
   ·exact .inl (by rw [Nat.min_eq_left h]; exact Array.getElem?_eq_none (Nat.le_refl _))
   ·exact .inr (by rw [Nat.min_eq_right h]; exact Array.getElem?_eq_none (Nat.le_refl _))
  exact a9y hh D st hend hQ
 stay := fun i h h' st k => by
  simp only [List.mem_cons, List.not_mem_nil, or_false, not_or] at hS
  obtain ⟨n1, n2, n3, n4, n5, n6, n7⟩ := hS
  obtain ⟨ti, r1, r2, zz⟩ := st
  refine ⟨k _ _ (Ne.symm n2) ti, r1.at (fun o e => k _ o (Ne.symm n4) e) (fun o e => k _ o (Ne.symm n6) e), r2.at (fun o e => k _ o (Ne.symm n5) e) (fun o e => k _ o (Ne.symm n7) e), ?_⟩
  rcases zz with ⟨hz, a, b, ho⟩ | ⟨T, f, oT, hz, hT, t1, t2, t3, t4, t5⟩
  ·exact .inl ⟨k _ _ (Ne.symm n1) hz, a, b, k _ _ (Ne.symm n3) ho⟩
  ·exact .inr ⟨T, f, oT, k _ _ (Ne.symm n1) hz, k _ _ t5 hT, t1, t2, t3, t4, t5⟩
 pay := fun i v h h' p k => by
  obtain ⟨a, x, y, e, ha, na, hx, hy, q⟩ := p
  refine ⟨a, x, y, e, ha, na, hx, hy, k _ _ na (fun hb => ?_) q⟩
  exact absurd (Nat.lt_of_lt_of_le (top a hb) ha) (Nat.lt_irrefl _)
 self := fun A s Q E st hQ => by
  have tz : s.TypeIs (.ref z) "zip" := by
   rcases st.zz with ⟨hz, _⟩ | ⟨T, f, oT, hz, _⟩ <;> exact ⟨_, hz, rfl⟩
  refine wpAny_pyIter_slot tz PySem.F.slot_zip_iter (wpAny_call_entry PySem.F.slot_zip_iter tz PySem.F.entry_zip_iter ?_ (PySem.F.args_zip_iter_1 _))
  show wpAny _ _ (ret (.ref z)) _ _ s
  exact wpAny_pure ⟨_, rfl, "zip", _, tz, PySem.F.slot_zip_next.lookup, hQ⟩
 out := fun h => hS (by
  simp only [List.mem_cons, List.not_mem_nil, or_false] at h ⊢
  rcases h with h | h | h | h <;> simp [h])
noncomputable def N3 (t : Bool) (l : Addr) : Obj := { cls := .type (if t then "tuple_iterator" else "list_iterator"), data := .fields #[.ref l, .int 0 0] }
noncomputable def RwB (t : Bool) (h : Heap) (l : Addr) (xs : Array Value) : Prop := if t then h.IsTuple l xs else h.IsList l xs
section
variable {prog : Program} {w : World} {A : Around} {E : Value → Shared → Prop} {s : Shared}
theorem a6S {t : Bool} {l : Addr} {xs : Array Value} {Q : Value → Shared → Prop} (h : RwB t s.heap l xs) (hQ : Q (.ref s.heap.objs.size) { s with heap := s.heap.push (N3 t l) }) : wpAny (model prog w) A (pyIter (.ref l)) Q E s := by
 cases t with
 | true => exact wpAny_pyIter_tuple h hQ
 | false => exact wpAny_pyIter_list h hQ
end
noncomputable abbrev zq1 (h : Heap) (t1 : Bool) (l1 : Addr) : Heap := h.push (N3 t1 l1)
noncomputable abbrev zq2 (h : Heap) (t1 t2 : Bool) (l1 l2 : Addr) : Heap := (zq1 h t1 l1).push (N3 t2 l2)
noncomputable abbrev zq3 (h : Heap) (t1 t2 : Bool) (l1 l2 : Addr) : Heap := (zq2 h t1 t2 l1 l2).push { cls := .type "tuple", data := .seq #[.ref h.objs.size, .ref (zq1 h t1 l1).objs.size] }
noncomputable abbrev zq4 (h : Heap) (t1 t2 : Bool) (l1 l2 : Addr) : Heap := (zq3 h t1 t2 l1 l2).push { cls := .type "tuple", data := .seq #[.none, .none] }
noncomputable abbrev zq5 (h : Heap) (t1 t2 : Bool) (l1 l2 : Addr) : Heap := (zq4 h t1 t2 l1 l2).push { cls := .type "zip", data := .fields #[.none, .bool false, .bool false, .ref (zq2 h t1 t2 l1 l2).objs.size, .ref (zq3 h t1 t2 l1 l2).objs.size] }
theorem RwB.push {t : Bool} {h : Heap} {l : Addr} {xs : Array Value} (x : RwB t h l xs) (o : Obj) : RwB t (h.push o) l xs := by
 cases t with
 | true => exact Heap.IsTuple.push x o
 | false => exact Heap.IsList.push x o
theorem a95 (t1 t2 : Bool) (l1 l2 : Addr) (xs ys : Array Value) :
  Meets (Builtin.«zip.__new__» ⟨[.type "zip", .ref l1, .ref l2], []⟩) (fun _ R s => RwB t1 s.heap l1 xs ∧ RwB t2 s.heap l2 ys ∧
   R (.ok (.ret (.ref (zq4 s.heap t1 t2 l1 l2).objs.size))) { s with heap := zq5 s.heap t1 t2 l1 l2 }) :=
 .of_wp fun prog w A R s h => by
  obtain ⟨hp, g, d, tk, os⟩ := s; obtain ⟨hl1, hl2, h⟩ := h
  have hsub := sub_zip
  have hL1 : RwB t1 (Shared.heap ⟨hp, g, d, tk, os⟩) l1 xs := hl1
  have hL2 : RwB t2 (Shared.heap ⟨hp.push (N3 t1 l1), g, d, tk, os⟩) l2 ys := RwB.push hl2 _
  wp_walk using a6S hL1, a6S hL2
  exact ⟨_, rfl, h⟩
section
variable {prog : Program} {w : World} {A : Around} {E : Value → Shared → Prop} {s : Shared}
theorem RwB.it {t : Bool} {h : Heap} {i l : Addr} {xs : Array Value} (x : RwB t h l xs) (e : h.get? i = some (N3 t l)) : RwIt h i l xs 0 := by
 cases t with
 | true => exact .inr ⟨⟨_, e, rfl, rfl⟩, x⟩
 | false => exact .inl ⟨⟨_, e, rfl, rfl⟩, x⟩
theorem RwB.at {t : Bool} {h h' : Heap} {l : Addr} {xs : Array Value} (x : RwB t h l xs) (e : ∀ o, h.get? l = some o → h'.get? l = some o) : RwB t h' l xs := by
 cases t with
 | true => obtain ⟨o, q, r⟩ := x; exact ⟨o, e o q, r⟩
 | false => obtain ⟨o, q, r⟩ := x; exact ⟨o, e o q, r⟩
theorem RwB.lt {t : Bool} {h : Heap} {l : Addr} {xs : Array Value} (x : RwB t h l xs) : l < h.objs.size := by
 cases t with
 | true => obtain ⟨o, q, r⟩ := x; exact Heap.lt_size q
 | false => obtain ⟨o, q, r⟩ := x; exact Heap.lt_size q
noncomputable def a6x (h : Heap) (m : Nat) (xs ys : Array Value) : Prop := ∃ l1 l2, ZipApart (m + 4) (m + 2) (m + 3) m (m + 1) l1 l2 ∧ l1 < m ∧ l2 < m ∧ h.objs.size = m + 5 ∧ ∀ S, m + 5 ≤ S → ZSt h (m + 4) (m + 2) (m + 3) m (m + 1) l1 l2 S xs ys 0
noncomputable def b2t (h : Heap) (m : Nat) (t1 t2 : Bool) (l1 l2 : Addr) : Prop := ZipApart (m + 4) (m + 2) (m + 3) m (m + 1) l1 l2 ∧ h.get? m = some (N3 t1 l1) ∧ h.get? (m + 1) = some (N3 t2 l2) ∧ IsPair h (m + 2) (.ref m) (.ref (m + 1)) ∧ B0 h (m + 4) (m + 2) (m + 3) .none (.bool false) ∧ ∃ a b, IsPair h (m + 3) a b
theorem a5A {t1 t2 : Bool} {l1 l2 : Addr} {xs ys : Array Value} {Q : Value → Shared → Prop} (h1 : RwB t1 s.heap l1 xs) (h2 : RwB t2 s.heap l2 ys)
  (h : ∀ h', a6x h' s.heap.objs.size xs ys → (∀ c o, s.heap.get? c = some o → h'.get? c = some o) → b2t h' s.heap.objs.size t1 t2 l1 l2 → Q (.ref (s.heap.objs.size + 4)) { s with heap := h' }) :
  wpAny (model prog w) A (call (.type "zip") [.ref l1, .ref l2]) Q E s := by
 refine callType_new PySem.F.called_zip (by decide) (PySem.F.typeCall_zip_2 _ _) (PySem.F.newCall_zip_2 _ _) (fun obj => PySem.F.args_object_init_3 obj _ _) PySem.F.entry_zip_new
  (a95 t1 t2 l1 l2 xs ys) ⟨h1, h2, ?_⟩
 have z1 : (zq1 s.heap t1 l1).objs.size = s.heap.objs.size + 1 := Heap.size_push ..
 have z2 : (zq2 s.heap t1 t2 l1 l2).objs.size = s.heap.objs.size + 2 := by rw [Heap.size_push, z1]
 have z3 : (zq3 s.heap t1 t2 l1 l2).objs.size = s.heap.objs.size + 3 := by rw [Heap.size_push, z2]
 have z4 : (zq4 s.heap t1 t2 l1 l2).objs.size = s.heap.objs.size + 4 := by rw [Heap.size_push, z3]
 have z5 : (zq5 s.heap t1 t2 l1 l2).objs.size = s.heap.objs.size + 5 := by rw [Heap.size_push, z4]
 have fr : ∀ t l, (N3 t l).isFreed = false := fun t l => rfl
 have g5 : (zq5 s.heap t1 t2 l1 l2).get? (zq4 s.heap t1 t2 l1 l2).objs.size = some _ := Heap.get?_push_size _ rfl
 have g4 : (zq5 s.heap t1 t2 l1 l2).get? (zq3 s.heap t1 t2 l1 l2).objs.size = some _ := Heap.get?_push_of_some _ (Heap.get?_push_size _ rfl)
 have g3 : (zq5 s.heap t1 t2 l1 l2).get? (zq2 s.heap t1 t2 l1 l2).objs.size = some _ := Heap.get?_push_of_some _ (Heap.get?_push_of_some _ (Heap.get?_push_size _ rfl))
 have g2 : (zq5 s.heap t1 t2 l1 l2).get? (zq1 s.heap t1 l1).objs.size = some (N3 t2 l2) := Heap.get?_push_of_some _ (Heap.get?_push_of_some _ (Heap.get?_push_of_some _ (Heap.get?_push_size _ (fr _ _))))
 have g1 : (zq5 s.heap t1 t2 l1 l2).get? s.heap.objs.size = some (N3 t1 l1) := Heap.get?_push_of_some _ (Heap.get?_push_of_some _ (Heap.get?_push_of_some _ (Heap.get?_push_of_some _ (Heap.get?_push_size _ (fr _ _)))))
 show _ ∧ _
 rw [z2, z3, z4] at g5
 rw [z1, z2] at g3
 rw [z3] at g4
 rw [z1] at g2
 rw [z4]
 have up : ∀ c o, s.heap.get? c = some o → (zq5 s.heap t1 t2 l1 l2).get? c = some o := fun c o x =>
  Heap.get?_push_of_some _ (Heap.get?_push_of_some _ (Heap.get?_push_of_some _ (Heap.get?_push_of_some _ (Heap.get?_push_of_some _ x))))
 refine ⟨⟨_, g5, rfl⟩, h _ ⟨l1, l2, PyProof.Rows.zipApart_new h1.lt h2.lt, h1.lt, h2.lt, z5, fun S hS => ⟨g3, (h1.at fun o e => up _ o e).it g1, (h2.at fun o e => up _ o e).it g2, .inl ⟨g5, _, _, g4⟩⟩⟩ up ⟨PyProof.Rows.zipApart_new h1.lt h2.lt, g1, g2, g3, g5, _, _, g4⟩⟩
structure LZ (h h' : Heap) (S : Addr) (xs ys : Array Value) (as : List Addr) (c : Nat) : Prop where
 keep : ∀ b o, h.get? b = some o → h'.get? b = some o
 low : h.objs.size ≤ S
 lst : R8 h' S (as.map Value.ref).toArray c
 len : as.length = min xs.size ys.size
 new : ∀ a ∈ as, h.objs.size ≤ a ∧ a ≠ S
 nd : as.Nodup
 at' : ∀ (j : Nat) a, as[j]? = some a → ∃ x y, xs[j]? = some x ∧ ys[j]? = some y ∧ IsPair h' a x y
theorem b3M {P : Nat → Value → Heap → Prop} {h : Heap} {acc : Array Value} {n : Nat} (g : Got P h acc n) (hp : ∀ j v, P j v h → ∃ a, v = .ref a) : ∃ as : List Addr, acc = (as.map Value.ref).toArray := by
 have : ∀ l : List Value, (∀ v ∈ l, ∃ a, v = Value.ref a) → ∃ as : List Addr, l = as.map Value.ref := by
  intro l
  induction l with
  | nil => exact fun _ => ⟨[], rfl⟩
  | cons v r ih =>
   intro hv
   obtain ⟨a, e⟩ := hv v (.head _)
   obtain ⟨as, e'⟩ := ih fun u hu => hv u (.tail _ hu)
   exact ⟨a :: as, by rw [e, e']; rfl⟩
 obtain ⟨as, e⟩ := this acc.toList fun v hv => by
  obtain ⟨j, hj⟩ := List.mem_iff_getElem?.mp hv
  exact hp j v (g.2.1 j v (by simpa using hj))
 exact ⟨as, by rw [← e, Array.toArray_toList]⟩
theorem b1k {m : Nat} {h₀ : Heap} {xs ys : Array Value} {Q : Value → Shared → Prop} (hh : A.handled = none) (Z : a6x s.heap m xs ys) (k₀ : ∀ c o, h₀.get? c = some o → s.heap.get? c = some o) (hm : h₀.objs.size = m) (hn : xs.size ≤ sizeLine)
  (hQ : ∀ S h' as c, LZ h₀ h' S xs ys as c → Q (.ref S) { s with heap := h' }) : wpAny (model prog w) A (call (.type "list") [.ref (m + 4)]) Q E s := by
 obtain ⟨l1, l2, D, b1, b2, sz, st⟩ := Z
 have st0 := st s.heap.objs.size (by omega)
 have tz : s.TypeIs (.ref (m + 4)) "zip" := by
  rcases st0.zz with ⟨hz, _⟩ | ⟨T, f, oT, hz, _⟩ <;> exact ⟨_, hz, rfl⟩
 refine a9Z (T := "zip") (b0I (A := A.in1.in1) hh D (show (m + 3 : Nat) < s.heap.objs.size by omega) (by
  simp only [List.mem_cons, List.not_mem_nil, or_false, not_or]
  have ms : m ≤ s.heap.objs.size := by omega
  exact ⟨show (s.heap.objs.size : Nat) ≠ m + 4 by omega, show (s.heap.objs.size : Nat) ≠ m + 2 by omega, show (s.heap.objs.size : Nat) ≠ m + 3 by omega, show (s.heap.objs.size : Nat) ≠ m by omega, show (s.heap.objs.size : Nat) ≠ m + 1 by omega,
   Nat.ne_of_gt (Nat.lt_of_lt_of_le b1 ms), Nat.ne_of_gt (Nat.lt_of_lt_of_le b2 ms)⟩) (by
  simp only [List.mem_cons, List.not_mem_nil, or_false]
  intro b hb
  have ml : ∀ j, j ≤ 4 → m + j < s.heap.objs.size := fun j _ => by omega
  rcases hb with e | e | e | e
  ·rw [e]; exact ml 4 (by omega)
  ·rw [e]; exact ml 3 (by omega)
  ·rw [e]; exact ml 0 (by omega)
  ·rw [e]; exact ml 1 (by omega))) (Nat.le_trans (Nat.min_le_left ..) hn) tz (by decide) (by decide) b07 a8C st0 fun h' acc c k l g => ?_
 obtain ⟨as, ea⟩ := b3M g fun j v ⟨a, _, _, e, _⟩ => ⟨a, e⟩
 subst ea
 refine hQ _ h' as c ⟨fun b o e => k b o (fun hb => ?_) (k₀ b o e), by omega, l, by simpa using g.1, fun a ha => ?_, ?_, fun j a e => ?_⟩
 ·have hl : b < m := hm ▸ Heap.lt_size e
  simp only [List.mem_cons, List.not_mem_nil, or_false] at hb
  have up : ∀ j : Nat, ¬ (m + j < m) := fun j => by omega
  rcases hb with e | e | e | e
  ·exact up 4 (e ▸ hl)
  ·exact up 3 (e ▸ hl)
  ·exact up 0 (e ▸ hl)
  ·exact up 1 (e ▸ hl)
 ·obtain ⟨j, hj⟩ := List.mem_iff_getElem?.mp ha
  obtain ⟨a', x, y, e, q1, q2, _⟩ := g.2.1 j (.ref a) (by simp [hj])
  cases e
  exact ⟨Nat.le_trans (show (h₀.objs.size : Nat) ≤ s.heap.objs.size by omega) q1, q2⟩
 ·have nd := g.2.2
  simp only [List.toList_toArray] at nd
  exact (List.pairwise_map.mp nd).imp fun h e => h (by rw [e])
 ·obtain ⟨a', x, y, e', q1, q2, q3, q4, q5⟩ := g.2.1 j (.ref a) (by simp [e])
  cases e'
  exact ⟨x, y, q3, q4, q5⟩
end
noncomputable def G2 (H : Hp) : List (Addr × List V) → Hp
 | [] => H
 | (a, p) :: r => upd (G2 H r) a (.tup p)
section
variable {H : Hp}
theorem a0n : ∀ {ps : List (Addr × List V)} {b : Addr}, (∀ q ∈ ps, q.1 ≠ b) → G2 H ps b = H b
 | [], b, h => rfl
 | (a, p) :: r, b, h => by
  show upd (G2 H r) a (.tup p) b = H b
  rw [p8 (Ne.symm (h _ (.head _)))]
  exact a0n fun q hq => h q (.tail _ hq)
theorem a7B : ∀ {ps : List (Addr × List V)} {b : Addr} {u : HO}, G2 H ps b = some u → (∃ p, (b, p) ∈ ps ∧ u = .tup p) ∨ H b = some u
 | [], b, u, h => .inr h
 | (a, p) :: r, b, u, h => by
  replace h : upd (G2 H r) a (.tup p) b = some u := h
  by_cases hb : b = a
  ·subst hb; rw [A9] at h; cases h; exact .inl ⟨p, .head _, rfl⟩
  ·rw [p8 hb] at h
   rcases a7B h with ⟨p', q, e⟩ | e
   ·exact .inl ⟨p', .tail _ q, e⟩
   ·exact .inr e
theorem a6u : ∀ {ps : List (Addr × List V)} {b : Addr} {p : List V}, (ps.map (·.1)).Nodup → (b, p) ∈ ps → G2 H ps b = some (.tup p)
 | (a, p') :: r, b, p, nd, h => by
  show upd (G2 H r) a (.tup p') b = _
  rcases List.mem_cons.mp h with e | h
  ·cases e; exact A9
  ·have nd' := List.nodup_cons.mp nd
   have hb : b ≠ a := fun e => nd'.1 (e ▸ List.mem_map.mpr ⟨(b, p), h, rfl⟩)
   rw [p8 hb]
   exact a6u nd'.2 h
end
theorem a84 {fs ex : List Addr} {H H' : Hp} {h h' : Heap} (k : ∀ b u, h.get? b = some u → h'.get? b = some u) (hn : ∀ b, b < h.objs.size → H' b = H b) (hs : ∀ b u, H b = some u → H' b = some u) : Un fs ex H H' h h' where
 keep := fun b u q _ _ _ => k b u q
 slot := fun b u q _ _ _ => ⟨u.slots, k b u q⟩
 free := fun b u q n _ => by rw [hn b (Heap.lt_size q)]; exact n
 there := fun b u q _ => ⟨u, k b u q⟩
 tups := fun b xs q => hs b _ q
 frzs := fun b u xs q => hs b _ q
 tbls := fun b ps q => ⟨#[], by rw [hs b _ q]; simp⟩
noncomputable def prs (xs ys : List V) : List (List V) := List.zipWith (fun x y => [x, y]) xs ys
theorem a9L {xs ys : List V} {j : Nat} {p : List V} (e : (prs xs ys)[j]? = some p) : ∃ x y, xs[j]? = some x ∧ ys[j]? = some y ∧ p = [x, y] := by
 unfold prs at e
 rw [List.getElem?_zipWith] at e
 cases hx : xs[j]? with
 | none => rw [hx] at e; simp at e
 | some x =>
  cases hy : ys[j]? with
  | none => rw [hx, hy] at e; simp at e
  | some y => rw [hx, hy] at e; simp at e; exact ⟨x, y, rfl, rfl, e.symm⟩
noncomputable def Sq (K : PySem.W.Frag) (H : Hp) (a : Addr) (xs : List V) : Prop := SqL K H a xs ∨ SqT K H a xs
noncomputable def rLZ (K : PySem.W.Frag) : List V → Hp → VK → Prop := fun vs H Q => ∃ p q xs ys, vs = [.ref p, .ref q] ∧ Sq K H p xs ∧ Sq K H q ys ∧
 ∀ S as, (S :: as).Nodup → (∀ a ∈ S :: as, H a = none) → as.length = (prs xs ys).length → Q (.ref S) (upd (G2 H (as.zip (prs xs ys))) S (.lst (as.map V.ref)))
section
variable {X : Cx} {pins : List (Addr × Obj)} {σ : St} {H : Hp} {s : Shared}
theorem a5y (I : Inv X pins σ H s) {p : Addr} {xs : List V} (h : Sq X.K H p xs) : ∃ (t : Bool) (its : List Value), Vals xs its ∧ RwB t s.heap p its.toArray ∧ xs.length ≤ sizeLine := by
 rcases h with h | h
 ·obtain ⟨its, r, ⟨o, n, e, c, _, d⟩, z⟩ := I.list h
  exact ⟨false, its, r, ⟨o, e, c, n, d⟩, z⟩
 ·obtain ⟨its, r, ⟨o, e, c, n, d⟩, z⟩ := I.tuple h
  exact ⟨true, its, r, ⟨o, e, c, n, d⟩, z⟩
theorem a41 {as : List Addr} {ps : List (List V)} (h : as.length = ps.length) : (as.zip ps).map (·.1) = as := by
 rw [List.map_fst_zip (by omega)]
theorem Inv.lz {xs ys : List V} {it jt : List Value} {S : Addr} {h' : Heap} {as : List Addr} {c : Nat} (I : Inv X pins σ H s) (rx : Vals xs it) (ry : Vals ys jt) (zx : xs.length ≤ sizeLine) (Z : LZ s.heap h' S it.toArray jt.toArray as c) :
  (S :: as).Nodup ∧ (∀ a ∈ S :: as, H a = none) ∧ as.length = (prs xs ys).length ∧ Inv X pins σ (upd (G2 H (as.zip (prs xs ys))) S (.lst (as.map V.ref))) { s with heap := h' } := by
 have hl : as.length = (prs xs ys).length := by
  have e := Z.len
  simp only [List.size_toArray] at e
  rw [e, prs, List.length_zipWith, rx.length, ry.length]
 have fr : ∀ a ∈ S :: as, s.heap.objs.size ≤ a := fun a ha => by
  rcases List.mem_cons.mp ha with e | e
  ·rw [e]; exact Z.low
  ·exact (Z.new a e).1
 have nn : ∀ a ∈ S :: as, H a = none := fun a ha => I.hok.fresh (fr a ha)
 have nd : (S :: as).Nodup := List.nodup_cons.mpr ⟨fun h => (Z.new S h).2 rfl, Z.nd⟩
 have ky := a41 hl
 have ndz : ((as.zip (prs xs ys)).map (·.1)).Nodup := by rw [ky]; exact Z.nd
 have kin : ∀ q ∈ as.zip (prs xs ys), q.1 ∈ as := fun q hq => (List.of_mem_zip hq).1
 refine ⟨nd, nn, hl, ?_⟩
 have hs : ∀ b u, H b = some u → upd (G2 H (as.zip (prs xs ys))) S (.lst (as.map V.ref)) b = some u := fun b u e => by
  have n : ∀ a ∈ S :: as, a ≠ b := fun a ha z => by rw [z] at ha; rw [nn b ha] at e; cases e
  rw [p8 (Ne.symm (n S (.head _))), a0n fun q hq => n _ (.tail _ (kin q hq))]
  exact e
 refine I.un (t' := s.toks) (a84 Z.keep (fun b hb => ?_) hs) fun b u e => ?_
 ·have n : ∀ a ∈ S :: as, a ≠ b := fun a ha z => absurd (Nat.lt_of_lt_of_le hb (z ▸ fr a ha)) (Nat.lt_irrefl _)
  rw [p8 (Ne.symm (n S (.head _))), a0n fun q hq => n _ (.tail _ (kin q hq))]
 ·by_cases hb : b = S
  ·subst hb
   rw [A9] at e; cases e
   refine ⟨?_, as.map Value.ref, c, ?_, Z.lst⟩
   ·rw [List.length_map, hl, prs, List.length_zipWith]
    exact Nat.le_trans (Nat.min_le_left ..) zx
   ·have : ∀ l : List Addr, Vals (l.map V.ref) (l.map Value.ref) := fun l => by
     induction l with
     | nil => exact .nil
     | cons a r ih => exact .cons rfl ih
    exact this as
  ·rw [p8 hb] at e
   rcases a7B e with ⟨p, hp, rfl⟩ | e0
   ·obtain ⟨j, hj⟩ := List.mem_iff_getElem?.mp hp
    obtain ⟨ha, hpj⟩ := List.getElem?_zip_eq_some.mp hj
    obtain ⟨x, y, ex, ey, rfl⟩ := a9L hpj
    obtain ⟨x', y', ex', ey', q⟩ := Z.at' j b ha
    obtain ⟨u1, f1, g1⟩ := rx.get ex
    obtain ⟨u2, f2, g2⟩ := ry.get ey
    have e1 : u1 = x' := by simpa [f1] using ex'
    have e2 : u2 = y' := by simpa [f2] using ey'
    subst e1; subst e2
    exact ⟨show 2 ≤ sizeLine by decide, [u1, u2], .cons g1 (.cons g2 .nil), ⟨_, q, rfl, _, rfl⟩⟩
   ·exact (I.hok b u e0).stay (fun c v _ q => Z.keep c v q) (fun c q => hs c _ q) fun c xs q => hs c _ q
end
section
variable {X : Cx} {p p' pos pos' : Pos} {e : Expr} {es : List Expr} {t : TA}
theorem b1w (hc : X.calm = true) (hgl : Gl X "list") (hml : X.mg "list" = none) (hgz : Gl X "zip") (hmz : X.mg "zip" = none) (ha : PA X (e :: es) t)
  (he : starEach (e :: es) X.env = (false, eval e X.env) :: starEach es X.env := by rfl) (hpl : (backTo pos' (starEach es X.env)).any (·.1) = false := by rfl)
  (he2 : starEach [.Call (.Name "zip" p') (e :: es) [] pos'] X.env = [(false, eval (.Call (.Name "zip" p') (e :: es) [] pos') X.env)] := by rfl) :
  PE X (.Call (.Name "list" p) [.Call (.Name "zip" p') (e :: es) [] pos'] [] pos) (tCB (rLZ X.K) t) := by
 intro pins s σ H Q I h
 refine wpAny_Call_Name_kw (X8 I hgl hml (show bootBuiltins ("list" : Str) = some (.type "list") by decide +kernel) ?_ (by decide) (by decide))
 refine PyProof.Rows.callWith_type1 ?_ he2 rfl
 rw [he2]
 show wpAny _ _ (spliced [(false, eval (.Call (.Name "zip" p') (e :: es) [] pos') X.env)]) _ _ s
 refine Calls.spliced_cons ?_
 refine wpAny_Call_Name_kw (X8 I hgz hmz (show bootBuiltins ("zip" : Str) = some (.type "zip") by decide +kernel) ?_ (by decide) (by decide))
 refine PyProof.Rows.callWith_type1 (thn (ha pos' pins s σ H _ I h) fun us s1 ⟨vs, H1, I1, r1, q1⟩ => ?_) he hpl
 obtain ⟨a, b, xs, ys, rfl, qa, qb, k⟩ := q1
 obtain ⟨u1, u2, rfl, e1, e2⟩ : ∃ u1 u2, us = [u1, u2] ∧ u1 = Value.ref a ∧ u2 = Value.ref b := by
  cases r1 with
  | cons h1 r1 =>
   cases r1 with
   | cons h2 r1 => cases r1; exact ⟨_, _, rfl, h1, h2⟩
 subst e1; subst e2
 obtain ⟨ta, it, rx, wa, za⟩ := a5y I1 qa
 obtain ⟨tb, jt, ry, wb, zb⟩ := a5y I1 qb
 refine a5A wa wb fun h1 Z1 k1 _ => ?_
 refine Calls.spliced_nil ?_
 refine b1k (h₀ := s1.heap) (I.ok.hd hc) Z1 k1 rfl (by simpa [← rx.length] using za) fun S h2 as c Z => ?_
 obtain ⟨nd, nn, hl, I2⟩ := Inv.lz I1 rx ry za Z
 exact ⟨.ref S, _, I2, rfl, k S as nd nn hl⟩
end
noncomputable def J8 : D → Option (List D)
 | .tup ds => some ds
 | .lst ds => some ds
 | _ => none
noncomputable def F3 (x y : D) : D := .tup [x, y]
noncomputable def Y5 : List D → Option (List D)
 | [a, b] => (J8 a).bind fun xs => (J8 b).map fun ys => List.zipWith F3 xs ys
 | _ => none
theorem a6o {g : Gh} {K : PySem.W.Frag} {σ : L2.St} {H : Hp} {fa : Option Addr} {O : List Addr} {s : DS} (I : GI K g σ H fa O s) : ∀ (ps : List (Addr × List V)), (ps.map (·.1)).Nodup → (∀ q ∈ ps, H q.1 = none) → GI K g σ (G2 H ps) fa O s ∧ StE fa O H fa O (G2 H ps)
 | [], _, _ => ⟨I, StE.refl⟩
 | (a, p) :: r, nd, h => by
  have nd' := List.nodup_cons.mp nd
  obtain ⟨I1, s1⟩ := a6o I r nd'.2 fun q hq => h q (.tail _ hq)
  have hn : G2 H r a = none := by
   rw [a0n fun q hq z => nd'.1 (List.mem_map.mpr ⟨q, hq, z⟩)]
   exact h _ (.head _)
  exact ⟨I1.new hn, s1.trans (D6 hn)⟩
theorem a6d {K : PySem.W.Frag} {N : Addr → Prop} {fa : Option Addr} {H : Hp} : ∀ {ds es : List D} {xs ys : List V} {as : List Addr}, Reps K N fa H ds xs → Reps K N fa H es ys → as.length = (prs xs ys).length → (∀ q ∈ as.zip (prs xs ys), H q.1 = some (.tup q.2)) →
  Reps K N fa H (List.zipWith F3 ds es) (as.map V.ref)
 | [], es, xs, ys, as, h, q, l, k => by
  simp only [Reps] at h; subst h
  simp only [prs, List.zipWith_nil_left, List.length_nil] at l
  rw [List.eq_nil_of_length_eq_zero l]
  simp only [List.zipWith_nil_left, List.map_nil, Reps]
 | d :: r, [], xs, ys, as, h, q, l, k => by
  simp only [Reps] at q; subst q
  simp only [prs, List.zipWith_nil_right, List.length_nil] at l
  rw [List.eq_nil_of_length_eq_zero l]
  simp only [List.zipWith_nil_right, List.map_nil, Reps]
 | d :: r, e :: f, xs, ys, as, h, q, l, k => by
  simp only [Reps] at h q
  obtain ⟨x, xs', rfl, h1, h2⟩ := h
  obtain ⟨y, ys', rfl, q1, q2⟩ := q
  cases as with
  | nil => simp [prs] at l
  | cons a as =>
   have hz : (a :: as).zip (prs (x :: xs') (y :: ys')) = (a, [x, y]) :: as.zip (prs xs' ys') := rfl
   rw [hz] at k
   simp only [List.zipWith_cons_cons, List.map_cons, Reps]
   refine ⟨_, _, rfl, ?_, a6d h2 q2 (by simpa [prs] using l) fun q hq => k q (.tail _ hq)⟩
   simp only [F3, Rep, Reps]
   exact ⟨a, [x, y], rfl, SqT.of (k _ (.head _)), x, [y], rfl, h1, y, [], rfl, q1, rfl⟩
theorem a5d {K : PySem.W.Frag} {N : Addr → Prop} {fa : Option Addr} {H : Hp} {d : D} {v : V} {ds : List D} (r : RepB K N fa H d v) (e : J8 d = some ds) : ∃ a xs, v = .ref a ∧ Sq K H a xs ∧ Reps K N fa H ds xs := by
 cases d with
 | tup es =>
  cases e
  simp only [RepB, Rep] at r
  obtain ⟨a, ys, rfl, q, w⟩ := r
  exact ⟨a, ys, rfl, .inr q, w⟩
 | lst es =>
  cases e
  obtain ⟨a, ys, rfl, _, q, w⟩ := r
  exact ⟨a, ys, rfl, .inl (SqL.of q), w⟩
 | _ => cases e
theorem b2n {K : PySem.W.Frag} : RCF K (rLZ K) Y5 := by
 intro g σ H fa O s xs ds es Q I rs e k
 match ds, e with
 | [d1, d2], e =>
  obtain ⟨xs1, e1, e⟩ := Option.bind_eq_some_iff.mp (show (J8 d1).bind (fun xs => (J8 d2).map fun ys => List.zipWith F3 xs ys) = some es from e)
  obtain ⟨ys1, e2, e⟩ := Option.map_eq_some_iff.mp e
  subst e
  simp only [R0] at rs
  obtain ⟨x, zs, rfl, r1, y, zs', rfl, r2, rfl⟩ := rs
  obtain ⟨a, vs, rfl, q1, w1⟩ := a5d r1 e1
  obtain ⟨b, us, rfl, q2, w2⟩ := a5d r2 e2
  refine ⟨a, b, vs, us, rfl, q1, q2, fun S as nd nn hl => ?_⟩
  have nd' := List.nodup_cons.mp nd
  have ky := a41 hl
  have kin : ∀ q ∈ as.zip (prs vs us), q.1 ∈ as := fun q hq => (List.of_mem_zip hq).1
  have ndz : ((as.zip (prs vs us)).map (·.1)).Nodup := by rw [ky]; exact nd'.2
  obtain ⟨I1, s1⟩ := a6o I (as.zip (prs vs us)) ndz fun q hq => nn _ (.tail _ (kin q hq))
  have hS : G2 H (as.zip (prs vs us)) S = none := by
   rw [a0n fun q hq (z : q.1 = S) => nd'.1 (by rw [← z]; exact kin q hq)]
   exact nn S (.head _)
  have rp := a6d (Reps.stp I s1.stp w1) (Reps.stp I s1.stp w2) hl fun q hq => a6u (b := q.1) (p := q.2) ndz hq
  exact k S (as.map V.ref) _ (s1.trans (D6 hS)) (V1 I1 hS rp) (nn S (.head _))
section
variable {X : Cx} {g : Gh} {p p' pos pos' : Pos} {e : Expr} {es : List Expr} {t : DA}
theorem a42 (hc : X.calm = true) (hgl : Gl X "list") (hml : X.mg "list" = none) (hgz : Gl X "zip") (hmz : X.mg "zip" = none) (ha : BAO X g (e :: es) t)
  (he : starEach (e :: es) X.env = (false, eval e X.env) :: starEach es X.env := by rfl) (hpl : (backTo pos' (starEach es X.env)).any (·.1) = false := by rfl)
  (he2 : starEach [.Call (.Name "zip" p') (e :: es) [] pos'] X.env = [(false, eval (.Call (.Name "zip" p') (e :: es) [] pos') X.env)] := by rfl) :
  FO X g (.Call (.Name "list" p) [.Call (.Name "zip" p') (e :: es) [] pos'] [] pos) (dCF Y5 t) :=
 FO.w (b1w hc hgl hml hgz hmz ha.pe he hpl he2) (b2a b2n)
end
section
variable {X : Cx} {g : Gh} {scope : Scope} {cl : List (Str × Addr)} {idx : List Nat} {iter elt : Expr} {ifs : List Expr} {pos : Pos} {fi : DA} {fc : DT} {fe : DE} {x y : Str} {px py pp : Pos} {kt : Nat} {caps : List Str}
theorem a0S (hc : X.calm = true) (k : CompOk X scope cl (x :: y :: caps) 2 idx) (hi : IO X g (.Tuple [.Name x px, .Name y py] kt pp) iter fi) (nd : (x :: y :: caps).Nodup)
  (hx : ∀ C s0 H0 ex, (blk X (x :: y :: caps) scope cl C s0 H0 ex).env.scope.names.lookup x = some .local) (hy : ∀ C s0 H0 ex, (blk X (x :: y :: caps) scope cl C s0 H0 ex).env.scope.names.lookup y = some .local)
  (ht : ∀ C s0 H0 ex g', S4 (blk X (x :: y :: caps) scope cl C s0 H0 ex) g' ifs fc) (he : ∀ C s0 H0 ex g', EO (blk X (x :: y :: caps) scope cl C s0 H0 ex) g' elt fe) (hs : ∀ x, foldedSetIterable iter X.env x = pure x := by intro _; rfl) :
  FO X g (.ListComp elt [⟨.Tuple [.Name x px, .Name y py] kt pp, iter, ifs, 0⟩] scope pos) (K3 idx fi fc fe) :=
 b37 (G := a4r X.K 2 (a0s (K9 0) (a0s (K9 1) a2C))) hc k hi (fun C s0 H0 ex => a3j (X := blk X (x :: y :: caps) scope cl C s0 H0 ex) (n := 2) hc (a0w (X := blk X (x :: y :: caps) scope cl C s0 H0 ex) (t6 (X := blk X (x :: y :: caps) scope cl C s0 H0 ex) (i := 0) nd rfl (Or.inl (hx C s0 H0 ex)) (Or.inr (hx C s0 H0 ex))) (a0w (X := blk X (x :: y :: caps) scope cl C s0 H0 ex) (t6 (X := blk X (x :: y :: caps) scope cl C s0 H0 ex) (i := 1) nd rfl (Or.inl (hy C s0 H0 ex)) (Or.inr (hy C s0 H0 ex))) a1U)))
  (fun a x y σ H Q h q => ⟨a, [x, y], rfl, h, rfl, x, [y], rfl, y, [], rfl, rfl, q⟩) ht he hs
end
noncomputable def PC (X : Cx) (e : Expr) (te : TE) : Prop := ∀ (i : Nat) (y : Str) (py spos : Pos), X.N.Nodup → X.N[i]? = some y → Loc X.env.scope y → swapsWith e (some (.Name y py)) spos.line X.env = pure true → (X.fn y = true ∨ X.env.scope.names.lookup y = some .local) → PS X (.Assign [.Name y py] e spos) (Z7 te (K9 i))
structure CO (X : Cx) (g : Gh) (e : Expr) (f : DA) : Prop where
 pe : PC X e (Q2 X.K g f)
theorem CO.w {X : Cx} {g : Gh} {e : Expr} {f : DA} {t : TE} (h : PC X e t) (w : ∀ σ H Q, Q2 X.K g f σ H Q → t σ H Q) : CO X g e f :=
 ⟨fun i y py spos h1 h2 h3 h4 h5 pins s σ H D I q => h i y py spos h1 h2 h3 h4 h5 pins s σ H D I (w σ H _ q)⟩
section
variable {X : Cx} {g : Gh} {scope : Scope} {cl : List (Str × Addr)} {N' : List Str} {idx : List Nat} {iter elt tg : Expr} {ifs : List Expr} {pos : Pos} {fi : DA} {fc : DT} {fe : DE}
theorem a3Y (hc : X.calm = true) (k : CompOk X scope cl N' 1 idx) (hi : IO X g tg iter fi) (hg : ∀ C s0 H0 ex, PG (blk X N' scope cl C s0 H0 ex) tg (K9 0))
  (ht : ∀ C s0 H0 ex g', S4 (blk X N' scope cl C s0 H0 ex) g' ifs fc) (he : ∀ C s0 H0 ex g', EO (blk X N' scope cl C s0 H0 ex) g' elt fe) (hs : ∀ x, foldedSetIterable iter X.env x = pure x := by intro _; rfl) :
  CO X g (.ListComp elt [⟨tg, iter, ifs, 0⟩] scope pos) (F2 idx fi fc fe) :=
 CO.w (fun i y py spos h1 h2 h3 h4 h5 => a68 (tc := fun σ H Q => ∃ g', K7 X.K g' fc σ H Q) (te := fun σ H Q => ∃ g', G6 X.K g' fe σ H Q) h1 h2 h3 hc k hi.pe hg (fun C s0 H0 ex pins s σ H Q I ⟨g', h⟩ => ht C s0 H0 ex g' pins s σ H Q I h) (fun C s0 H0 ex pins s σ H Q I ⟨g', h⟩ => (he C s0 H0 ex g').pe pins s σ H Q I h) hs h4 h5) (a60 k)
theorem a9f {G : TG} (hc : X.calm = true) (k : CompOk X scope cl N' 2 idx) (hi : IO X g tg iter fi) (hg : ∀ C s0 H0 ex, PG (blk X N' scope cl C s0 H0 ex) tg G)
  (hG : ∀ (a : Addr) (x y : V) (σ : L2.St) (H : Hp) (Q : L2.St → Hp → Prop), SqT X.K H a [x, y] → Q ((σ.set 0 (some x)).set 1 (some y)) H → G (.ref a) σ H Q)
  (ht : ∀ C s0 H0 ex g', S4 (blk X N' scope cl C s0 H0 ex) g' ifs fc) (he : ∀ C s0 H0 ex g', EO (blk X N' scope cl C s0 H0 ex) g' elt fe) (hs : ∀ x, foldedSetIterable iter X.env x = pure x := by intro _; rfl) :
  CO X g (.ListComp elt [⟨tg, iter, ifs, 0⟩] scope pos) (K3 idx fi fc fe) :=
 CO.w (fun i y py spos h1 h2 h3 h4 h5 => a68 (tc := fun σ H Q => ∃ g', K7 X.K g' fc σ H Q) (te := fun σ H Q => ∃ g', G6 X.K g' fe σ H Q) h1 h2 h3 hc k hi.pe hg (fun C s0 H0 ex pins s σ H Q I ⟨g', h⟩ => ht C s0 H0 ex g' pins s σ H Q I h) (fun C s0 H0 ex pins s σ H Q I ⟨g', h⟩ => (he C s0 H0 ex g').pe pins s σ H Q I h) hs h4 h5) (a6T k hG)
theorem a09 {e : Expr} {i : Nat} {x : Str} {f : DA} {pos' : Pos} (hN : X.N.Nodup) (hi : X.N[i]? = some x) (hx : Loc X.env.scope x) (he : CO X g e f) (hs : swapsWith e (some (.Name x pos')) pos.line X.env = pure true := by rfl) (hf : X.fn x = true ∨ X.env.scope.names.lookup x = some .local := by first | exact .inl rfl | exact .inr rfl | assumption) :
  SO X g (.Assign [.Name x pos'] e pos) (B5 i f) := SO.w (he.pe i x pos' pos hN hi hx hs hf) fun E σ H hQ__ => by
 obtain ⟨fa, O, s, fl, s', I, q, k⟩ := hQ__
 obtain ⟨⟨ds, s1⟩, h1, h2⟩ := Option.bind_eq_some_iff.mp q
 by_cases hl : i < s1.sl.length
 ·simp only [] at h2
  rw [if_pos hl] at h2
  cases h2
  refine ⟨fa, O, s, ds, s1, I, h1, fun p xs H1 f1 O1 a1 L hp => ?_⟩
  have np : p ∉ O1 := fun z => by
   obtain ⟨ys, e⟩ := I.owned (a1.sub p z)
   rw [hp] at e; cases e
  obtain ⟨P, sub, I'⟩ := L.put i hl (I.st.mon p hp) np
  refine k _ H1 f1 P ⟨fun b hb => ?_, a1.fe, fun b u e _ n => a1.same b u e n, a1.mon⟩ I'
  rcases sub b hb with y | y
  ·exact .inr (by rw [y]; exact hp)
  ·exact .inl (a1.sub b y)
 ·simp only [] at h2
  rw [if_neg hl] at h2; cases h2
end
section
variable {X : Cx} {g : Gh} {scope : Scope} {cl : List (Str × Addr)} {idx : List Nat} {iter elt : Expr} {ifs : List Expr} {pos : Pos} {fi : DA} {fc : DT} {fe : DE} {x y : Str} {px py pp : Pos} {kt : Nat} {caps : List Str}
theorem a86 (hc : X.calm = true) (k : CompOk X scope cl (x :: y :: caps) 2 idx) (hi : IO X g (.Tuple [.Name x px, .Name y py] kt pp) iter fi) (nd : (x :: y :: caps).Nodup)
  (hx : ∀ C s0 H0 ex, (blk X (x :: y :: caps) scope cl C s0 H0 ex).env.scope.names.lookup x = some .local) (hy : ∀ C s0 H0 ex, (blk X (x :: y :: caps) scope cl C s0 H0 ex).env.scope.names.lookup y = some .local)
  (ht : ∀ C s0 H0 ex g', S4 (blk X (x :: y :: caps) scope cl C s0 H0 ex) g' ifs fc) (he : ∀ C s0 H0 ex g', EO (blk X (x :: y :: caps) scope cl C s0 H0 ex) g' elt fe) (hs : ∀ x, foldedSetIterable iter X.env x = pure x := by intro _; rfl) :
  CO X g (.ListComp elt [⟨.Tuple [.Name x px, .Name y py] kt pp, iter, ifs, 0⟩] scope pos) (K3 idx fi fc fe) :=
 a9f (G := a4r X.K 2 (a0s (K9 0) (a0s (K9 1) a2C))) hc k hi (fun C s0 H0 ex => a3j (X := blk X (x :: y :: caps) scope cl C s0 H0 ex) (n := 2) hc (a0w (X := blk X (x :: y :: caps) scope cl C s0 H0 ex) (t6 (X := blk X (x :: y :: caps) scope cl C s0 H0 ex) (i := 0) nd rfl (Or.inl (hx C s0 H0 ex)) (Or.inr (hx C s0 H0 ex))) (a0w (X := blk X (x :: y :: caps) scope cl C s0 H0 ex) (t6 (X := blk X (x :: y :: caps) scope cl C s0 H0 ex) (i := 1) nd rfl (Or.inl (hy C s0 H0 ex)) (Or.inr (hy C s0 H0 ex))) a1U)))
  (fun a x y σ H Q h q => ⟨a, [x, y], rfl, h, rfl, x, [y], rfl, y, [], rfl, rfl, q⟩) ht he hs
end
end DL
namespace L2
open PySem PySem.Spec PyProof.Rows
section
variable {X : Cx} {pins : List (Addr × Obj)} {σ : List (Option V)} {H : Hp} {s : Shared} {h' : Heap}
theorem Inv.turnedL {t' : Nat} {ch : List Addr} (I : Inv X pins σ H s) (k : ∀ c o, c ∉ ch → s.heap.get? c = some o → h'.get? c = some o) (f : ∀ b ∈ ch, J0 X pins H b) : Inv X pins σ H { s with heap := h', toks := t' } := by
 have nn : ∀ c u, H c = some u → c ∉ ch := fun c u e hc => by rw [(f c hc).1] at e; cases e
 refine I.step (g' := s.gens) (d' := s.drawn) (ch := ch) (fun c hc => ⟨(f c hc).2.2.2.1, (f c hc).2.1, (f c hc).2.2.2.2.1, (f c hc).2.2.2.2.2⟩) (fun c o _ _ hc e _ => k c o hc e) (fun c o _ _ hc e _ => ⟨o.slots, k c o hc e⟩) (fun _ _ _ _ n => n)
  (fun c o hc e => ⟨o, k c o hc e⟩) (fun _ _ e => e) (fun _ _ _ e => e) (fun c ps e => ⟨#[], by rw [e]; simp⟩) (fun m hm => ?_) (fun c u e => ?_) I.bare
 ·obtain ⟨o, es, ep, ho, r⟩ := hm
  exact ⟨o, es, ep, k _ o (fun z => (f _ z).2.1 rfl) ho, r⟩
 ·refine (I.hok c u e).stay (fun d v hd q => k d v ?_ q) (fun _ q => q) fun _ _ q => q
  rcases hd with z | z
  ·rw [z]; exact nn c u e
  ·exact nn d _ z
end
end L2
namespace DL
open PySem PySem.Spec L2 PyProof.Rows
noncomputable def SqB (K : PySem.W.Frag) (t : Bool) (H : Hp) (a : Addr) (xs : List V) : Prop := if t then SqT K H a xs else SqL K H a xs
noncomputable def RwI (t : Bool) (h : Heap) (i l : Addr) (k : Nat) : Prop := if t then h.IsTupleIter i l k else h.IsListIter i l k
theorem RwI.it {t : Bool} {h : Heap} {i l : Addr} {xs : Array Value} {k : Nat} (x : RwI t h i l k) (y : RwB t h l xs) : RwIt h i l xs k := by
 cases t with
 | true => exact .inr ⟨x, y⟩
 | false => exact .inl ⟨x, y⟩
theorem RwI.at {t : Bool} {h h' : Heap} {i l : Addr} {k : Nat} (x : RwI t h i l k) (e : ∀ o, h.get? i = some o → h'.get? i = some o) : RwI t h' i l k := by
 cases t with
 | true => obtain ⟨o, q, r⟩ := x; exact ⟨o, e o q, r⟩
 | false => obtain ⟨o, q, r⟩ := x; exact ⟨o, e o q, r⟩
theorem RwI.ob {t : Bool} {h : Heap} {i l : Addr} {k : Nat} (x : RwI t h i l k) : ∃ o, h.get? i = some o ∧ ∀ v, o.data ≠ .cell v := by
 cases t with
 | true => obtain ⟨o, q, c, d⟩ := x; exact ⟨o, q, fun v z => by rw [d] at z; cases z⟩
 | false => obtain ⟨o, q, c, d⟩ := x; exact ⟨o, q, fun v z => by rw [d] at z; cases z⟩
theorem RwIt.kind {t : Bool} {h : Heap} {i l : Addr} {xs ys : Array Value} {k : Nat} (x : RwIt h i l xs k) (y : RwB t h l ys) : RwI t h i l k := by
 cases t with
 | true =>
  rcases x with ⟨_, o, q, c, _⟩ | ⟨x, _⟩
  ·obtain ⟨o', q', c', _⟩ := y
   rw [q] at q'; cases q'
   rw [c] at c'
   exact absurd c' (by decide)
  ·exact x
 | false =>
  rcases x with ⟨x, _⟩ | ⟨_, o, q, c, _⟩
  ·exact x
  ·obtain ⟨o', q', c', _⟩ := y
   rw [q] at q'; cases q'
   rw [c] at c'
   exact absurd c' (by decide)
theorem Y3 {X : Cx} {pins : List (Addr × Obj)} {σ : List (Option V)} {H : Hp} {s : Shared} {t : Bool} (I : Inv X pins σ H s) {p : Addr} {xs : List V} (h : SqB X.K t H p xs) : ∃ its : List Value, Vals xs its ∧ RwB t s.heap p its.toArray ∧ xs.length ≤ sizeLine := by
 cases t with
 | false =>
  obtain ⟨its, r, ⟨o, n, e, c, _, d⟩, z⟩ := I.list h
  exact ⟨its, r, ⟨o, e, c, n, d⟩, z⟩
 | true =>
  obtain ⟨its, r, ⟨o, e, c, n, d⟩, z⟩ := I.tuple h
  exact ⟨its, r, ⟨o, e, c, n, d⟩, z⟩
theorem a45 {X : Cx} {pins : List (Addr × Obj)} {σ : List (Option V)} {H : Hp} {s : Shared} {t : Bool} (I : Inv X pins σ H s) {p : Addr} {xs ys : List V} (h : SqB X.K t H p xs) (h' : SqB X.K t H p ys) : xs = ys := by
 cases t with
 | false => exact I.list_inj h h'
 | true => exact I.tuple_inj h h'
section
variable {prog : Program} {w : World} {A : Around} {E : Value → Shared → Prop} {s : Shared} {z TI TO i1 i2 l1 l2 : Addr} {xs ys : Array Value} {k : Nat}
theorem b1v {x y a b : Value} {Q : Option Value → Shared → Prop} (D : ZipApart z TI TO i1 i2 l1 l2) (hz : B0 s.heap z TI TO .none (.bool false)) (hTI : IsPair s.heap TI (.ref i1) (.ref i2)) (hTO : IsPair s.heap TO a b) (h1 : RwIt s.heap i1 l1 xs k) (h2 : RwIt s.heap i2 l2 ys k) (hx : xs[k]? = some x) (hy : ys[k]? = some y)
  (hQ : ∀ h', B0 h' z TI TO (rawInt s.heap.objs.size) (.bool false) → RwIt h' i1 l1 xs (k + 1) → RwIt h' i2 l2 ys (k + 1) → IsPair h' s.heap.objs.size x y →
   (∀ c o, c ≠ z → c ≠ TO → c ≠ i1 → c ≠ i2 → s.heap.get? c = some o → h'.get? c = some o) → IsPair h' TO x y → Q (some (.ref s.heap.objs.size)) { s with heap := h' }) : wpAny (model prog w) A (pyNext (.ref z)) Q E s := by
 unfold pyNext
 have tz : s.TypeIs (.ref z) "zip" := ⟨_, hz, rfl⟩
 exact wpAny_bind (wpAny_attempt (wpAny_callSpecial?_slot (name := Str.ofString "__next__") tz PySem.F.slot_zip_next (wpAny_call_entry PySem.F.slot_zip_next tz PySem.F.entry_zip_next
  (a5a D hz hTI hTO h1 h2 hx hy fun h' a1 a2 a3 a4 a5 a6 => wpAny_pure (hQ h' a1 a2 a3 a4 a5 a6)) (PySem.F.args_zip_next_1 _))))
theorem b2w {a b : Value} {Q : Option Value → Shared → Prop} (hh : A.handled = none) (D : ZipApart z TI TO i1 i2 l1 l2) (hz : B0 s.heap z TI TO .none (.bool false)) (hTI : IsPair s.heap TI (.ref i1) (.ref i2)) (hTO : IsPair s.heap TO a b) (h1 : RwIt s.heap i1 l1 xs k) (h2 : RwIt s.heap i2 l2 ys k) (hend : xs[k]? = none ∨ ys[k]? = none)
  (hQ : ∀ h', (∀ c o, c ≠ z → c ≠ TO → c ≠ i1 → c ≠ i2 → s.heap.get? c = some o → h'.get? c = some o) → Q none { s with heap := h' }) : wpAny (model prog w) A (pyNext (.ref z)) Q E s := by
 unfold pyNext
 have tz : s.TypeIs (.ref z) "zip" := ⟨_, hz, rfl⟩
 refine wpAny_bind (wpAny_attempt (wpAny_callSpecial?_slot (name := Str.ofString "__next__") tz PySem.F.slot_zip_next (wpAny_call_entry PySem.F.slot_zip_next tz PySem.F.entry_zip_next (a6g hh D hz hTI hTO h1 h2 hend fun h' e hk he => ?_) (PySem.F.args_zip_next_1 _))))
 obtain ⟨o, ho, hc⟩ := he
 refine wpAny_bind (wpAny_isInstance (T := "StopIteration") (b := true) ⟨o, ho, hc⟩ isSubtype_stop ?_)
 exact wpAny_pure (hQ _ hk)
theorem b1J {elts : List Expr} {x1} {pos : Pos} {a : Addr} {Q : Unit → Shared → Prop} (hz : B0 s.heap z TI TO (rawInt a) (.bool false))
  (hQ : ∀ h', B0 h' z TI TO .none (.bool false) → Heap.SameBut z s.heap h' → Q () { s with heap := h' }) : wpAny (model prog w) A (letOwnedTupleGo (.Tuple elts x1 pos) (.ref z) (.ref a)) Q E s := by
 unfold letOwnedTupleGo
 refine wpAny_bind (wpAny_load hz ?_)
 show wpAny _ A (if (["enumerate", "zip", "dict_itemiterator", "dict_reverseitemiterator", "odict_iterator", "itertools.zip_longest", "itertools.pairwise"].contains "zip" &&
   (#[rawInt a, .bool false, .bool false, .ref TI, .ref TO] : Array Value)[0]? == some (rawInt a)) = true then _ else _) Q E s
 rw [if_pos (by simp)]
 refine wpAny_bind (wpAny_rule ?_)
 show wpAny _ A (setField (.ref z) 0 .none) Q E s
 exact wpAny_setField_rec hz (by simp) fun h' he' hs' => hQ h' he' hs'
end
noncomputable def Itz (K : PySem.W.Frag) (t u : Bool) (a b : Addr) : It :=
 ⟨fun i H => ∃ xs ys x y, SqB K t H a xs ∧ SqB K u H b ys ∧ xs[i]? = some x ∧ ys[i]? = some y, fun i H v H' => ∃ p x y, H p = none ∧ v = .ref p ∧ H' = upd H p (.tup [x, y]) ∧ (∀ xs, SqB K t H a xs → xs[i]? = some x) ∧ ∀ ys, SqB K u H b ys → ys[i]? = some y, fun i H => ∃ xs ys, SqB K t H a xs ∧ SqB K u H b ys ∧ (xs.length ≤ i ∨ ys.length ≤ i)⟩
noncomputable def Ztn (t u : Bool) (z TI TO i1 i2 a b : Addr) (i : Nat) (h : Heap) : Prop := B0 h z TI TO .none (.bool false) ∧ IsPair h TI (.ref i1) (.ref i2) ∧ (∃ x y, IsPair h TO x y) ∧ RwI t h i1 a i ∧ RwI u h i2 b i
theorem b3q {P : Program} {w : World} {K : PySem.W.Frag} {elts : List Expr} {x1} {pos : Pos} {t u : Bool} {z TI TO i1 i2 a b : Addr} (D : ZipApart z TI TO i1 i2 a b) : Turn P w K (.Tuple elts x1 pos) (Itz K t u a b) [z, TI, TO, i1, i2] z (Ztn t u z TI TO i1 i2 a b) where
 mem := by simp
 obj := fun i h st c hc => by
  obtain ⟨hz, ti, ⟨x, y, ho⟩, r1, r2⟩ := st
  simp only [List.mem_cons, List.not_mem_nil, or_false] at hc
  rcases hc with rfl | rfl | rfl | rfl | rfl
  ·exact ⟨_, hz, fun v q => by
    have q' : Data.fields _ = Data.cell v := q
    cases q'⟩
  ·exact ⟨_, ti, fun v q => by
    have q' : Data.seq _ _ = Data.cell v := q
    cases q'⟩
  ·exact ⟨_, ho, fun v q => by
    have q' : Data.seq _ _ = Data.cell v := q
    cases q'⟩
  ·exact r1.ob
  ·exact r2.ob
 keep := fun i h h' st k => by
  obtain ⟨hz, ti, ⟨x, y, ho⟩, r1, r2⟩ := st
  exact ⟨k z (by simp) _ hz, k TI (by simp) _ ti, ⟨x, y, k TO (by simp) _ ho⟩, r1.at fun o q => k i1 (by simp) o q, r2.at fun o q => k i2 (by simp) o q⟩
 item := by
  intro X hP hw hK hc i pins s σ H E I hf st hg
  subst hP hw hK
  obtain ⟨xs, ys, x, y, q1, q2, hx, hy⟩ := hg
  obtain ⟨hz, ti, ⟨o1, o2, ho⟩, r1, r2⟩ := st
  obtain ⟨its, rv, w1, _⟩ := Y3 I q1
  obtain ⟨jts, rw_, w2, _⟩ := Y3 I q2
  obtain ⟨p, hp, rp⟩ := rv.get hx
  obtain ⟨q, hq, rq⟩ := rw_.get hy
  have hx' : its.toArray[i]? = some p := by simpa using hp
  have hy' : jts.toArray[i]? = some q := by simpa using hq
  have lz : ∀ c ∈ [z, TI, TO, i1, i2], c < s.heap.objs.size := fun c hc => by
   simp only [List.mem_cons, List.not_mem_nil, or_false] at hc
   rcases hc with rfl | rfl | rfl | rfl | rfl
   ·exact Heap.lt_size hz
   ·exact Heap.lt_size ti
   ·exact Heap.lt_size ho
   ·obtain ⟨o, e, _⟩ := r1.ob; exact Heap.lt_size e
   ·obtain ⟨o, e, _⟩ := r2.ob; exact Heap.lt_size e
  refine b1v D hz ti ho (r1.it w1) (r2.it w2) hx' hy' fun h1 a1 a2 a3 a4 a5 a6 => ?_
  refine ⟨_, rfl, b1J a1 fun h2 hz2 hs2 => ?_⟩
  replace hs2 : Heap.SameBut z h1 h2 := hs2
  have hn : H s.heap.objs.size = none := I.hok.fresh (Nat.le_refl _)
  have I1 : Inv X pins σ (upd H s.heap.objs.size (.tup [x, y])) { s with heap := s.heap.push { cls := .type "tuple", data := .seq #[p, q] }, toks := s.toks } :=
   I.laid (t' := s.toks) (fun b o q => Heap.get?_push_of_some _ q) (Nat.le_refl _) ⟨by show 2 ≤ sizeLine; decide, [p, q], .cons rp (.cons rq .nil), ⟨_, Heap.get?_push_size _ rfl, rfl, _, rfl⟩⟩
  have up : ∀ c, c < s.heap.objs.size → J0 X pins H c → J0 X pins (upd H s.heap.objs.size (.tup [x, y])) c := fun c hc f => ⟨by rw [p8 (Nat.ne_of_lt hc)]; exact f.1, f.2⟩
  have k2 : ∀ c o, c ≠ z → c ≠ TO → c ≠ i1 → c ≠ i2 → s.heap.get? c = some o → h2.get? c = some o := fun c o c1 c2 c3 c4 e => (hs2.2 _ c1).trans (a5 c o c1 c2 c3 c4 e)
  have I2 := I1.turnedL (h' := h2) (t' := s.toks) (ch := [z, TO, i1, i2]) (fun c o hc e => by
   simp only [List.mem_cons, List.not_mem_nil, or_false, not_or] at hc
   rcases Heap.get?_push_cases e with ⟨rfl, rfl⟩ | e1
   ·exact (hs2.2 _ hc.1).trans a4
   ·exact k2 c o hc.1 hc.2.1 hc.2.2.1 hc.2.2.2 e1) (fun c hc => by
   have hc' : c ∈ [z, TI, TO, i1, i2] := by
    simp only [List.mem_cons, List.not_mem_nil, or_false] at hc ⊢
    rcases hc with h | h | h | h <;> simp [h]
   exact up c (lz c hc') (hf c hc'))
  have wa : RwB t h1 a its.toArray := w1.at fun o e => a5 a o D.l1z D.l1TO D.l1i1 D.l1i2 e
  have wb : RwB u h1 b jts.toArray := w2.at fun o e => a5 b o D.l2z D.l2TO D.l2i1 D.l2i2 e
  refine ⟨.ref s.heap.objs.size, _, I2, rfl, ⟨_, x, y, hn, rfl, rfl, fun xs' h => by rw [a45 I h q1]; exact hx, fun ys' h => by rw [a45 I h q2]; exact hy⟩, ⟨hz2, k2 _ _ D.TIz D.TITO D.TIi1 D.TIi2 ti, ⟨p, q, (hs2.2 _ D.TOz).trans a6⟩, (a2.kind wa).at fun o e => (hs2.2 _ D.i1z).trans e, (a3.kind wb).at fun o e => (hs2.2 _ D.i2z).trans e⟩, fun c hc => (up c (lz c hc) (hf c hc)).1⟩
 done := by
  intro X hP hw hK hc i pins s σ H E I hf st hg
  subst hP hw hK
  obtain ⟨xs, ys, q1, q2, hl⟩ := hg
  obtain ⟨hz, ti, ⟨o1, o2, ho⟩, r1, r2⟩ := st
  obtain ⟨its, rv, w1, _⟩ := Y3 I q1
  obtain ⟨jts, rw_, w2, _⟩ := Y3 I q2
  have e1 := rv.length
  have e2 := rw_.length
  refine b2w (I.ok.hd hc) D hz ti ho (r1.it w1) (r2.it w2) (by
   rcases hl with h | h
   ·exact .inl (by simp; omega)
   ·exact .inr (by simp; omega)) fun h' k => ⟨rfl, I.turnedL (t' := s.toks) (ch := [z, TO, i1, i2]) (fun c o hc e => by
    simp only [List.mem_cons, List.not_mem_nil, or_false, not_or] at hc
    exact k c o hc.1 hc.2.1 hc.2.2.1 hc.2.2.2 e) fun c hc => hf c (by
    simp only [List.mem_cons, List.not_mem_nil, or_false] at hc ⊢
    rcases hc with h | h | h | h <;> simp [h])⟩
 self := fun A i s Q E st hQ => by
  have tz : s.TypeIs (.ref z) "zip" := ⟨_, st.1, rfl⟩
  refine wpAny_pyIter_slot tz PySem.F.slot_zip_iter (wpAny_call_entry PySem.F.slot_zip_iter tz PySem.F.entry_zip_iter ?_ (PySem.F.args_zip_iter_1 _))
  show wpAny _ _ (ret (.ref z)) _ _ s
  exact wpAny_pure ⟨_, rfl, "zip", _, tz, PySem.F.slot_zip_next.lookup, hQ⟩
section
variable {X : Cx}
noncomputable def a8p (K : PySem.W.Frag) (ta : TA) : TI := fun σ H R => ta σ H fun vs H1 => ∃ a b t u, vs = [.ref a, .ref b] ∧ (∃ xs, SqB K t H1 a xs) ∧ (∃ ys, SqB K u H1 b ys) ∧ R (Itz K t u a b) H1
theorem a9M {e : Expr} {es : List Expr} {ta : TA} {p pos pt : Pos} {elts : List Expr} {x1} (hg : Gl X "zip") (hm : X.mg "zip" = none) (ha : PA X (e :: es) ta) (he : starEach (e :: es) X.env = (false, eval e X.env) :: starEach es X.env := by rfl) (hpl : (backTo pos (starEach es X.env)).any (·.1) = false := by rfl) :
  PI X (.Tuple elts x1 pt) (.Call (.Name "zip" p) (e :: es) [] pos) (a8p X.K ta) := by
 intro pins s σ H R I h
 refine wpAny_Call_Name_kw (X8 I hg hm (show bootBuiltins ("zip" : Str) = some (.type "zip") by decide +kernel) ?_ (by decide) (by decide))
 refine PyProof.Rows.callWith_type1 (thn (ha pos pins s σ H _ I h) fun us s1 ⟨vs, H1, I1, r1, q1⟩ => ?_) he hpl
 obtain ⟨a, b, t, u, rfl, ⟨xs, qa⟩, ⟨ys, qb⟩, k⟩ := q1
 obtain ⟨u1, u2, rfl, e1, e2⟩ : ∃ u1 u2, us = [u1, u2] ∧ u1 = Value.ref a ∧ u2 = Value.ref b := by
  cases r1 with
  | cons h1 r1 =>
   cases r1 with
   | cons h2 r1 => cases r1; exact ⟨_, _, rfl, h1, h2⟩
 subst e1; subst e2
 obtain ⟨it, rx, wa, za⟩ := Y3 I1 qa
 obtain ⟨jt, ry, wb, zb⟩ := Y3 I1 qb
 refine a5A wa wb fun h1 _ k1 Z => ?_
 obtain ⟨D, g1, g2, g3, g5, x1, x2, g4⟩ := Z
 have tz : ({ s1 with heap := h1 } : Shared).TypeIs (.ref (s1.heap.objs.size + 4)) "zip" := ⟨_, g5, rfl⟩
 refine wpAny_pyIter_slot tz PySem.F.slot_zip_iter (wpAny_call_entry PySem.F.slot_zip_iter tz PySem.F.entry_zip_iter ?_ (PySem.F.args_zip_iter_1 _))
 show wpAny _ _ (ret (.ref (s1.heap.objs.size + 4))) _ _ _
 refine wpAny_pure ⟨_, rfl, "zip", _, tz, PySem.F.slot_zip_next.lookup, ?_⟩
 refine ⟨s1.heap.objs.size + 4, [s1.heap.objs.size + 4, s1.heap.objs.size + 2, s1.heap.objs.size + 3, s1.heap.objs.size, s1.heap.objs.size + 1], _, _, H1, rfl, I1.kept (t' := s1.toks) k1, b3q (t := t) (u := u) D, ⟨g5, g3, ⟨x1, x2, g4⟩, ?_, ?_⟩, fun c hc => ?_, k⟩
 ·cases t with
  | true => exact ⟨_, g1, rfl, rfl⟩
  | false => exact ⟨_, g1, rfl, rfl⟩
 ·cases u with
  | true => exact ⟨_, g2, rfl, rfl⟩
  | false => exact ⟨_, g2, rfl, rfl⟩
 ·have hc : s1.heap.objs.size ≤ c := by
   simp only [List.mem_cons, List.not_mem_nil, or_false] at hc
   rcases hc with h | h | h | h | h <;> rw [h] <;> omega
  exact I1.fpOk hc (I1.hok.fresh hc)
theorem b0d {K : PySem.W.Frag} {t u : Bool} {a b : Addr} {xs ys : List V} {g : TG} {tb : TS} {D : Ends} {σ : L2.St} {H : Hp} (Pv : Nat → L2.St → Hp → Prop) (h0 : Pv 0 σ H) (hl : ∀ i σ H, Pv i σ H → SqB K t H a xs ∧ SqB K u H b ys)
  (hs : ∀ i x y p σ H, xs[i]? = some x → ys[i]? = some y → H p = none → Pv i σ H → g (.ref p) σ (upd H p (.tup [x, y])) fun σ2 H2 => tb { D with nx := Pv (i + 1), ct := Pv (i + 1), bk := D.nx } σ2 H2) (hd : ∀ σ H, Pv (min xs.length ys.length) σ H → D.nx σ H) :
  ∃ W : Nat → Nat → L2.St → Hp → Prop, (∃ m, W 0 m σ H) ∧ ∀ i m σ H, W i m σ H →
   ((Itz K t u a b).stop i H ∧ D.nx σ H) ∨ ((Itz K t u a b).go i H ∧ ∃ N : L2.St → Hp → Prop, (∀ σ' H', N σ' H' → ∃ m', m' < m ∧ W (i + 1) m' σ' H') ∧ ∀ x H', (Itz K t u a b).yld i H x H' → g x σ H' fun σ2 H2 => tb { D with nx := N, ct := N, bk := D.nx } σ2 H2) := by
 refine ⟨fun i m σ H => m = min xs.length ys.length - i ∧ i ≤ min xs.length ys.length ∧ Pv i σ H, ⟨min xs.length ys.length, by simp, Nat.zero_le _, h0⟩, ?_⟩
 rintro i m σ H ⟨rfl, hi, p⟩
 obtain ⟨q1, q2⟩ := hl i σ H p
 by_cases hlt : i < min xs.length ys.length
 ·have l1 : i < xs.length := by omega
  have l2 : i < ys.length := by omega
  refine .inr ⟨⟨xs, ys, xs[i], ys[i], q1, q2, by simp [l1], by simp [l2]⟩, Pv (i + 1), fun σ' H' p' => ⟨min xs.length ys.length - (i + 1), by omega, rfl, hlt, p'⟩, fun v H' y => ?_⟩
  obtain ⟨pp, x, y, hp, rfl, rfl, y1, y2⟩ := y
  exact hs i x y pp σ _ (y1 xs q1) (y2 ys q2) hp p
 ·have e : i = min xs.length ys.length := by omega
  refine .inl ⟨⟨xs, ys, q1, q2, by omega⟩, hd σ H ?_⟩
  rw [← e]
  exact p
end
noncomputable def a0x (f : DA) (t : D → DS → Option DS) (b : DM) : DM := fun s => (f s).bind fun x => match x.1 with
 | [d1, d2] => (J8 d1).bind fun xs => (J8 d2).bind fun ys => A1 t b (List.zipWith F3 xs ys) x.2
 | _ => none
theorem a43 {K : PySem.W.Frag} {N : Addr → Prop} {fa : Option Addr} {H : Hp} {d : D} {v : V} {ds : List D} (r : Rep K N fa H d v) (e : J8 d = some ds) : ∃ t a xs, v = .ref a ∧ SqB K t H a xs ∧ (t = false → ¬ N a ∧ H a = some (.lst xs)) ∧ Reps K N fa H ds xs := by
 cases d with
 | tup es =>
  cases e
  simp only [Rep] at r
  obtain ⟨a, ys, rfl, q, w⟩ := r
  exact ⟨true, a, ys, rfl, q, fun z => (by cases z), w⟩
 | lst es =>
  cases e
  simp only [Rep] at r
  obtain ⟨a, ys, rfl, na, q, w⟩ := r
  exact ⟨false, a, ys, rfl, SqL.of q, fun _ => ⟨na, q⟩, w⟩
 | _ => cases e
theorem a8K {f : DA} {t : D → DS → Option DS} {b : DM} {s : DS} {r : Fl × DS} (q : a0x f t b s = some r) : ∃ d1 d2 xs ys s1, f s = some ([d1, d2], s1) ∧ J8 d1 = some xs ∧ J8 d2 = some ys ∧ A1 t b (List.zipWith F3 xs ys) s1 = some r := by
 obtain ⟨⟨as, s1⟩, h1, h2⟩ := Option.bind_eq_some_iff.mp q
 cases as with
 | nil => cases h2
 | cons d1 as =>
  cases as with
  | nil => cases h2
  | cons d2 as =>
   cases as with
   | cons _ _ => cases h2
   | nil =>
    obtain ⟨xs, e1, h2⟩ := Option.bind_eq_some_iff.mp h2
    obtain ⟨ys, e2, h2⟩ := Option.bind_eq_some_iff.mp h2
    exact ⟨d1, d2, xs, ys, s1, h1, e1, e2, h2⟩
section
variable {X : Cx} {g : Gh} {e : Expr} {es : List Expr} {body : List Stmt} {f : DA} {t : D → DS → Option DS} {b : DM} {pos p1 p2 pt : Pos} {elts : List Expr} {x1 : Nat}
theorem a9n (hp : PassesOwn (model X.prog X.w) X.A X.env X.xe) (hc : X.calm = true) (hgl : Gl X "zip") (hm : X.mg "zip" = none) (he : AO X g (e :: es) f) (hg : GO X g (.Tuple elts x1 pt) t) (hb : SSO X g body b)
  (hst : starEach (e :: es) X.env = (false, eval e X.env) :: starEach es X.env := by rfl) (hpl : (backTo p2 (starEach es X.env)).any (·.1) = false := by rfl) (hs : ∀ x, foldedSetIterable (.Call (.Name "zip" p1) (e :: es) [] p2) X.env x = pure x := by intro _; rfl) :
  SO X g (.For (.Tuple elts x1 pt) (.Call (.Name "zip" p1) (e :: es) [] p2) body [] pos) (a0x f t b) := SO.w (a2u hp hc (a9M hgl hm he.pe hst hpl) hg.pe hb.pe hs) fun E σ H hQ__ => by
 obtain ⟨fa, O, s, fl, sf, I, q, k⟩ := hQ__
 obtain ⟨d1, d2, xs1, ys1, s1, h1, e1, e2, h2⟩ := a8K q
 refine ⟨fa, O, s, _, s1, I, h1, fun vs H1 f1 O1 a1 I1 r => ?_⟩
 have k1 := k.shift a1.stp
 ·simp only [Reps] at r
  obtain ⟨v1, zs, rfl, r1, v2, zs', rfl, r2, rfl⟩ := r
  obtain ⟨ta, a, vs, rfl, q1, c1, w1⟩ := a43 r1 e1
  obtain ⟨tb, c, us, rfl, q2, c2, w2⟩ := a43 r2 e2
  have stay : ∀ {t : Bool} {p : Addr} {xs : List V} {fa' O' H'}, Stp f1 O1 H1 fa' O' H' → SqB X.K t H1 p xs → (t = false → ¬ NN g.F f1 O1 p ∧ H1 p = some (.lst xs)) → SqB X.K t H' p xs := fun {t p xs fa' O' H'} st q z => by
   cases t with
   | true => exact (I1.car st).tp p xs q
   | false => exact SqL.of ((I1.car st).ls p xs (z rfl).1 (z rfl).2).1
  refine ⟨a, c, ta, tb, rfl, ⟨vs, q1⟩, ⟨us, q2⟩, b0d (xs := vs) (ys := us) (PvD X.K g f1 O1 H1 t b (List.zipWith F3 xs1 ys1) fl sf) ⟨f1, O1, s1, Stp.refl, I1, h2⟩ ?_ ?_ ?_⟩
  ·rintro i σ' H' ⟨fa', O', s', st, I', e⟩
   exact ⟨stay st q1 c1, stay st q2 c2⟩
  ·intro i x y p σ' H' hx hy hpn h
   obtain ⟨dx, hdx, rx⟩ := Reps.get' w1 hx
   obtain ⟨dy, hdy, ry⟩ := Reps.get' w2 hy
   have h' : PvD X.K g f1 O1 H1 t b (List.zipWith F3 xs1 ys1) fl sf i σ' (upd H' p (.tup [x, y])) := by
    obtain ⟨fa', O', s', st, I', e⟩ := h
    exact ⟨fa', O', s', st.trans (D6 hpn).stp, I'.new hpn, e⟩
   have hd : (List.zipWith F3 xs1 ys1)[i]? = some (F3 dx dy) := by rw [List.getElem?_zipWith, hdx, hdy]
   refine a1G k1 hd (fun fa' O' st => ?_) h'
   simp only [F3, Rep, Reps]
   exact ⟨p, [x, y], rfl, SqT.of A9, _, _, rfl, Rep.stp I1 st rx, _, _, rfl, Rep.stp I1 st ry, rfl⟩
  ·intro σ' H' h
   refine a1D k1 ?_ h
   rw [List.length_zipWith, w1.length, w2.length]
   exact Nat.le_refl _
end
end DL
namespace DL
open PySem PySem.Spec L2
noncomputable def a6N : DM := fun _ => none
theorem a8a {X : Cx} {g : Gh} {st : Stmt} : SO X g st a6N := ⟨fun _ _ _ _ _ _ ⟨_, _, _, _, _, _, q, _⟩ => by cases q⟩
theorem on1 {α : Type _} {P : List α → Prop} (h : ∀ a1 : α, P [a1]) : ∀ us : List α, us.length = 1 → P us := by
 intro us e
 match us, e with | [a1], _ => exact h a1
theorem on2 {α : Type _} {P : List α → Prop} (h : ∀ a1 a2 : α, P [a1, a2]) : ∀ us : List α, us.length = 2 → P us := by
 intro us e
 match us, e with | [a1, a2], _ => exact h a1 a2
theorem on3 {α : Type _} {P : List α → Prop} (h : ∀ a1 a2 a3 : α, P [a1, a2, a3]) : ∀ us : List α, us.length = 3 → P us := by
 intro us e
 match us, e with | [a1, a2, a3], _ => exact h a1 a2 a3
structure GF (K : PySem.W.Frag) (mg : Str → Option Value) (n : Str) (st : Stmt) (f : Addr) (fd : FuncData) : Prop where
 F : Fun K n n st f fd
 m : mg n = some (.ref f)
section
variable {K : PySem.W.Frag} {h : Heap} {mg : Str → Option Value} {n : Str} {st : Stmt} {f : Addr} {fd : FuncData}
theorem gf_mk (X : K.In h) (G : h.Ns mainGlobals mg) {oc : Value} {od an : Option Addr} {osl : Array (Option Value)} {kV doc pm cdv ct : Value} (a : PySem.W.nsIn K mainGlobals n = some (some (.ref f))) (l : K.lookup f = some ⟨oc, od, .func (PySem.W.fnOf n n (S6 st) (J7 st) (l7 st) .none kV doc pm an cdv ct), osl⟩)
  (c : PySem.W.codeIn K cdv n = true) (k : PySem.W.keepIn K (.ref f) = true) : GF K mg n st f (PySem.W.fnOf n n (S6 st) (J7 st) (l7 st) .none kV doc pm an cdv ct) := ⟨b0x l c k, PySem.W.mg_of X G a⟩
theorem a9G {x : Str} (F : Fun K n n st f fd) (q : ∀ (kV doc pm : Value) (an : Option Addr) (cdv ct : Value) (s : Shared) (v : Value), BindsTo s (PySem.W.fnOf n n (S6 st) (J7 st) (l7 st) .none kV doc pm an cdv ct) ⟨[v], []⟩ [(x, v)]) : ∀ (s : Shared) (v : Value), BindsTo s fd ⟨[v], []⟩ [(x, v)] := by
 obtain ⟨oc, od, kV, doc, pm, an, cdv, ct, osl, rfl, lk, hcd⟩ := F.ex
 exact fun s v => q kV doc pm an cdv ct s v
theorem blt_mk (X : K.In h) (G : h.Ns mainGlobals mg) (z0 : PySem.W.nsIn K mainGlobals "len" = some none) (z1 : PySem.W.nsIn K mainGlobals "range" = some none) (z2 : PySem.W.nsIn K mainGlobals "abs" = some none) (z3 : PySem.W.nsIn K mainGlobals "tuple" = some none) (z4 : PySem.W.nsIn K mainGlobals "list" = some none) (z5 : PySem.W.nsIn K mainGlobals "int" = some none) (z6 : PySem.W.nsIn K mainGlobals "bool" = some none) (z7 : PySem.W.nsIn K mainGlobals "str" = some none) (z8 : PySem.W.nsIn K mainGlobals "repr" = some none) (z9 : PySem.W.nsIn K mainGlobals "all" = some none) (z10 : PySem.W.nsIn K mainGlobals "isinstance" = some none) (z11 : PySem.W.nsIn K mainGlobals "zip" = some none) (z12 : PySem.W.nsIn K mainGlobals "enumerate" = some none) (z13 : PySem.W.nsIn K mainGlobals "min" = some none) (z14 : PySem.W.nsIn K mainGlobals "max" = some none) (z15 : PySem.W.nsIn K mainGlobals "reversed" = some none) (z16 : PySem.W.nsIn K mainGlobals "any" = some none) (z17 : PySem.W.nsIn K mainGlobals "sum" = some none) (z18 : PySem.W.nsIn K mainGlobals "sorted" = some none) : Blt mg := ⟨PySem.W.mg_none_of X G z0, PySem.W.mg_none_of X G z1, PySem.W.mg_none_of X G z2, PySem.W.mg_none_of X G z3, PySem.W.mg_none_of X G z4, PySem.W.mg_none_of X G z5, PySem.W.mg_none_of X G z6, PySem.W.mg_none_of X G z7, PySem.W.mg_none_of X G z8, PySem.W.mg_none_of X G z9, PySem.W.mg_none_of X G z10, PySem.W.mg_none_of X G z11, PySem.W.mg_none_of X G z12, PySem.W.mg_none_of X G z13, PySem.W.mg_none_of X G z14, PySem.W.mg_none_of X G z15, PySem.W.mg_none_of X G z16, PySem.W.mg_none_of X G z17, PySem.W.mg_none_of X G z18⟩
theorem o7 {P : Program} {w : World} {base : Heap} {N ps : List Str} {k : Nat} {b : DM} (F : GF K mg n st f fd) (q : ∀ (kV doc pm : Value) (an : Option Addr) (cdv ct : Value) (us : List Value), us.length = ps.length → bindArgs (PySem.W.fnOf n n (S6 st) (J7 st) (l7 st) .none kV doc pm an cdv ct) ⟨us, []⟩ = pure (ps.zip us)) (S : FnScope N ps (l7 st))
  (hbody : ∀ (cdv : Value) (A : Around) (outer : List Env) (s : Shared) (H : Hp) (E : XK) (g : Gh), Room k (A.deeper (PyProof.Rows.envOfC n (l7 st) s.heap.objs.size f cdv)) → SSO (O6 CX0 P w K mg base N n (l7 st) f cdv A outer s H E).nox g (J7 st) b) :
  Cal P w K mg base (k + 1) n ps (mFn N.length b) := b0y F.F F.m (F.F.binds q) S hbody
end
end DL
namespace T
open PySem PySem.Spec L2 DL
noncomputable abbrev a8d : DM := (i4 (j5 (dOp y4 (dL 2) (dL 3)) (e7 4)) (i4 (j5 (dV 3) (e7 2)) (j5 (dV 4) (e7 3))))
noncomputable def a1J : DM := (i4 (j5 (dCB (one T4) (a7 (dL 0) a8)) (e7 2)) (i4 (j5 (dCB (one T4) (a7 (dL 1) a8)) (e7 3)) (i4 (A8 (dB (dOp pNe (dL 3) (dC (.int 0)))) (a8d)) (k0 (dV 2)))))
noncomputable def o9 : DFn := mFn 5 (a1J)
noncomputable abbrev a0i (m_divisor_of_two : DFn) : DM := (j5 (c9 m_divisor_of_two (a7 (dV 1) (a7 (dV 2) a8))) (e7 1))
noncomputable def a4d (m_divisor_of_two : DFn) : DM := (i4 (j5 (dC (.int 0)) (e7 1)) (i4 (G9 (dV 0) (e7 2) (a0i m_divisor_of_two)) (k0 (dV 1))))
noncomputable def A4 (m_divisor_of_two : DFn) : DFn := mFn 3 (a4d m_divisor_of_two)
noncomputable def a4s (m_divisor : DFn) : DM := (i4 (j5 (c9 m_divisor (a7 (dV 0) a8)) (e7 1)) (i4 (n0 (dB (dOp (n8 (fun i j => decide (i < j))) (dOp pIx (dL 0) (dUn t7 (dC (.int 1)))) (dC (.int 0)))) (j5 (dUn t7 (dL 1)) (e7 1)) o8) (k0 (dCB (one D5) (a7 (p7 (F2 [1] (E8 (dV 0)) w8 (dOp u8 (dL 0) (dL 1)))) a8)))))
noncomputable def C3 (m_divisor : DFn) : DFn := mFn 2 (a4s m_divisor)
noncomputable def a5v (m_lowest : DFn) : DM := (k0 (c9 m_lowest (a7 (e8 (a7 (dV 0) (a7 (dV 1) a8))) a8)))
noncomputable def E6 (m_lowest : DFn) : DFn := mFn 2 (a5v m_lowest)
noncomputable def a3I (m_divisor_of_two : DFn) : DM := (i4 (j5 (c9 m_divisor_of_two (a7 (dOp pIx (dL 0) (dC (.int 1))) (a7 (dOp pIx (dL 1) (dC (.int 1))) a8))) (e7 2)) (i4 (j5 (dOp n9 (dOp l4 (dOp pIx (dL 0) (dC (.int 0))) (dOp u8 (dOp pIx (dL 1) (dC (.int 1))) (dL 2))) (dOp l4 (dOp pIx (dL 1) (dC (.int 0))) (dOp u8 (dOp pIx (dL 0) (dC (.int 1))) (dL 2)))) (e7 3)) (i4 (j5 (c9 m_divisor_of_two (a7 (dV 3) (a7 (dV 2) a8))) (e7 4)) (k0 (e8 (a7 (dOp u8 (dL 3) (dL 4)) (a7 (dOp l4 (dOp u8 (dOp pIx (dL 0) (dC (.int 1))) (dL 2)) (dOp u8 (dOp pIx (dL 1) (dC (.int 1))) (dL 4))) a8)))))))
noncomputable def D7 (m_divisor_of_two : DFn) : DFn := mFn 5 (a3I m_divisor_of_two)
noncomputable def a3D (m_fraction : DFn) : DM := (k0 (c9 m_fraction (a7 (dOp l4 (dOp pIx (dL 0) (dC (.int 0))) (dOp pIx (dL 1) (dC (.int 0)))) (a7 (dOp l4 (dOp pIx (dL 0) (dC (.int 1))) (dOp pIx (dL 1) (dC (.int 1)))) a8))))
noncomputable def a1b (m_fraction : DFn) : DFn := mFn 2 (a3D m_fraction)
noncomputable def a2y (m_plus : DFn) : DM := (k0 (c9 m_plus (a7 (dV 0) (a7 (e8 (a7 (dUn t7 (dOp pIx (dL 1) (dC (.int 0)))) (a7 (dOp pIx (dL 1) (dC (.int 1))) a8))) a8))))
noncomputable def W9 (m_plus : DFn) : DFn := mFn 2 (a2y m_plus)
noncomputable def a2d : DM := (k0 (dOp (n8 (fun i j => decide (i < j))) (dOp l4 (dOp pIx (dL 0) (dC (.int 0))) (dOp pIx (dL 1) (dC (.int 1)))) (dOp l4 (dOp pIx (dL 1) (dC (.int 0))) (dOp pIx (dL 0) (dC (.int 1))))))
noncomputable def w6 : DFn := mFn 2 (a2d)
noncomputable def a1Y (m_lowest : DFn) : DM := (k0 (c9 m_lowest (a7 (e8 (a7 (dOp l4 (dOp pIx (dL 0) (dC (.int 0))) (dOp pIx (dL 1) (dC (.int 1)))) (a7 (dOp l4 (dOp pIx (dL 1) (dC (.int 0))) (dOp pIx (dL 0) (dC (.int 1)))) (a7 (dOp l4 (dOp pIx (dL 0) (dC (.int 1))) (dOp pIx (dL 1) (dC (.int 1)))) a8)))) a8)))
noncomputable def P0 (m_lowest : DFn) : DFn := mFn 2 (a1Y m_lowest)
noncomputable def a1N (m_fraction : DFn) : DM := (k0 (c9 m_fraction (a7 (dOp pIx (dL 0) (dC (.int 0))) (a7 (dOp pIx (dL 0) (dC (.int 2))) a8))))
noncomputable def N8 (m_fraction : DFn) : DFn := mFn 1 (a1N m_fraction)
noncomputable def a31 (m_fraction : DFn) : DM := (k0 (c9 m_fraction (a7 (dOp pIx (dL 0) (dC (.int 1))) (a7 (dOp pIx (dL 0) (dC (.int 2))) a8))))
noncomputable def P5 (m_fraction : DFn) : DFn := mFn 1 (a31 m_fraction)
noncomputable def a2I (m_fraction : DFn) : DM := (i4 (j5 (dOp v8 (dOp l4 (dOp pIx (dL 0) (dC (.int 0))) (dOp pIx (dL 1) (dC (.int 2)))) (dOp l4 (dOp pIx (dL 1) (dC (.int 0))) (dOp pIx (dL 0) (dC (.int 2))))) (e7 2)) (i4 (j5 (dOp v8 (dOp l4 (dOp pIx (dL 0) (dC (.int 1))) (dOp pIx (dL 1) (dC (.int 2)))) (dOp l4 (dOp pIx (dL 1) (dC (.int 1))) (dOp pIx (dL 0) (dC (.int 2))))) (e7 3)) (i4 (j5 (dOp l4 (dOp pIx (dL 0) (dC (.int 2))) (dOp pIx (dL 1) (dC (.int 2)))) (e7 4)) (k0 (c9 m_fraction (a7 (dOp n9 (dOp l4 (dL 2) (dL 2)) (dOp l4 (dL 3) (dL 3))) (a7 (dOp l4 (dL 4) (dL 4)) a8)))))))
noncomputable def L8 (m_fraction : DFn) : DFn := mFn 5 (a2I m_fraction)
noncomputable def a1j : DM := (i4 (n0 (dTr (dL 1)) (k0 (p7 (dCF Y5 (a7 (dL 0) (a7 (dOp n9 (dSl (dL 0) (dAt (dC (.int 1))) dNo) (dSl (dL 0) dNo (dAt (dC (.int 1))))) a8))))) o8) (k0 (p7 (dCF Y5 (a7 (dL 0) (a7 (dSl (dL 0) (dAt (dC (.int 1))) dNo) a8))))))
noncomputable def J9 : DFn := mFn 2 (a1j)
noncomputable def a30 (m_neighbours : DFn) : DM := (k0 (dCB (one D5) (a7 (c9 m_neighbours (a7 (dOp pIx (dL 0) (dC (.int 1))) (a7 (dOp pIx (dL 0) (dC (.int 0))) a8))) a8)))
noncomputable def M5 (m_neighbours : DFn) : DFn := mFn 1 (a30 m_neighbours)
noncomputable abbrev b0X : DM := (i4 (j5 (dOp l4 (dL 1) (dC (.int 2))) (e7 1)) (j5 (dOp u8 (dL 2) (dC (.int 4))) (e7 2)))
noncomputable def a2c : DM := (i4 (j5 (dC (.int 1)) (e7 1)) (i4 (j5 (dV 0) (e7 2)) (i4 (A8 (dB (dOp (n8 (fun i j => decide (j < i))) (dL 2) (dC (.int 0)))) (b0X)) (k0 (dV 1)))))
noncomputable def G3 : DFn := mFn 3 (a2c)
noncomputable abbrev a83 (m_above_root : DFn) : DM := (i4 (j5 (dV 2) (e7 1)) (j5 (dOp u8 (dOp n9 (dL 1) (dOp u8 (dL 0) (dL 1))) (dC (.int 2))) (e7 2)))
noncomputable def Z4 (m_above_root : DFn) : DM := (i4 (n0 (dB (dOp pEq (dL 0) (dC (.int 0)))) (k0 (dC (.int 0))) o8) (i4 (j5 (c9 m_above_root (a7 (dV 0) a8)) (e7 1)) (i4 (j5 (dOp u8 (dOp n9 (dL 1) (dOp u8 (dL 0) (dL 1))) (dC (.int 2))) (e7 2)) (i4 (A8 (dB (dOp (n8 (fun i j => decide (i < j))) (dL 2) (dL 1))) (a83 m_above_root)) (k0 (dV 1))))))
noncomputable def M0 (m_above_root : DFn) : DFn := mFn 3 (Z4 m_above_root)
noncomputable def a4t (m_root_below : DFn) : DM := (i4 (n0 (dB (dOp (n8 (fun i j => decide (i < j))) (dOp pIx (dL 0) (dC (.int 0))) (dC (.int 0)))) (k0 (dC .non)) o8) (i4 (j5 (c9 m_root_below (a7 (dOp pIx (dL 0) (dC (.int 0))) a8)) (e7 1)) (i4 (j5 (c9 m_root_below (a7 (dOp pIx (dL 0) (dC (.int 1))) a8)) (e7 2)) (i4 (n0 (dOr (dB (dOp pNe (dOp l4 (dL 1) (dL 1)) (dOp pIx (dL 0) (dC (.int 0))))) (dB (dOp pNe (dOp l4 (dL 2) (dL 2)) (dOp pIx (dL 0) (dC (.int 1)))))) (k0 (dC .non)) o8) (k0 (e8 (a7 (dV 1) (a7 (dV 2) a8))))))))
noncomputable def P4 (m_root_below : DFn) : DFn := mFn 3 (a4t m_root_below)
noncomputable def a66 (m_pieces : DFn) (m_root : DFn) (m_squared : DFn) : DM := (k0 (dCB (one D5) (a7 (p7 (K3 [] (E8 (c9 m_pieces (a7 (dV 0) a8))) w8 (c9 m_root (a7 (c9 m_squared (a7 (dV 0) (a7 (dV 1) a8))) a8)))) a8)))
noncomputable def S7 (m_pieces : DFn) (m_root : DFn) (m_squared : DFn) : DFn := mFn 1 (a66 m_pieces m_root m_squared)
noncomputable def a26 : DM := (k0 (dTN 0))
noncomputable def U7 : DFn := mFn 1 (a26)
noncomputable def U3 : DM := (i4 (n0 (dB (dOp (n8 (fun i j => decide (j < i))) (dTG 0 2) (dC (.int 0)))) (i4 (j5 (dOp y4 (dTG 0 2) (dL 1)) (e7 2)) (i4 (dTP 0 2 (dOp u8 (dTG 0 2) (dL 1))) (k0 (dV 2)))) o8) (i4 (j5 (dTG 0 1) (e7 3)) (i4 (dTP 0 1 (dOp n9 (dL 3) (dC (.int 1)))) (i4 (j5 (dC (.int 0)) (e7 4)) (i4 (n0 (dB (dOp (n8 (fun i j => decide (j < i))) (dCB (one u3) (a7 (dTG 0 0) a8)) (dC (.int 0)))) (j5 (dOp pIx (dTG 0 0) (dOp y4 (dL 3) (dCB (one u3) (a7 (dTG 0 0) a8)))) (e7 4)) o8) (i4 (n0 (A6 (dB (dOp (n8 (fun i j => decide (j ≤ i))) (dL 4) (dOp U6 (dC (.int 10)) (dC (.int 18))))) (dB (dOp (n8 (fun i j => decide (i < j))) (dL 3) (dCB (one u3) (a7 (dTG 0 0) a8))))) (i4 (dTP 0 2 (dOp u8 (dL 4) (dL 1))) (k0 (dOp y4 (dL 4) (dL 1)))) o8) (i4 (j5 (dOp y4 (dOp l4 (dOp n9 (dOp n9 (dOp y4 (dL 4) (dC (.int 1000033))) (dOp l4 (dOp l4 (dC (.int 37)) (dL 3)) (dL 3))) (dC (.int 11))) (dC (.int 69621))) (dC (.int 999983))) (e7 5)) (k0 (dOp y4 (dOp u8 (dOp y4 (dOp l4 (dOp y4 (dOp n9 (dOp l4 (dL 5) (dC (.int 48271))) (dOp l4 (dL 3) (dC (.int 6007)))) (dC (.int 999979))) (dC (.int 40692))) (dC (.int 1048573))) (dC (.int 64))) (dL 1))))))))))
noncomputable def L3 : DFn := mFn 6 (U3)
noncomputable abbrev b4e : DM := (C1 0 1 (a7 (dV 1) (a7 (dOp y4 (dL 0) (dL 1)) a8)))
noncomputable def a3o : DM := (i4 (C1 0 1 (a7 (dCB (one T4) (a7 (dL 0) a8)) (a7 (dCB (one T4) (a7 (dL 1) a8)) a8))) (i4 (A8 (dB (dOp (n8 (fun i j => decide (j < i))) (dL 1) (dC (.int 0)))) (b4e)) (k0 (dV 0))))
noncomputable def F9 : DFn := mFn 2 (a3o)
noncomputable def a34 (m_law_divisor : DFn) : DM := (i4 (j5 (c9 m_law_divisor (a7 (dV 0) (a7 (dV 1) a8))) (e7 2)) (i4 (n0 (dB (dOp (n8 (fun i j => decide (i < j))) (dL 1) (dC (.int 0)))) (j5 (dUn t7 (dL 2)) (e7 2)) o8) (k0 (e8 (a7 (dOp u8 (dL 0) (dL 2)) (a7 (dOp u8 (dL 1) (dL 2)) a8))))))
noncomputable def G8 (m_law_divisor : DFn) : DFn := mFn 3 (a34 m_law_divisor)
noncomputable def a4z (m_law_draw : DFn) : DM := (i4 (B5 1 (p9 (a7 (e8 (a7 (dC (.int 0)) (a7 (dC (.int 1)) a8))) (a7 (e8 (a7 (dC (.int 1)) (a7 (dC (.int 1)) a8))) (a7 (e8 (a7 (dUn t7 (dC (.int 1))) (a7 (dC (.int 2)) a8))) (a7 (e8 (a7 (dC (.int 5)) (a7 (dC (.int 3)) a8))) (a7 (e8 (a7 (dUn t7 (dC (.int 7))) (a7 (dC (.int 1)) a8))) (a7 (e8 (a7 (dC (.int 3)) (a7 (dC (.int 2)) a8))) a8)))))))) (i4 (j5 (dOp pIx (dL 1) (c9 m_law_draw (a7 (dV 0) (a7 (dC (.int 6)) a8)))) (e7 2)) (k0 (e8 (a7 (dV 2) (a7 (dOp pIx (dL 1) (c9 m_law_draw (a7 (dV 0) (a7 (dC (.int 6)) a8)))) a8))))))
noncomputable def a1a (m_law_draw : DFn) : DFn := mFn 3 (a4z m_law_draw)
noncomputable def b2i (m_law_low : DFn) : DM := (k0 (c9 m_law_low (a7 (dOp l4 (dOp pIx (dL 0) (dC (.int 0))) (dOp pIx (dL 1) (dC (.int 0)))) (a7 (dOp l4 (dOp pIx (dL 0) (dC (.int 1))) (dOp pIx (dL 1) (dC (.int 1)))) a8))))
noncomputable def U8 (m_law_low : DFn) : DFn := mFn 2 (b2i m_law_low)
noncomputable def a4k (m_law_divisor : DFn) : DM := (i4 (j5 (e8 (a7 (dOp l4 (dOp pIx (dL 0) (dC (.int 0))) (dOp pIx (dL 1) (dC (.int 1)))) (a7 (dOp l4 (dOp pIx (dL 1) (dC (.int 0))) (dOp pIx (dL 0) (dC (.int 1)))) (a7 (dOp l4 (dOp pIx (dL 0) (dC (.int 1))) (dOp pIx (dL 1) (dC (.int 1)))) a8)))) (e7 2)) (i4 (j5 (c9 m_law_divisor (a7 (c9 m_law_divisor (a7 (dOp pIx (dL 2) (dC (.int 0))) (a7 (dOp pIx (dL 2) (dC (.int 1))) a8))) (a7 (dOp pIx (dL 2) (dC (.int 2))) a8))) (e7 3)) (k0 (dCB (one D5) (a7 (p7 (F2 [3] (E8 (dV 2)) w8 (dOp u8 (dL 0) (dL 1)))) a8)))))
noncomputable def a1n (m_law_divisor : DFn) : DFn := mFn 4 (a4k m_law_divisor)
noncomputable def a8Z (m_law_low : DFn) : DM := (k0 (c9 m_law_low (a7 (dOp n9 (dOp l4 (dOp pIx (dL 0) (dC (.int 0))) (dOp pIx (dL 1) (dC (.int 1)))) (dOp l4 (dOp pIx (dL 1) (dC (.int 0))) (dOp pIx (dL 0) (dC (.int 1))))) (a7 (dOp l4 (dOp pIx (dL 0) (dC (.int 1))) (dOp pIx (dL 1) (dC (.int 1)))) a8))))
noncomputable def W7 (m_law_low : DFn) : DFn := mFn 2 (a8Z m_law_low)
noncomputable abbrev a0Y (m_law_spot : DFn) (m_law_plus : DFn) (m_law_product : DFn) (m_law_start : DFn) (m_law_draw : DFn) : DM := (i4 (j5 (c9 m_law_product (a7 (dV 7) (a7 (e8 (a7 (dOp v8 (dOp l4 (dL 11) (dL 4)) (dOp l4 (dL 12) (dL 5))) (a7 (dV 6) a8))) a8))) (e7 13)) (i4 (j5 (c9 m_law_product (a7 (dV 7) (a7 (e8 (a7 (dOp n9 (dOp l4 (dL 11) (dL 5)) (dOp l4 (dL 12) (dL 4))) (a7 (dV 6) a8))) a8))) (e7 14)) (F4 10 (c9 m_law_spot (a7 (c9 m_law_plus (a7 (dV 8) (a7 (dV 13) a8))) (a7 (c9 m_law_plus (a7 (dV 9) (a7 (dV 14) a8))) a8))))))
noncomputable def a4j (m_law_spot : DFn) (m_law_plus : DFn) (m_law_product : DFn) (m_law_start : DFn) (m_law_draw : DFn) : DM := (i4 (B5 1 (p9 (a7 (e8 (a7 (e8 (a7 (dC (.int 0)) (a7 (dC (.int 0)) a8))) (a7 (e8 (a7 (dC (.int 4)) (a7 (dC (.int 0)) a8))) (a7 (e8 (a7 (dC (.int 0)) (a7 (dC (.int 3)) a8))) a8)))) (a7 (e8 (a7 (e8 (a7 (dC (.int 0)) (a7 (dC (.int 0)) a8))) (a7 (e8 (a7 (dC (.int 14)) (a7 (dC (.int 0)) a8))) (a7 (e8 (a7 (dC (.int 5)) (a7 (dC (.int 12)) a8))) a8)))) (a7 (e8 (a7 (e8 (a7 (dC (.int 0)) (a7 (dC (.int 0)) a8))) (a7 (e8 (a7 (dC (.int 2)) (a7 (dC (.int 0)) a8))) (a7 (e8 (a7 (dC (.int 2)) (a7 (dC (.int 2)) a8))) (a7 (e8 (a7 (dC (.int 0)) (a7 (dC (.int 2)) a8))) a8))))) a8))))) (i4 (B5 1 (M7 S9 (dL 1) (p7 (p9 (a7 (e8 (a7 (e8 (a7 (dC (.int 0)) (a7 (dC (.int 0)) a8))) (a7 (e8 (a7 (dC (.int 3)) (a7 (dC (.int 4)) a8))) (a7 (e8 (a7 (dC (.int 3)) (a7 (dC (.int 0)) a8))) (a7 (e8 (a7 (dC (.int 0)) (a7 (dC (.int 4)) a8))) a8))))) (a7 (e8 (a7 (e8 (a7 (dC (.int 0)) (a7 (dC (.int 0)) a8))) (a7 (e8 (a7 (dC (.int 5)) (a7 (dC (.int 0)) a8))) (a7 (e8 (a7 (dC (.int 0)) (a7 (dC (.int 0)) a8))) (a7 (e8 (a7 (dC (.int 3)) (a7 (dC (.int 4)) a8))) a8))))) a8)))))) (i4 (B5 1 (M7 S9 (dL 1) (p7 (p9 (a7 (e8 (a7 (e8 (a7 (dC (.int 0)) (a7 (dC (.int 0)) a8))) (a7 (e8 (a7 (dC (.int 3)) (a7 (dC (.int 0)) a8))) (a7 (e8 (a7 (dC (.int 3)) (a7 (dC (.int 4)) a8))) (a7 (e8 (a7 (dC (.int 6)) (a7 (dC (.int 8)) a8))) (a7 (e8 (a7 (dC (.int 0)) (a7 (dC (.int 8)) a8))) (a7 (e8 (a7 (dC (.int 3)) (a7 (dC (.int 4)) a8))) a8))))))) a8))))) (i4 (B5 1 (M7 S9 (dL 1) (p7 (p9 (a7 (e8 (a7 (e8 (a7 (dC (.int 0)) (a7 (dC (.int 0)) a8))) (a7 (e8 (a7 (dC (.int 6)) (a7 (dC (.int 0)) a8))) (a7 (e8 (a7 (dC (.int 6)) (a7 (dC (.int 2)) a8))) (a7 (e8 (a7 (dC (.int 2)) (a7 (dC (.int 2)) a8))) (a7 (e8 (a7 (dC (.int 2)) (a7 (dC (.int 4)) a8))) (a7 (e8 (a7 (dC (.int 6)) (a7 (dC (.int 4)) a8))) (a7 (e8 (a7 (dC (.int 6)) (a7 (dC (.int 6)) a8))) (a7 (e8 (a7 (dC (.int 0)) (a7 (dC (.int 6)) a8))) a8))))))))) a8))))) (i4 (j5 (dOp pIx (dL 1) (c9 m_law_draw (a7 (dV 0) (a7 (dC (.int 7)) a8)))) (e7 2)) (i4 (j5 (c9 m_law_draw (a7 (dV 0) (a7 (dCB (one u3) (a7 (dL 2) a8)) a8))) (e7 3)) (i4 (j5 (a1h (dOp n9 (dSl (dL 2) (dAt (dL 3)) dNo) (dSl (dL 2) dNo (dAt (dL 3)))) (dOp v8 (dC (.int 1)) (dOp l4 (dC (.int 2)) (c9 m_law_draw (a7 (dV 0) (a7 (dC (.int 2)) a8)))))) (e7 2)) (i4 (j5 (dOp pIx (p7 (p9 (a7 (e8 (a7 (dC (.int 1)) (a7 (dC (.int 0)) (a7 (dC (.int 1)) a8)))) (a7 (e8 (a7 (dC (.int 0)) (a7 (dC (.int 1)) (a7 (dC (.int 1)) a8)))) (a7 (e8 (a7 (dC (.int 3)) (a7 (dC (.int 4)) (a7 (dC (.int 5)) a8)))) (a7 (e8 (a7 (dUn t7 (dC (.int 4))) (a7 (dC (.int 3)) (a7 (dC (.int 5)) a8)))) (a7 (e8 (a7 (dC (.int 5)) (a7 (dC (.int 12)) (a7 (dC (.int 13)) a8)))) a8))))))) (c9 m_law_draw (a7 (dV 0) (a7 (dC (.int 5)) a8)))) (u5 3 (m8 (e7 4) (m8 (e7 5) (m8 (e7 6) u6))))) (i4 (j5 (dOp pIx (p7 (p9 (a7 (e8 (a7 (dC (.int 1)) (a7 (dC (.int 1)) a8))) (a7 (e8 (a7 (dC (.int 1)) (a7 (dC (.int 2)) a8))) (a7 (e8 (a7 (dC (.int 3)) (a7 (dC (.int 1)) a8))) a8))))) (c9 m_law_draw (a7 (dV 0) (a7 (dC (.int 3)) a8)))) (e7 7)) (i4 (j5 (c9 m_law_start (a7 (dV 0) a8)) (u5 2 (m8 (e7 8) (m8 (e7 9) u6)))) (i4 (B5 10 (p9 a8)) (i4 (G9 (dV 2) (u5 2 (m8 (e7 11) (m8 (e7 12) u6))) (a0Y m_law_spot m_law_plus m_law_product m_law_start m_law_draw)) (k0 (e8 (a7 (dC (.bl true)) (a7 (dCB (one D5) (a7 (dL 10) a8)) a8))))))))))))))))
noncomputable def a2l (m_law_spot : DFn) (m_law_plus : DFn) (m_law_product : DFn) (m_law_start : DFn) (m_law_draw : DFn) : DFn := mFn 15 (a4j m_law_spot m_law_plus m_law_product m_law_start m_law_draw)
noncomputable abbrev a3t (m_law_draw : DFn) : DM := (B5 7 (M7 S9 (dL 7) (p7 (p9 (a7 (e8 (a7 (dV 8) (a7 (dV 9) (a7 (dV 6) a8)))) (a7 (e8 (a7 (dUn t7 (dL 9)) (a7 (dV 8) (a7 (dV 6) a8)))) (a7 (e8 (a7 (dUn t7 (dL 8)) (a7 (dUn t7 (dL 9)) (a7 (dV 6) a8)))) (a7 (e8 (a7 (dV 9) (a7 (dUn t7 (dL 8)) (a7 (dV 6) a8)))) a8))))))))
noncomputable def a0A (m_law_draw : DFn) : DM := (i4 (j5 (dOp pIx (p7 (p9 (a7 (dC (.int 1)) (a7 (dC (.int 1)) (a7 (dC (.int 1)) (a7 (dC (.int 1)) (a7 (dC (.int 1)) (a7 (dC (.int 1)) (a7 (dC (.int 1)) (a7 (dOp U6 (dC (.int 10)) (dC (.int 12))) a8)))))))))) (c9 m_law_draw (a7 (dV 0) (a7 (dC (.int 8)) a8)))) (e7 1)) (i4 (j5 (c9 m_law_draw (a7 (dV 0) (a7 (dC (.int 5)) a8))) (e7 2)) (i4 (n0 (dB (dOp pEq (dL 2) (dC (.int 0)))) (i4 (B5 3 (p9 (a7 (e8 (a7 (dC (.int 1)) (a7 (dC (.int 1)) a8))) (a7 (e8 (a7 (dC (.int 2)) (a7 (dC (.int 1)) a8))) (a7 (e8 (a7 (dC (.int 1)) (a7 (dC (.int 2)) a8))) (a7 (e8 (a7 (dC (.int 40)) (a7 (dC (.int 1)) a8))) (a7 (e8 (a7 (dC (.int 7)) (a7 (dC (.int 3)) a8))) a8))))))) (k0 (e8 (a7 (p7 (p9 (a7 (e8 (a7 (dC (.int 1)) (a7 (dC (.int 0)) (a7 (dC (.int 1)) a8)))) (a7 (e8 (a7 (dC (.int 0)) (a7 (dC (.int 1)) (a7 (dC (.int 1)) a8)))) (a7 (e8 (a7 (dUn t7 (dC (.int 1))) (a7 (dC (.int 0)) (a7 (dC (.int 1)) a8)))) (a7 (e8 (a7 (dC (.int 0)) (a7 (dUn t7 (dC (.int 1))) (a7 (dC (.int 1)) a8)))) a8)))))) (a7 (p7 (K3 [1] (E8 (dV 3)) w8 (e8 (a7 (dOp l4 (dL 2) (dL 0)) (a7 (dV 1) a8))))) a8))))) o8) (i4 (j5 (dOp pIx (p7 (p9 (a7 (e8 (a7 (dC (.int 3)) (a7 (dC (.int 4)) (a7 (dC (.int 5)) a8)))) (a7 (e8 (a7 (dC (.int 3)) (a7 (dC (.int 4)) (a7 (dC (.int 5)) a8)))) (a7 (e8 (a7 (dC (.int 5)) (a7 (dC (.int 12)) (a7 (dC (.int 13)) a8)))) (a7 (e8 (a7 (dC (.int 8)) (a7 (dC (.int 15)) (a7 (dC (.int 17)) a8)))) a8)))))) (dOp v8 (dL 2) (dC (.int 1)))) (u5 3 (m8 (e7 4) (m8 (e7 5) (m8 (e7 6) u6))))) (i4 (B5 7 (p9 (a7 (e8 (a7 (dV 6) (a7 (dC (.int 0)) (a7 (dV 6) a8)))) (a7 (e8 (a7 (dC (.int 0)) (a7 (dV 6) (a7 (dV 6) a8)))) (a7 (e8 (a7 (dUn t7 (dL 6)) (a7 (dC (.int 0)) (a7 (dV 6) a8)))) (a7 (e8 (a7 (dC (.int 0)) (a7 (dUn t7 (dL 6)) (a7 (dV 6) a8)))) a8)))))) (i4 (G9 (p7 (p9 (a7 (e8 (a7 (dV 4) (a7 (dV 5) a8))) (a7 (e8 (a7 (dV 5) (a7 (dV 4) a8))) a8)))) (u5 2 (m8 (e7 8) (m8 (e7 9) u6))) (a3t m_law_draw)) (k0 (e8 (a7 (dV 7) (a7 (p7 (K3 [1] (E8 (p7 (p9 (a7 (e8 (a7 (dV 6) (a7 (dC (.int 1)) a8))) (a7 (e8 (a7 (dC (.int 1)) (a7 (dC (.int 1)) a8))) (a7 (e8 (a7 (dV 6) (a7 (dC (.int 2)) a8))) (a7 (e8 (a7 (dC (.int 2)) (a7 (dC (.int 1)) a8))) a8))))))) w8 (e8 (a7 (dOp l4 (dL 2) (dL 0)) (a7 (dV 1) a8))))) a8))))))))))
noncomputable def a2X (m_law_draw : DFn) : DFn := mFn 10 (a0A m_law_draw)
noncomputable abbrev a1F (m_law_spot : DFn) (m_law_plus : DFn) (m_law_product : DFn) (m_law_draw : DFn) (m_law_start : DFn) (m_law_menu : DFn) : DM := (i4 (B5 9 (F2 [7] (E8 (dV 2)) (dB (dOp pNe (dL 0) (dL 1))) (dV 0))) (i4 (j5 (dOp pIx (dL 9) (c9 m_law_draw (a7 (dV 0) (a7 (dCB (one u3) (a7 (dL 9) a8)) a8)))) (e7 7)) (i4 (j5 (dOp pIx (dL 3) (c9 m_law_draw (a7 (dV 0) (a7 (dCB (one u3) (a7 (dL 3) a8)) a8)))) (e7 10)) (i4 (j5 (c9 m_law_plus (a7 (dV 4) (a7 (c9 m_law_product (a7 (dV 10) (a7 (e8 (a7 (dOp pIx (dL 7) (dC (.int 0))) (a7 (dOp pIx (dL 7) (dC (.int 2))) a8))) a8))) a8))) (e7 4)) (i4 (j5 (c9 m_law_plus (a7 (dV 5) (a7 (c9 m_law_product (a7 (dV 10) (a7 (e8 (a7 (dOp pIx (dL 7) (dC (.int 1))) (a7 (dOp pIx (dL 7) (dC (.int 2))) a8))) a8))) a8))) (e7 5)) (F4 6 (c9 m_law_spot (a7 (dV 4) (a7 (dV 5) a8)))))))))
noncomputable def a2H (m_law_spot : DFn) (m_law_plus : DFn) (m_law_product : DFn) (m_law_draw : DFn) (m_law_start : DFn) (m_law_menu : DFn) : DM := (i4 (j5 (c9 m_law_menu (a7 (dV 0) a8)) (u5 2 (m8 (e7 2) (m8 (e7 3) u6)))) (i4 (j5 (c9 m_law_start (a7 (dV 0) a8)) (u5 2 (m8 (e7 4) (m8 (e7 5) u6)))) (i4 (B5 6 (p9 (a7 (c9 m_law_spot (a7 (dV 4) (a7 (dV 5) a8))) a8))) (i4 (j5 (dC .non) (e7 7)) (i4 (a0e (a7 (dOp n9 (dC (.int 1)) (c9 m_law_draw (a7 (dV 0) (a7 (dOp v8 (dL 1) (dC (.int 1))) a8)))) a8) (e7 8) (a1F m_law_spot m_law_plus m_law_product m_law_draw m_law_start m_law_menu)) (k0 (e8 (a7 (dC (.bl false)) (a7 (dCB (one D5) (a7 (dL 6) a8)) a8)))))))))
noncomputable def a1T (m_law_spot : DFn) (m_law_plus : DFn) (m_law_product : DFn) (m_law_draw : DFn) (m_law_start : DFn) (m_law_menu : DFn) : DFn := mFn 11 (a2H m_law_spot m_law_plus m_law_product m_law_draw m_law_start m_law_menu)
noncomputable def a9w (m_law_draw : DFn) (m_law_closed : DFn) (m_law_open : DFn) : DM := (k0 (dIf (dB (dOp pEq (c9 m_law_draw (a7 (dV 0) (a7 (dC (.int 3)) a8))) (dC (.int 0)))) (c9 m_law_closed (a7 (dV 0) a8)) (c9 m_law_open (a7 (dV 0) (a7 (dV 1) a8)))))
noncomputable def a2K (m_law_draw : DFn) (m_law_closed : DFn) (m_law_open : DFn) : DFn := mFn 2 (a9w m_law_draw m_law_closed m_law_open)
noncomputable abbrev a6t (m_plus : DFn) (m_lengths : DFn) : DM := (F4 1 (c9 m_plus (a7 (dOp pIx (dL 1) (dUn t7 (dC (.int 1)))) (a7 (dV 2) a8))))
noncomputable def a2j (m_plus : DFn) (m_lengths : DFn) : DM := (i4 (B5 1 (p9 (a7 (e8 (a7 (dC (.int 0)) (a7 (dC (.int 1)) a8))) a8))) (i4 (G9 (c9 m_lengths (a7 (dV 0) a8)) (e7 2) (a6t m_plus m_lengths)) (k0 (dV 1))))
noncomputable def S8 (m_plus : DFn) (m_lengths : DFn) : DFn := mFn 3 (a2j m_plus m_lengths)
noncomputable def a74 (m_stations : DFn) : DM := (k0 (dOp pIx (c9 m_stations (a7 (dV 0) a8)) (dUn t7 (dC (.int 1)))))
noncomputable def a0l (m_stations : DFn) : DFn := mFn 1 (a74 m_stations)
noncomputable def a1R : DM := (i4 (j5 (dV 0) (u5 2 (m8 (e7 1) (m8 (e7 2) u6)))) (i4 (B5 3 (F2 [2] (R7 (a7 (dOp v8 (dCB (one u3) (a7 (dL 2) a8)) (dC (.int 1))) a8)) w8 (e8 (a7 (dOp pIx (dL 1) (dL 0)) (a7 (dOp pIx (dL 1) (dOp n9 (dL 0) (dC (.int 1)))) a8))))) (k0 (p7 (M7 S9 (dL 3) (p7 (M7 a0J (p7 (p9 (a7 (e8 (a7 (dOp pIx (dL 2) (dUn t7 (dC (.int 1)))) (a7 (dOp pIx (dL 2) (dC (.int 0))) a8))) a8))) (dCB (one a4u) (a7 (dL 1) a8)))))))))
noncomputable def X2 : DFn := mFn 4 (a1R)
noncomputable def a8A (m_law_low : DFn) : DM := (k0 (e8 (a7 (c9 m_law_low (a7 (dOp pIx (dL 0) (dC (.int 0))) (a7 (dOp pIx (dL 0) (dC (.int 2))) a8))) (a7 (c9 m_law_low (a7 (dOp pIx (dL 0) (dC (.int 1))) (a7 (dOp pIx (dL 0) (dC (.int 2))) a8))) a8))))
noncomputable def a2L (m_law_low : DFn) : DFn := mFn 1 (a8A m_law_low)
noncomputable def b3O (m_law_low : DFn) : DM := (k0 (c9 m_law_low (a7 (dOp v8 (dOp l4 (dOp pIx (dL 0) (dC (.int 0))) (dOp pIx (dL 1) (dC (.int 1)))) (dOp l4 (dOp pIx (dL 1) (dC (.int 0))) (dOp pIx (dL 0) (dC (.int 1))))) (a7 (dOp l4 (dOp pIx (dL 0) (dC (.int 1))) (dOp pIx (dL 1) (dC (.int 1)))) a8))))
noncomputable def a4A (m_law_low : DFn) : DFn := mFn 2 (b3O m_law_low)
noncomputable def a1W (m_law_plus : DFn) (m_law_product : DFn) (m_law_minus : DFn) (m_law_xy : DFn) : DM := (i4 (j5 (e8 (a7 (c9 m_law_xy (a7 (dV 0) a8)) (a7 (c9 m_law_xy (a7 (dV 1) a8)) a8))) (u5 2 (m8 (u5 2 (m8 (e7 2) (m8 (e7 3) u6))) (m8 (u5 2 (m8 (e7 4) (m8 (e7 5) u6))) u6)))) (i4 (C1 6 7 (a7 (c9 m_law_minus (a7 (dV 4) (a7 (dV 2) a8))) (a7 (c9 m_law_minus (a7 (dV 5) (a7 (dV 3) a8))) a8))) (k0 (c9 m_law_plus (a7 (c9 m_law_product (a7 (dV 6) (a7 (dV 6) a8))) (a7 (c9 m_law_product (a7 (dV 7) (a7 (dV 7) a8))) a8))))))
noncomputable def a3M (m_law_plus : DFn) (m_law_product : DFn) (m_law_minus : DFn) (m_law_xy : DFn) : DFn := mFn 8 (a1W m_law_plus m_law_product m_law_minus m_law_xy)
noncomputable abbrev a54 : DM := (j5 (dOp l4 (dL 2) (dC (.int 2))) (e7 2))
noncomputable abbrev a0O : DM := (i4 (n0 (dB (dOp (n8 (fun i j => decide (i ≤ j))) (dOp l4 (dOp n9 (dL 1) (dL 2)) (dOp n9 (dL 1) (dL 2))) (dL 0))) (j5 (dOp n9 (dL 1) (dL 2)) (e7 1)) o8) (j5 (dOp u8 (dL 2) (dC (.int 2))) (e7 2)))
noncomputable def a2T : DM := (i4 (j5 (dC (.int 0)) (e7 1)) (i4 (j5 (dC (.int 1)) (e7 2)) (i4 (A8 (dB (dOp (n8 (fun i j => decide (i ≤ j))) (dOp l4 (dL 2) (dL 2)) (dL 0))) (a54)) (i4 (A8 (dB (dOp (n8 (fun i j => decide (j < i))) (dL 2) (dC (.int 0)))) (a0O)) (k0 (dV 1))))))
noncomputable def Z5 : DFn := mFn 3 (a2T)
noncomputable def a2a (m_law_root : DFn) (m_law_square : DFn) : DM := (i4 (j5 (c9 m_law_square (a7 (dV 0) (a7 (dV 1) a8))) (u5 2 (m8 (e7 2) (m8 (e7 3) u6)))) (k0 (e8 (a7 (c9 m_law_root (a7 (dV 2) a8)) (a7 (c9 m_law_root (a7 (dV 3) a8)) a8)))))
noncomputable def a3R (m_law_root : DFn) (m_law_square : DFn) : DFn := mFn 4 (a2a m_law_root m_law_square)
noncomputable abbrev a7g (m_law_plus : DFn) (m_law_size : DFn) (m_law_pairs : DFn) : DM := (F4 1 (c9 m_law_plus (a7 (dOp pIx (dL 1) (dUn t7 (dC (.int 1)))) (a7 (c9 m_law_size (a7 (dV 2) (a7 (dV 3) a8))) a8))))
noncomputable def a2A (m_law_plus : DFn) (m_law_size : DFn) (m_law_pairs : DFn) : DM := (i4 (B5 1 (p9 (a7 (e8 (a7 (dC (.int 0)) (a7 (dC (.int 1)) a8))) a8))) (i4 (G9 (c9 m_law_pairs (a7 (dV 0) a8)) (u5 2 (m8 (e7 2) (m8 (e7 3) u6))) (a7g m_law_plus m_law_size m_law_pairs)) (k0 (dV 1))))
noncomputable def a3K (m_law_plus : DFn) (m_law_size : DFn) (m_law_pairs : DFn) : DFn := mFn 4 (a2A m_law_plus m_law_size m_law_pairs)
noncomputable def a1L (m_lowest : DFn) : DM := (i4 (j5 (dOp l4 (dOp pIx (dL 1) (dC (.int 2))) (dOp v8 (dOp pIx (dL 2) (dC (.int 1))) (dOp pIx (dL 2) (dC (.int 0))))) (e7 3)) (i4 (j5 (dOp l4 (dOp pIx (dL 0) (dC (.int 2))) (dOp pIx (dL 2) (dC (.int 0)))) (e7 4)) (k0 (c9 m_lowest (a7 (e8 (a7 (dOp n9 (dOp l4 (dOp pIx (dL 0) (dC (.int 0))) (dL 3)) (dOp l4 (dOp pIx (dL 1) (dC (.int 0))) (dL 4))) (a7 (dOp n9 (dOp l4 (dOp pIx (dL 0) (dC (.int 1))) (dL 3)) (dOp l4 (dOp pIx (dL 1) (dC (.int 1))) (dL 4))) (a7 (dOp l4 (dOp l4 (dOp pIx (dL 0) (dC (.int 2))) (dOp pIx (dL 1) (dC (.int 2)))) (dOp pIx (dL 2) (dC (.int 1)))) a8)))) a8)))))
noncomputable def a1m (m_lowest : DFn) : DFn := mFn 5 (a1L m_lowest)
noncomputable abbrev a6a (m_between : DFn) (m_fraction : DFn) (m_less : DFn) (m_pieces : DFn) (m_is_below : DFn) (m_stations : DFn) : DM := (j5 (dOp n9 (dL 3) (dC (.int 1))) (e7 3))
noncomputable def a1S (m_between : DFn) (m_fraction : DFn) (m_less : DFn) (m_pieces : DFn) (m_is_below : DFn) (m_stations : DFn) : DM := (i4 (j5 (c9 m_stations (a7 (dV 0) a8)) (e7 2)) (i4 (j5 (dC (.int 0)) (e7 3)) (i4 (A8 (dTr (c9 m_is_below (a7 (dOp pIx (dL 2) (dOp n9 (dL 3) (dC (.int 1)))) (a7 (dV 1) a8)))) (a6a m_between m_fraction m_less m_pieces m_is_below m_stations)) (i4 (j5 (dOp pIx (c9 m_pieces (a7 (dV 0) a8)) (dL 3)) (e7 4)) (i4 (j5 (c9 m_less (a7 (dV 1) (a7 (dOp pIx (dL 2) (dL 3)) a8))) (e7 5)) (i4 (j5 (c9 m_less (a7 (dOp pIx (dL 2) (dOp n9 (dL 3) (dC (.int 1)))) (a7 (dOp pIx (dL 2) (dL 3)) a8))) (e7 6)) (k0 (c9 m_between (a7 (dOp pIx (dL 4) (dC (.int 0))) (a7 (dOp pIx (dL 4) (dC (.int 1))) (a7 (c9 m_fraction (a7 (dOp l4 (dOp pIx (dL 5) (dC (.int 0))) (dOp pIx (dL 6) (dC (.int 1)))) (a7 (dOp l4 (dOp pIx (dL 5) (dC (.int 1))) (dOp pIx (dL 6) (dC (.int 0)))) a8))) a8)))))))))))
noncomputable def a0M (m_between : DFn) (m_fraction : DFn) (m_less : DFn) (m_pieces : DFn) (m_is_below : DFn) (m_stations : DFn) : DFn := mFn 7 (a1S m_between m_fraction m_less m_pieces m_is_below m_stations)
noncomputable abbrev a0P (m_place_at : DFn) (m_is_below : DFn) (m_stations : DFn) : DM := (n0 (A6 (dTr (c9 m_is_below (a7 (dV 1) (a7 (dV 5) a8)))) (dTr (c9 m_is_below (a7 (dV 5) (a7 (dV 2) a8))))) (F4 3 (dV 4)) o8)
noncomputable def a3g (m_place_at : DFn) (m_is_below : DFn) (m_stations : DFn) : DM := (i4 (B5 3 (p9 (a7 (c9 m_place_at (a7 (dV 0) (a7 (dV 1) a8))) a8))) (i4 (a0x (a7 (dOp pIx (dL 0) (dC (.int 1))) (a7 (c9 m_stations (a7 (dV 0) a8)) a8)) (u5 2 (m8 (e7 4) (m8 (e7 5) u6))) (a0P m_place_at m_is_below m_stations)) (i4 (F4 3 (c9 m_place_at (a7 (dV 0) (a7 (dV 2) a8)))) (k0 (e8 (a7 (dC (.bl false)) (a7 (dCB (one D5) (a7 (dL 3) a8)) a8)))))))
noncomputable def a2w (m_place_at : DFn) (m_is_below : DFn) (m_stations : DFn) : DFn := mFn 6 (a3g m_place_at m_is_below m_stations)
noncomputable def a19 (m_law_product : DFn) (m_law_draw : DFn) : DM := (i4 (j5 (dOp pIx (p7 (p9 (a7 (dC (.int 2)) (a7 (dC (.int 4)) (a7 (dC (.int 2)) (a7 (dC (.int 6)) a8)))))) (c9 m_law_draw (a7 (dV 0) (a7 (dC (.int 4)) a8)))) (e7 2)) (i4 (j5 (dCB (one D5) (a7 (p7 (F2 [1, 0] (R7 (a7 (dV 2) a8)) w8 (c9 m_law_product (a7 (dV 1) (a7 (e8 (a7 (dOp n9 (dC (.int 1)) (c9 m_law_draw (a7 (dV 2) (a7 (dC (.int 5)) a8)))) (a7 (dC (.int 24)) a8))) a8))))) a8)) (e7 3)) (i4 (j5 (dOp pIx (p7 (p9 (a7 (e8 (a7 (dC (.int 0)) (a7 (dC (.int 1)) a8))) (a7 (e8 (a7 (dC (.int 1)) (a7 (dC (.int 2)) a8))) (a7 (e8 (a7 (dC (.int 1)) (a7 (dC (.int 24)) a8))) (a7 (e8 (a7 (dC (.int 5)) (a7 (dC (.int 6)) a8))) (a7 (e8 (a7 (dC (.int 1)) (a7 (dC (.int 3)) a8))) a8))))))) (c9 m_law_draw (a7 (dV 0) (a7 (dC (.int 5)) a8)))) (e7 4)) (k0 (e8 (a7 (dV 3) (a7 (c9 m_law_product (a7 (dV 1) (a7 (dV 4) a8))) a8)))))))
noncomputable def a2Z (m_law_product : DFn) (m_law_draw : DFn) : DFn := mFn 5 (a19 m_law_product m_law_draw)
noncomputable def O7 (m_lowest : DFn) (m_place : DFn) (m_plus : DFn) (m_up : DFn) (m_across : DFn) : DM := (i4 (n0 (dB (dOp pEq (dOp pIx (dL 0) (dC (.int 0))) (dC (.str "move")))) (k0 (c9 m_place (a7 (c9 m_plus (a7 (c9 m_across (a7 (dV 1) a8)) (a7 (dOp pIx (dL 0) (dC (.int 1))) a8))) (a7 (c9 m_plus (a7 (c9 m_up (a7 (dV 1) a8)) (a7 (dOp pIx (dL 0) (dC (.int 2))) a8))) a8)))) o8) (i4 (n0 (dB (dOp pEq (dOp pIx (dL 0) (dC (.int 0))) (dC (.str "quarter")))) (k0 (e8 (a7 (dUn t7 (dOp pIx (dL 1) (dC (.int 1)))) (a7 (dOp pIx (dL 1) (dC (.int 0))) (a7 (dOp pIx (dL 1) (dC (.int 2))) a8))))) o8) (i4 (n0 (dB (dOp pEq (dOp pIx (dL 0) (dC (.int 0))) (dC (.str "mirror")))) (k0 (e8 (a7 (dUn t7 (dOp pIx (dL 1) (dC (.int 0)))) (a7 (dOp pIx (dL 1) (dC (.int 1))) (a7 (dOp pIx (dL 1) (dC (.int 2))) a8))))) o8) (i4 (j5 (dOp pIx (dL 0) (dC (.int 1))) (e7 2)) (k0 (c9 m_lowest (a7 (e8 (a7 (dOp l4 (dOp pIx (dL 1) (dC (.int 0))) (dOp pIx (dL 2) (dC (.int 0)))) (a7 (dOp l4 (dOp pIx (dL 1) (dC (.int 1))) (dOp pIx (dL 2) (dC (.int 0)))) (a7 (dOp l4 (dOp pIx (dL 1) (dC (.int 2))) (dOp pIx (dL 2) (dC (.int 1)))) a8)))) a8)))))))
noncomputable def a1q (m_lowest : DFn) (m_place : DFn) (m_plus : DFn) (m_up : DFn) (m_across : DFn) : DFn := mFn 3 (O7 m_lowest m_place m_plus m_up m_across)
noncomputable def b39 (m_changed_place : DFn) : DM := (k0 (dCB (one D5) (a7 (p7 (F2 [0] (E8 (dV 1)) w8 (c9 m_changed_place (a7 (dV 1) (a7 (dV 0) a8))))) a8)))
noncomputable def a36 (m_changed_place : DFn) : DFn := mFn 2 (b39 m_changed_place)
noncomputable def b0z (m_changed_places : DFn) : DM := (k0 (e8 (a7 (dOp pIx (dL 1) (dC (.int 0))) (a7 (c9 m_changed_places (a7 (dV 0) (a7 (dOp pIx (dL 1) (dC (.int 1))) a8))) a8))))
noncomputable def a1P (m_changed_places : DFn) : DFn := mFn 2 (b0z m_changed_places)
noncomputable abbrev a7J (m_plus : DFn) : DM := (j5 (c9 m_plus (a7 (dV 1) (a7 (dV 2) a8))) (e7 1))
noncomputable def a3i (m_plus : DFn) : DM := (i4 (j5 (e8 (a7 (dC (.int 0)) (a7 (dC (.int 1)) a8))) (e7 1)) (i4 (G9 (dV 0) (e7 2) (a7J m_plus)) (k0 (dV 1))))
noncomputable def a1u (m_plus : DFn) : DFn := mFn 3 (a3i m_plus)
noncomputable def a4o (m_less : DFn) (m_times : DFn) (m_sum_of : DFn) : DM := (i4 (j5 (c9 m_sum_of (a7 (dV 0) a8)) (e7 2)) (i4 (j5 (dOp u8 (dOp l4 (dOp pIx (dL 1) (dC (.int 0))) (dOp pIx (dL 2) (dC (.int 1)))) (dOp l4 (dOp pIx (dL 1) (dC (.int 1))) (dOp pIx (dL 2) (dC (.int 0))))) (e7 3)) (k0 (c9 m_less (a7 (c9 m_times (a7 (dV 2) (a7 (e8 (a7 (dV 3) (a7 (dC (.int 1)) a8))) a8))) (a7 (dV 1) a8))))))
noncomputable def a1y (m_less : DFn) (m_times : DFn) (m_sum_of : DFn) : DFn := mFn 4 (a4o m_less m_times m_sum_of)
noncomputable def a8s (m_is_below : DFn) : DM := (k0 (dIf (dTr (c9 m_is_below (a7 (dV 0) (a7 (dV 1) a8)))) (dV 1) (dV 0)))
noncomputable def a0Z (m_is_below : DFn) : DFn := mFn 2 (a8s m_is_below)
noncomputable def a9b (m_is_below : DFn) : DM := (k0 (dIf (dTr (c9 m_is_below (a7 (dV 0) (a7 (dV 1) a8)))) (dV 0) (dV 1)))
noncomputable def a1s (m_is_below : DFn) : DFn := mFn 2 (a9b m_is_below)
noncomputable abbrev a0V (m_is_below : DFn) (m_lesser_of : DFn) (m_greater_of : DFn) (m_plus : DFn) (m_first_begin : DFn) (m_line_length : DFn) : DM := (i4 (j5 (c9 m_plus (a7 (dV 5) (a7 (dOp pIx (dL 1) (dL 6)) a8))) (e7 7)) (i4 (n0 (A6 (dB (dOp pEq (dOp y4 (dL 6) (dC (.int 2))) (dC (.int 0)))) (dTr (c9 m_is_below (a7 (e8 (a7 (dC (.int 0)) (a7 (dC (.int 1)) a8))) (a7 (dV 7) a8))))) (F4 4 (e8 (a7 (c9 m_greater_of (a7 (dV 5) (a7 (e8 (a7 (dC (.int 0)) (a7 (dC (.int 1)) a8))) a8))) (a7 (c9 m_lesser_of (a7 (dV 7) (a7 (dV 3) a8))) a8)))) o8) (i4 (n0 (dB (dOp (n8 (fun i j => decide (j < i))) (dCB (one u3) (a7 (dL 4) a8)) (dC (.int 200)))) a6N o8) (i4 (j5 (dV 7) (e7 5)) (j5 (dOp y4 (dOp n9 (dL 6) (dC (.int 1))) (dCB (one u3) (a7 (dL 1) a8))) (e7 6))))))
noncomputable def a2k (m_is_below : DFn) (m_lesser_of : DFn) (m_greater_of : DFn) (m_plus : DFn) (m_first_begin : DFn) (m_line_length : DFn) : DM := (i4 (j5 (c9 m_line_length (a7 (dV 0) a8)) (e7 3)) (i4 (B5 4 (p9 a8)) (i4 (j5 (c9 m_first_begin (a7 (dV 1) (a7 (dV 2) a8))) (e7 5)) (i4 (j5 (dC (.int 0)) (e7 6)) (i4 (A8 (dTr (c9 m_is_below (a7 (dV 5) (a7 (dV 3) a8)))) (a0V m_is_below m_lesser_of m_greater_of m_plus m_first_begin m_line_length)) (k0 (dV 4)))))))
noncomputable def a1w (m_is_below : DFn) (m_lesser_of : DFn) (m_greater_of : DFn) (m_plus : DFn) (m_first_begin : DFn) (m_line_length : DFn) : DFn := mFn 8 (a2k m_is_below m_lesser_of m_greater_of m_plus m_first_begin m_line_length)
noncomputable def b3I (m_mark_lengths : DFn) (m_part_of : DFn) : DM := (k0 (p7 (K3 [0] (E8 (c9 m_mark_lengths (a7 (dV 0) (a7 (dV 1) (a7 (dV 2) a8))))) w8 (c9 m_part_of (a7 (dV 2) (a7 (dV 0) (a7 (dV 1) a8)))))))
noncomputable def a2J (m_mark_lengths : DFn) (m_part_of : DFn) : DFn := mFn 3 (b3I m_mark_lengths m_part_of)
noncomputable abbrev a1l (m_place_at : DFn) (m_law_product : DFn) (m_changed_place : DFn) (m_law_draw : DFn) (m_marks_of : DFn) (m_changed_line : DFn) (m_mark_lengths : DFn) (m_line_length : DFn) (m_law_shares : DFn) (m_law_sums : DFn) : DM := (i4 (j5 (c9 m_law_product (a7 (dV 4) (a7 (dV 12) a8))) (e7 13)) (n0 (dB (dOp pNe (c9 m_place_at (a7 (dV 7) (a7 (c9 m_law_product (a7 (dV 13) (a7 (dV 3) a8))) a8))) (c9 m_changed_place (a7 (dV 2) (a7 (c9 m_place_at (a7 (dV 1) (a7 (dV 13) a8))) a8))))) (k0 (dC (.bl false))) o8))
noncomputable def a1M (m_place_at : DFn) (m_law_product : DFn) (m_changed_place : DFn) (m_law_draw : DFn) (m_marks_of : DFn) (m_changed_line : DFn) (m_mark_lengths : DFn) (m_line_length : DFn) (m_law_shares : DFn) (m_law_sums : DFn) : DM := (i4 (j5 (dIf (dB (dOp pEq (dOp pIx (dL 2) (dC (.int 0))) (dC (.str "scale")))) (dOp pIx (dL 2) (dC (.int 1))) (e8 (a7 (dC (.int 1)) (a7 (dC (.int 1)) a8)))) (e7 3)) (i4 (j5 (dOp pIx (c9 m_law_sums (a7 (dV 1) a8)) (dUn t7 (dC (.int 1)))) (e7 4)) (i4 (j5 (c9 m_law_shares (a7 (dV 0) (a7 (dV 4) a8))) (u5 2 (m8 (e7 5) (m8 (e7 6) u6)))) (i4 (j5 (c9 m_changed_line (a7 (dV 2) (a7 (dV 1) a8))) (e7 7)) (i4 (n0 (dB (dOp pNe (dCB (one E1) (a7 (c9 m_line_length (a7 (dV 7) a8)) a8)) (dCB (one E1) (a7 (c9 m_law_product (a7 (dV 4) (a7 (dV 3) a8))) a8)))) (k0 (dC (.bl false))) o8) (i4 (j5 (dCB (one D5) (a7 (p7 (F2 [3] (E8 (dV 5)) w8 (c9 m_law_product (a7 (dV 0) (a7 (dV 1) a8))))) a8)) (e7 8)) (i4 (j5 (c9 m_law_product (a7 (dV 6) (a7 (dV 3) a8))) (e7 9)) (i4 (B5 10 (K3 [3] (E8 (c9 m_mark_lengths (a7 (dV 1) (a7 (dV 5) (a7 (dV 6) a8))))) w8 (e8 (a7 (c9 m_law_product (a7 (dV 0) (a7 (dV 2) a8))) (a7 (c9 m_law_product (a7 (dV 1) (a7 (dV 2) a8))) a8))))) (i4 (n0 (dB (dOp pNe (dCB (one E1) (a7 (c9 m_mark_lengths (a7 (dV 7) (a7 (dV 8) (a7 (dV 9) a8)))) a8)) (dCB (one E1) (a7 (dL 10) a8)))) (k0 (dC (.bl false))) o8) (i4 (B5 11 (F2 [2] (E8 (c9 m_marks_of (a7 (dV 1) (a7 (dV 5) (a7 (dV 6) a8))))) w8 (c9 m_changed_line (a7 (dV 1) (a7 (dV 0) a8))))) (i4 (n0 (dB (dOp pNe (dCB (one E1) (a7 (c9 m_marks_of (a7 (dV 7) (a7 (dV 8) (a7 (dV 9) a8)))) a8)) (dCB (one E1) (a7 (dL 11) a8)))) (k0 (dC (.bl false))) o8) (i4 (G9 (p7 (p9 (a7 (e8 (a7 (dC (.int 0)) (a7 (dC (.int 1)) a8))) (a7 (e8 (a7 (dC (.int 1)) (a7 (dC (.int 2)) a8))) (a7 (e8 (a7 (dOp n9 (dC (.int 1)) (c9 m_law_draw (a7 (dV 0) (a7 (dC (.int 11)) a8)))) (a7 (dC (.int 12)) a8))) (a7 (e8 (a7 (dC (.int 1)) (a7 (dC (.int 1)) a8))) a8)))))) (e7 12) (a1l m_place_at m_law_product m_changed_place m_law_draw m_marks_of m_changed_line m_mark_lengths m_line_length m_law_shares m_law_sums)) (k0 (dC (.bl true)))))))))))))))
noncomputable def a33 (m_place_at : DFn) (m_law_product : DFn) (m_changed_place : DFn) (m_law_draw : DFn) (m_marks_of : DFn) (m_changed_line : DFn) (m_mark_lengths : DFn) (m_line_length : DFn) (m_law_shares : DFn) (m_law_sums : DFn) : DFn := mFn 14 (a1M m_place_at m_law_product m_changed_place m_law_draw m_marks_of m_changed_line m_mark_lengths m_line_length m_law_shares m_law_sums)
noncomputable def T8 (m_law_draw : DFn) : DM := (i4 (j5 (c9 m_law_draw (a7 (dV 0) (a7 (dC (.int 4)) a8))) (e7 1)) (i4 (n0 (dB (dOp pEq (dL 1) (dC (.int 0)))) (i4 (B5 2 (p9 (a7 (e8 (a7 (dC (.int 0)) (a7 (dC (.int 1)) a8))) (a7 (e8 (a7 (dC (.int 1)) (a7 (dC (.int 1)) a8))) (a7 (e8 (a7 (dUn t7 (dC (.int 3))) (a7 (dC (.int 2)) a8))) (a7 (e8 (a7 (dC (.int 7)) (a7 (dC (.int 3)) a8))) (a7 (e8 (a7 (dUn t7 (dC (.int 20))) (a7 (dC (.int 1)) a8))) a8))))))) (i4 (j5 (dOp pIx (dL 2) (c9 m_law_draw (a7 (dV 0) (a7 (dC (.int 5)) a8)))) (e7 3)) (k0 (e8 (a7 (dC (.str "move")) (a7 (dV 3) (a7 (dOp pIx (dL 2) (c9 m_law_draw (a7 (dV 0) (a7 (dC (.int 5)) a8)))) a8))))))) o8) (i4 (n0 (dB (dOp pEq (dL 1) (dC (.int 3)))) (k0 (e8 (a7 (dC (.str "scale")) (a7 (dOp pIx (p7 (p9 (a7 (e8 (a7 (dC (.int 1)) (a7 (dC (.int 1)) a8))) (a7 (e8 (a7 (dC (.int 2)) (a7 (dC (.int 1)) a8))) (a7 (e8 (a7 (dC (.int 1)) (a7 (dC (.int 3)) a8))) (a7 (e8 (a7 (dC (.int 3)) (a7 (dC (.int 2)) a8))) (a7 (e8 (a7 (dC (.int 12)) (a7 (dC (.int 1)) a8))) a8))))))) (c9 m_law_draw (a7 (dV 0) (a7 (dC (.int 5)) a8)))) a8)))) o8) (k0 (dOp pIx (p7 (p9 (a7 (e8 (a7 (dC (.str "quarter")) a8)) (a7 (e8 (a7 (dC (.str "mirror")) a8)) a8)))) (dOp v8 (dL 1) (dC (.int 1))))))))
noncomputable def a38 (m_law_draw : DFn) : DFn := mFn 4 (T8 m_law_draw)
noncomputable abbrev a0T (m_law_right : DFn) (m_law_change : DFn) (m_law_exact : DFn) (m_law_new_tape : DFn) : DM := (i4 (j5 (c9 m_law_exact (a7 (dV 1) (a7 (dC (.int 3)) a8))) (e7 3)) (n0 (C8 (dTr (c9 m_law_right (a7 (dV 1) (a7 (dV 3) (a7 (c9 m_law_change (a7 (dV 1) a8)) a8)))))) (k0 (dC (.bl false))) o8))
noncomputable def a2U (m_law_right : DFn) (m_law_change : DFn) (m_law_exact : DFn) (m_law_new_tape : DFn) : DM := (i4 (j5 (c9 m_law_new_tape (a7 (dV 0) a8)) (e7 1)) (i4 (a0e (a7 (dC (.int 2)) a8) (e7 2) (a0T m_law_right m_law_change m_law_exact m_law_new_tape)) (k0 (dC (.bl true)))))
noncomputable def a4F (m_law_right : DFn) (m_law_change : DFn) (m_law_exact : DFn) (m_law_new_tape : DFn) : DFn := mFn 4 (a2U m_law_right m_law_change m_law_exact m_law_new_tape)
end T
namespace DL
open PySem L2
theorem a0r {n k : Nat} (hk : 0 < k) (h : n < 2 ^ k) : n.log2 < k := by
 by_cases h0 : n = 0
 ·subst h0; simpa using hk
 ·exact (Nat.log2_lt h0).mpr h
theorem Y1 {i : Int} (h : i.natAbs < 2 ^ 200) : u4 i = true := by
 have := a0r (by decide) h
 exact decide_eq_true (by omega)
theorem b0l {j : Int} (h0 : j ≠ 0) (h : j.natAbs < 2 ^ 200) : A3 j = true := by
 have := a0r (by decide) h
 unfold A3
 rw [decide_eq_true h0, Bool.true_and]
 exact decide_eq_true (by omega)
theorem a7d (i : Int) : E5 (.int i) = true := by simp [E5, D.plain, D.py, SeqAt.shaped, PyData.canLay0, PyData.depth]
theorem a14 (i j : Int) : pNe (.int i) (.int j) = some (.bl (!decide (i = j))) := by
 simp only [pNe, a7d, Bool.and_self, if_true, D.py, PyData.eqv, Bool.beq_eq_decide_eq]
theorem L9 (i j : Int) : pEq (.int i) (.int j) = some (.bl (decide (i = j))) := by
 simp only [pEq, a7d, Bool.and_self, if_true, D.py, PyData.eqv, Bool.beq_eq_decide_eq]
theorem b0C (x y : Str) : pNe (.str x) (.str y) = some (.bl (!decide (x = y))) := rfl
theorem b0A {i : Int} (h : i.natAbs.log2 < 1920) : (PySem.Str.ofString (toString i)).length ≤ 1921 := PyProof.Rows.int_text_len_1921 h
theorem b3c {d : D} (h : Q9 d = true) : E1 d = some (.str d.py.shown) := by unfold E1; rw [if_pos h]
theorem a11 {α : Type} {xs : List α} {i : Int} (h0 : 0 ≤ i) (h1 : i < xs.length) : atI xs i = xs[i.toNat]? := by
 unfold atI ixN
 rw [if_pos h0, if_pos h1]
 rfl
theorem M1 {a b : Int} (h : 0 < b) : 0 ≤ a.fmod b ∧ a.fmod b < b := by
 rw [Int.fmod_eq_emod_of_nonneg a (by omega)]
 exact ⟨Int.emod_nonneg a (by omega), Int.emod_lt_of_pos a h⟩
theorem i8 {a b : DM} {s s1 : DS} (h : a s = some (.next, s1)) : i4 a b s = b s1 := by simp [i4, h, C9]
theorem L4 {a b : DM} {s s1 : DS} {d : D} (h : a s = some (.ret d, s1)) : i4 a b s = some (.ret d, s1) := by simp [i4, h, C9]
theorem a4a {m : DFn} {a : DA} {s s1 : DS} {xs : List D} {d : D} {fs : Option FS} (ha : a s = some (xs, s1)) (hm : m xs s1.fs = some (d, fs)) : c9 m a s = some (d, { s1 with fs := fs }) := by
 unfold c9
 rw [ha, Option.bind_some, hm]
 rfl
theorem c6 {p : D → D → Option D} {a b : DE} {s s1 s2 : DS} {x y z : D} (h1 : a s = some (x, s1)) (h2 : b s1 = some (y, s2)) (h3 : p x y = some z) : dOp p a b s = some (z, s2) := by
 unfold dOp
 rw [h1, Option.bind_some, h2, Option.bind_some, h3]
 rfl
theorem j8 {a : DE} {b : DA} {s s1 s2 : DS} {x : D} {xs : List D} (h1 : a s = some (x, s1)) (h2 : b s1 = some (xs, s2)) : a7 a b s = some (x :: xs, s2) := by
 unfold a7
 rw [h1, Option.bind_some, h2]
 rfl
theorem l6 {f : DE} {t : D → DS → Option DS} {s s1 s2 : DS} {d : D} (h1 : f s = some (d, s1)) (h2 : t d s1 = some s2) : j5 f t s = some (.next, s2) := by
 unfold j5
 rw [h1, Option.bind_some, h2]
 rfl
theorem K2 {c : DT} {a b : DM} {s s1 : DS} (h : c s = some (true, s1)) : n0 c a b s = a s1 := by simp [n0, h]
theorem a2v {c : DT} {a b : DM} {s s1 : DS} (h : c s = some (false, s1)) : n0 c a b s = b s1 := by simp [n0, h]
theorem o6 {f : DE} {s s1 : DS} {d : D} (h : f s = some (d, s1)) : k0 f s = some (.ret d, s1) := by simp [k0, h]
theorem y8 {f : DE} {s s1 : DS} {b : Bool} (h : f s = some (.bl b, s1)) : dB f s = some (b, s1) := by simp [dB, h]
theorem m5 {n : Nat} {b : DM} {ds : List D} {fs : Option FS} {d : D} {s : DS} (h : b ⟨ds.map .val ++ List.replicate (n - ds.length) .no, fs⟩ = some (.ret d, s)) : mFn n b ds fs = some (d, s.fs) := by simp [mFn, h]
theorem k9 {m : DFn} {a : DA} {sl : List Sl} {fs : Option FS} {xs : List D} {d : D} (ha : a ⟨sl, fs⟩ = some (xs, ⟨sl, fs⟩)) (hm : m xs fs = some (d, fs)) : c9 m a ⟨sl, fs⟩ = some (d, ⟨sl, fs⟩) := a4a (s1 := ⟨sl, fs⟩) ha hm
theorem t9 {m : DFn} {a : DA} {sl : List Sl} {fs fs' : Option FS} {xs : List D} {d : D} (ha : a ⟨sl, fs⟩ = some (xs, ⟨sl, fs⟩)) (hm : m xs fs = some (d, fs')) : c9 m a ⟨sl, fs⟩ = some (d, ⟨sl, fs'⟩) := a4a (s1 := ⟨sl, fs⟩) ha hm
theorem a5T {m : DFn} {a : DA} {sl sl' : List Sl} {fs fs' fs2 : Option FS} {xs : List D} {d : D} (ha : a ⟨sl, fs⟩ = some (xs, ⟨sl', fs'⟩)) (hm : m xs fs' = some (d, fs2)) : c9 m a ⟨sl, fs⟩ = some (d, ⟨sl', fs2⟩) := a4a (s1 := ⟨sl', fs'⟩) ha hm
theorem V2 {a b c : DE} {s s1 s2 s3 : DS} {x y z : D} (h1 : a s = some (x, s1)) (h2 : b s1 = some (y, s2)) (h3 : c s2 = some (z, s3)) : e8 (a7 a (a7 b (a7 c a8))) s = some (.tup [x, y, z], s3) := by
 unfold e8
 rw [j8 h1 (j8 h2 (j8 h3 rfl)), Option.bind_some]
 exact if_pos (e := (none : Option (D × DS))) (show 3 ≤ sizeLine by decide)
theorem X3 {t : D → DS → Option DS} {b : DM} {d : D} {r : List D} {s s1 s2 : DS} (h1 : t d s = some s1) (h2 : b s1 = some (.next, s2)) : A1 t b (d :: r) s = A1 t b r s2 := by
 rw [A1, h1, Option.bind_some, h2]
 rfl
theorem u9 {a b : DE} {s s1 s2 : DS} {x y : D} (h1 : a s = some (x, s1)) (h2 : b s1 = some (y, s2)) : e8 (a7 a (a7 b a8)) s = some (.tup [x, y], s2) := by
 unfold e8
 rw [j8 h1 (j8 h2 rfl), Option.bind_some]
 exact if_pos (e := (none : Option (D × DS))) (show 2 ≤ sizeLine by decide)
theorem M3 {f : DE} {s s1 : DS} {b : Bool} (h : f s = some (.bl b, s1)) : dTr f s = some (b, s1) := by
 unfold dTr
 rw [h]
 rfl
theorem b1P {a : DT} {s s1 : DS} {b : Bool} (h : a s = some (b, s1)) : C8 a s = some (!b, s1) := by
 unfold C8
 rw [h]
 rfl
theorem a0E {a b : DT} {s s1 : DS} {r : Option (Bool × DS)} (h1 : a s = some (true, s1)) (h2 : b s1 = r) : A6 a b s = r := by
 unfold A6
 rw [h1, Option.bind_some, if_pos rfl]
 exact h2
theorem a4i {a b : DT} {s s1 : DS} (h1 : a s = some (false, s1)) : A6 a b s = some (false, s1) := by
 unfold A6
 rw [h1, Option.bind_some, if_neg Bool.false_ne_true]
theorem a9O {a b : DT} {s s1 : DS} (h1 : a s = some (true, s1)) : dOr a b s = some (true, s1) := by
 unfold dOr
 rw [h1, Option.bind_some, if_pos rfl]
theorem a5o {a b : DT} {s s1 : DS} {r : Option (Bool × DS)} (h1 : a s = some (false, s1)) (h2 : b s1 = r) : dOr a b s = r := by
 unfold dOr
 rw [h1, Option.bind_some, if_neg Bool.false_ne_true]
 exact h2
theorem D8 {c : DT} {a : DM} {s s1 : DS} (h : c s = some (false, s1)) : n0 c a o8 s = some (.next, s1) := by
 rw [a2v h]
 rfl
theorem D4 {i : Nat} {f : DA} {s s1 : DS} {ds : List D} (h : f s = some (ds, s1)) (hi : i < s1.sl.length) : B5 i f s = some (.next, { s1 with sl := s1.sl.set i (.own ds) }) := by
 unfold B5
 rw [h, Option.bind_some, if_pos hi]
theorem Z6 {idx : List Nat} {fi : DA} {fc : DT} {fe : DE} {s s1 : DS} {ds R : List D} {fs' : Option FS} (h : fi s = some (ds, s1)) (hz : ds.length ≤ sizeLine) (c : w9 (mk2 idx s1.sl) fc fe ds s1.fs = some (R, fs')) : K3 idx fi fc fe s = some (R, { s1 with fs := fs' }) := by
 unfold K3
 rw [h, Option.bind_some, if_pos hz, c]
 rfl
theorem A7 {f : DA} {s s1 : DS} {ds : List D} (h : f s = some (ds, s1)) : p7 f s = some (.lst ds, s1) := by
 unfold p7
 rw [h]
 rfl
theorem W2 {p : D → D → Option (List D)} {a b : DE} {s s1 s2 : DS} {x y : D} {z : List D} (h1 : a s = some (x, s1)) (h2 : b s1 = some (y, s2)) (h3 : p x y = some z) : M7 p a b s = some (z, s2) := by
 unfold M7
 rw [h1, Option.bind_some, h2, Option.bind_some, h3]
 rfl
theorem U2 {idx : List Nat} {fi : DA} {fc : DT} {fe : DE} {s s1 : DS} {ds R : List D} (h : fi s = some (ds, s1)) (hz : ds.length ≤ sizeLine) (c : w9 (fun d => some (.val d :: D9 idx s1.sl)) fc fe ds s1.fs = some (R, s1.fs)) : F2 idx fi fc fe s = some (R, s1) := by
 unfold F2
 rw [h, Option.bind_some, if_pos hz, c]
 rfl
theorem T5 {i : Nat} {f : DE} {s s1 : DS} {ds ds0 : List D} {d : D} (h0 : s.sl[i]? = some (.own ds0)) (h : f s = some (d, s1)) (h1 : s1.sl[i]? = some (.own ds)) (hl : ds.length < sizeLine) : F4 i f s = some (.next, { s1 with sl := s1.sl.set i (.own (ds ++ [d])) }) := by
 unfold F4
 rw [h0]
 show (f s).bind _ = _
 rw [h, Option.bind_some]
 show (match s1.sl[i]? with | some (.own ds) => _ | _ => _) = _
 rw [h1]
 exact if_pos hl
theorem a4C {a : DE} {s s1 : DS} {x : D} (h : a s = some (x, s1)) : p9 (a7 a a8) s = some ([x], s1) := by
 unfold p9
 rw [j8 h rfl, Option.bind_some]
 exact if_pos (e := (none : Option (List D × DS))) (show 1 ≤ sizeLine by decide)
theorem C5 {p : D → Option D} {a : DE} {s s1 : DS} {x d : D} (h : a s = some (x, s1)) (hp : p x = some d) : dCB (one p) (a7 a a8) s = some (d, s1) := by
 unfold dCB
 rw [j8 h rfl, Option.bind_some]
 show (p x).map _ = _
 rw [hp]
 rfl
theorem a0W {c : DT} {a b : DE} {s s1 : DS} (h : c s = some (true, s1)) : dIf c a b s = a s1 := by
 unfold dIf
 rw [h]
 rfl
theorem a07 {c : DT} {a b : DE} {s s1 : DS} (h : c s = some (false, s1)) : dIf c a b s = b s1 := by
 unfold dIf
 rw [h]
 rfl
noncomputable def fr (p : Rat) : D := .tup [.int p.num, .int p.den]
noncomputable def Sz (k : Nat) (p : Rat) : Prop := p.num.natAbs < 2 ^ k ∧ p.den < 2 ^ k
theorem Sz.mono {k l : Nat} {p : Rat} (h : Sz k p) (hl : k ≤ l) : Sz l p :=
 ⟨Nat.lt_of_lt_of_le h.1 (Nat.pow_le_pow_right (by decide) hl), Nat.lt_of_lt_of_le h.2 (Nat.pow_le_pow_right (by decide) hl)⟩
theorem a7I {a b : Int} (hb : b ≠ 0) : (Rat.divInt a b).num.natAbs ≤ a.natAbs ∧ (Rat.divInt a b).den ≤ b.natAbs := by
 constructor
 ·rw [Rat.num_divInt, Int.natAbs_ediv_of_dvd (Int.dvd_mul_of_dvd_right (Int.gcd_dvd_right ..))]
  rw [Int.natAbs_mul, Int.natAbs_sign_of_ne_zero hb, Nat.one_mul]
  exact Nat.div_le_self _ _
 ·rw [Rat.den_divInt, if_neg hb]
  exact Nat.div_le_self _ _
theorem Sz.of_divInt {k : Nat} {a b : Int} (hb : b ≠ 0) (h1 : a.natAbs < 2 ^ k) (h2 : b.natAbs < 2 ^ k) : Sz k (Rat.divInt a b) :=
 ⟨Nat.lt_of_le_of_lt (a7I hb).1 h1, Nat.lt_of_le_of_lt (a7I hb).2 h2⟩
theorem a4V {a b k l : Nat} (h1 : a < 2 ^ k) (h2 : b < 2 ^ l) : a * b < 2 ^ (k + l) := by
 rw [Nat.pow_add]
 exact Nat.mul_lt_mul_of_lt_of_lt h1 h2
theorem a8M {a b k : Nat} (h1 : a < 2 ^ k) (h2 : b < 2 ^ k) : a + b < 2 ^ (k + 1) := by
 rw [Nat.pow_succ]; omega
noncomputable def Bd (k : Nat) (i : Int) : Prop := i.natAbs < 2 ^ k
theorem Bd.mono {k l : Nat} {i : Int} (h : Bd k i) (hl : k ≤ l) : Bd l i := Nat.lt_of_lt_of_le h (Nat.pow_le_pow_right (by decide) hl)
theorem Bd.mul {k l : Nat} {i j : Int} (h1 : Bd k i) (h2 : Bd l j) : Bd (k + l) (i * j) := by
 unfold Bd; rw [Int.natAbs_mul]; exact a4V h1 h2
theorem Bd.add {k l : Nat} {i j : Int} (h1 : Bd k i) (h2 : Bd l j) : Bd (max k l + 1) (i + j) :=
 Nat.lt_of_le_of_lt (Int.natAbs_add_le i j) (a8M (h1.mono (Nat.le_max_left ..)) (h2.mono (Nat.le_max_right ..)))
theorem Bd.neg {k : Nat} {i : Int} (h1 : Bd k i) : Bd k (-i) := by unfold Bd; rw [Int.natAbs_neg]; exact h1
theorem Bd.sub {k l : Nat} {i j : Int} (h1 : Bd k i) (h2 : Bd l j) : Bd (max k l + 1) (i - j) := by rw [Int.sub_eq_add_neg]; exact h1.add h2.neg
theorem Bd.gcd {k : Nat} {i : Int} {j : Int} (h : Bd k j) (hj : j ≠ 0) : Bd k (Int.gcd i j : Int) := by
 have : Int.gcd i j ≤ j.natAbs := Nat.le_of_dvd (by omega) (Nat.gcd_dvd_right i.natAbs j.natAbs)
 exact Nat.lt_of_le_of_lt this h
theorem Bd.bits {k : Nat} {i : Int} (h : Bd k i) (hk : k ≤ 8000) : u4 i = true := by
 have := a0r (k := 8000) (by decide) (h.mono hk)
 exact decide_eq_true (by omega)
theorem Bd.div {k : Nat} {i : Int} (h : Bd k i) (h0 : i ≠ 0) (hk : k ≤ 8000) : A3 i = true := by
 have := a0r (k := 8000) (by decide) (h.mono hk)
 unfold A3
 rw [decide_eq_true h0, Bool.true_and]
 exact decide_eq_true (by omega)
theorem Sz.num {k : Nat} {p : Rat} (h : Sz k p) : Bd k p.num := h.1
theorem Sz.den {k : Nat} {p : Rat} (h : Sz k p) : Bd k (p.den : Int) := h.2
theorem D1 (p : Rat) : (p.den : Int) ≠ 0 := by have := p.den_nz; omega
theorem Y2 (p : Rat) : (0 : Int) < p.den := by have := p.den_nz; omega
theorem V0 (p : Rat) : p = Rat.divInt p.num p.den := (Rat.num_divInt_den p).symm
theorem Sz.mul {k l : Nat} {p q : Rat} (h1 : Sz k p) (h2 : Sz l q) : Sz (k + l) (p * q) := by
 rw [V0 p, V0 q, Rat.divInt_mul_divInt]
 exact Sz.of_divInt (Int.mul_ne_zero (D1 p) (D1 q)) (Bd.mul h1.num h2.num) (Bd.mul h1.den h2.den)
theorem Sz.add {k l : Nat} {p q : Rat} (h1 : Sz k p) (h2 : Sz l q) : Sz (k + l + 1) (p + q) := by
 rw [V0 p, V0 q, Rat.divInt_add_divInt _ _ (D1 p) (D1 q)]
 refine Sz.of_divInt (Int.mul_ne_zero (D1 p) (D1 q)) ?_ (Bd.mono (Bd.mul h1.den h2.den) (by omega))
 have e1 := Bd.mul h1.num h2.den
 have e2 := Bd.mul h2.num h1.den
 exact Bd.mono (Bd.add e1 e2) (by omega)
theorem Sz.neg {k : Nat} {p : Rat} (h : Sz k p) : Sz k (-p) := ⟨by rw [Rat.neg_num, Int.natAbs_neg]; exact h.1, h.2⟩
theorem Sz.sub {k l : Nat} {p q : Rat} (h1 : Sz k p) (h2 : Sz l q) : Sz (k + l + 1) (p - q) := by rw [Rat.sub_eq_add_neg]; exact h1.add h2.neg
theorem Sz.lit {k : Nat} {p : Rat} (h : decide (p.num.natAbs < 2 ^ k ∧ p.den < 2 ^ k) = true) : Sz k p := by unfold Sz; exact of_decide_eq_true h
theorem b1i {a b : Int} (hb : 0 < b) : (Rat.divInt a b).num = a / (Int.gcd a b : Int) := by
 rw [Rat.num_divInt, Int.gcd_comm, Int.sign_eq_one_of_pos hb, Int.one_mul]
theorem b20 {a b : Int} (hb : 0 < b) : ((Rat.divInt a b).den : Int) = b / (Int.gcd a b : Int) := by
 rw [Rat.den_divInt, if_neg (by omega), Int.gcd_comm]
 rw [Int.natCast_ediv, Int.natAbs_of_nonneg (by omega)]
end DL
namespace T
open PySem L2 DL
noncomputable abbrev gT : DT := dB (dOp pNe (dL 3) (dC (.int 0)))
noncomputable abbrev gB : DM := i4 (j5 (dOp y4 (dL 2) (dL 3)) (e7 4)) (i4 (j5 (dV 3) (e7 2)) (j5 (dV 4) (e7 3)))
theorem a7K (a b : Sl) (g r : Int) (x : Sl) (fs : Option FS) : gT ⟨[a, b, .val (.int g), .val (.int r), x], fs⟩ = some (!decide (r = 0), ⟨[a, b, .val (.int g), .val (.int r), x], fs⟩) := by
 simp [dB, dOp, dL, dC, a14]
theorem b1n (a b : Sl) (g r : Int) (x : Sl) (fs : Option FS) (h : r ≠ 0) : gB ⟨[a, b, .val (.int g), .val (.int r), x], fs⟩ =
  some (.next, ⟨[a, b, .val (.int r), .val (.int (g.fmod r)), .val (.int (g.fmod r))], fs⟩) := by
 simp [i4, C9, j5, dOp, dL, dV, e7, y4, h]
theorem b1Q (a b : Sl) (fs : Option FS) (r : Nat) : ∀ (g : Nat) (x : Sl), ∃ y, A8 gT gB ⟨[a, b, .val (.int g), .val (.int r), x], fs⟩ = some (.next, ⟨[a, b, .val (.int (Nat.gcd g r)), .val (.int 0), y], fs⟩) := by
 induction r using Nat.strongRecOn with
 | ind r ih =>
  intro g x
  by_cases h : r = 0
  ·subst h
   refine ⟨x, ?_⟩
   rw [Nat.gcd_zero_right]
   exact O8 (by rw [a7K]; rfl)
  ·have e : ((g : Int).fmod (r : Int)) = ((g % r : Nat) : Int) := by rw [Int.fmod_eq_emod_of_nonneg _ (by omega)]; rfl
   obtain ⟨y, hy⟩ := ih (g % r) (Nat.mod_lt _ (by omega)) r (.val (.int ((g : Int).fmod (r : Int))))
   refine ⟨y, ?_⟩
   have hg : Nat.gcd g r = Nat.gcd r (g % r) := by rw [Nat.gcd_comm g r, Nat.gcd_rec, Nat.gcd_comm]
   rw [hg]
   refine P6 (s1 := ⟨[a, b, .val (.int g), .val (.int r), x], fs⟩) (by rw [a7K, decide_eq_false (by omega)]; rfl) (b1n _ _ _ _ _ _ (by omega)) ?_
   rw [e] at hy ⊢
   exact hy
theorem a3L (a : Int) : (if a < 0 then -a else a) = ((a.natAbs : Nat) : Int) := by split <;> omega
theorem a2n (a b : Int) (fs : Option FS) : o9 [.int a, .int b] fs = some (.int (Int.gcd a b), fs) := by
 obtain ⟨y, hy⟩ := b1Q (.val (.int a)) (.val (.int b)) fs b.natAbs a.natAbs .no
 refine m5 (s := ⟨[.val (.int a), .val (.int b), .val (.int (Int.gcd a b)), .val (.int 0), y], fs⟩) ?_
 show a1J ⟨[.val (.int a), .val (.int b), .no, .no, .no], fs⟩ = _
 unfold a1J
 rw [i8 (s1 := ⟨[.val (.int a), .val (.int b), .val (.int a.natAbs), .no, .no], fs⟩) (by simp [j5, dCB, a7, a8, dL, one, T4, e7, a3L])]
 rw [i8 (s1 := ⟨[.val (.int a), .val (.int b), .val (.int a.natAbs), .val (.int b.natAbs), .no], fs⟩) (by simp [j5, dCB, a7, a8, dL, one, T4, e7, a3L])]
 rw [i8 hy]
 exact o6 (by simp [dV, Int.gcd])
theorem a7Q (a : Int) : Int.gcd 0 a = a.natAbs := by simp [Int.gcd]
theorem a6h (a b : Int) : Int.gcd ((a.natAbs : Nat) : Int) b = Int.gcd a b := by simp [Int.gcd]
theorem a0k (P : D) (acc x : Int) (x2 : Sl) (r : List D) (fs : Option FS) : A1 (e7 2) (a0i o9) (.int x :: r) ⟨[.val P, .val (.int acc), x2], fs⟩ = A1 (e7 2) (a0i o9) r ⟨[.val P, .val (.int (Int.gcd acc x)), .val (.int x)], fs⟩ := X3 (s1 := ⟨[.val P, .val (.int acc), .val (.int x)], fs⟩) rfl (l6 (k9 rfl (a2n acc x fs)) rfl)
theorem a4N {ds : List D} {g : Int} {x2 : Sl} {fs : Option FS} (h : A1 (e7 2) (a0i o9) ds ⟨[.val (.tup ds), .val (.int 0), .no], fs⟩ = some (.next, ⟨[.val (.tup ds), .val (.int g), x2], fs⟩)) : A4 o9 [.tup ds] fs = some (.int g, fs) := by
 refine m5 (s := ⟨[.val (.tup ds), .val (.int g), x2], fs⟩) ?_
 show a4d o9 ⟨[.val (.tup ds), .no, .no], fs⟩ = _
 unfold a4d
 have lp : G9 (dV 0) (e7 2) (a0i o9) ⟨[.val (.tup ds), .val (.int 0), .no], fs⟩ = some (.next, ⟨[.val (.tup ds), .val (.int g), x2], fs⟩) := h
 rw [i8 (s1 := ⟨[.val (.tup ds), .val (.int 0), .no], fs⟩) (l6 rfl rfl), i8 lp]
 exact o6 rfl
theorem b1h (a b : Int) (fs : Option FS) : A4 o9 [.tup [.int a, .int b]] fs = some (.int (Int.gcd a b), fs) := a4N (x2 := .val (.int b)) (by
 rw [a0k, a0k, a7Q, a6h]
 rfl)
theorem b0B (a b c : Int) (fs : Option FS) : A4 o9 [.tup [.int a, .int b, .int c]] fs = some (.int (Int.gcd (Int.gcd a b : Int) c), fs) := a4N (x2 := .val (.int c)) (by
 rw [a0k, a0k, a0k, a7Q, a6h]
 rfl)
theorem M4 {a g c : Int} (hg : g ≠ 0) (e : a = g * c) : a.fdiv g = c := by subst e; exact Int.mul_fdiv_cancel_left c hg
theorem a6W (a b : Int) (hb : b ≠ 0) : let g : Int := if b < 0 then -(Int.gcd a b : Int) else (Int.gcd a b : Int)
  g ≠ 0 ∧ a.fdiv g = (Rat.divInt a b).num ∧ b.fdiv g = ((Rat.divInt a b).den : Int) := by
 intro g
 have g0 : 0 < Int.gcd a b := Int.gcd_pos_of_ne_zero_right a hb
 obtain ⟨c, hc⟩ := Int.gcd_dvd_left a b
 obtain ⟨d, hd⟩ := Int.gcd_dvd_right a b
 have e1 : (Rat.divInt a b).num = if b < 0 then -c else c := by
  rw [Rat.num_divInt, Int.gcd_comm]
  split
  ·rename_i h
   rw [Int.sign_eq_neg_one_of_neg h]
   refine Int.ediv_eq_of_eq_mul_right (by omega) ?_
   grind
  ·rename_i h
   rw [Int.sign_eq_one_of_pos (by omega), Int.one_mul]
   exact Int.ediv_eq_of_eq_mul_right (by omega) hc
 have e2 : ((Rat.divInt a b).den : Int) = if b < 0 then -d else d := by
  rw [Rat.den_divInt, if_neg hb, Int.gcd_comm, Int.natCast_ediv]
  split
  ·refine Int.ediv_eq_of_eq_mul_right (by omega) ?_
   grind
  ·refine Int.ediv_eq_of_eq_mul_right (by omega) ?_
   grind
 rw [e1, e2]
 by_cases h : b < 0
 ·have eg : g = -(Int.gcd a b : Int) := if_pos h
  rw [eg, if_pos h, if_pos h]
  exact ⟨by omega, M4 (by omega) (by grind), M4 (by omega) (by grind)⟩
 ·have eg : g = (Int.gcd a b : Int) := if_neg h
  rw [eg, if_neg h, if_neg h]
  exact ⟨by omega, M4 (by omega) hc, M4 (by omega) hd⟩
theorem a4G {k : Nat} {a b : Int} (hb : b ≠ 0) (h : Bd k b) (hk : k ≤ 8000) : A3 (if b < 0 then -(Int.gcd a b : Int) else (Int.gcd a b : Int)) = true := by
 have g0 : 0 < Int.gcd a b := Int.gcd_pos_of_ne_zero_right a hb
 split
 ·exact (Bd.gcd h hb).neg.div (by omega) hk
 ·exact (Bd.gcd h hb).div (by omega) hk
theorem sz2 : (2 : Nat) ≤ sizeLine := by decide
theorem sz3 : (3 : Nat) ≤ sizeLine := by decide
theorem a9U (a b : D) : atI [a, b] (-1) = some b := a0v [a] b
theorem b09 (a b c : D) : atI [a, b, c] (-1) = some c := a0v [a, b] c
theorem a0a (a b : D) : atI [a, b] 0 = some a := rfl
theorem a0m (a b : D) : atI [a, b] 1 = some b := rfl
theorem a6P (a b c : D) : atI [a, b, c] 0 = some a := rfl
theorem a7G (a b c : D) : atI [a, b, c] 1 = some b := rfl
theorem a62 (a b c : D) : atI [a, b, c] 2 = some c := rfl
noncomputable abbrev FL : DFn := C3 (A4 o9)
noncomputable abbrev FF : DFn := E6 FL
theorem a3U {gg : Int} (dg : A3 gg = true) (fs : Option FS) : ∀ xs : List Int, w9 (fun d => some [.val d, .val (.int gg)]) w8 (dOp u8 (dL 0) (dL 1)) (xs.map .int) fs = some (xs.map (fun x => .int (x.fdiv gg)), fs)
 | [] => rfl
 | x :: r => by
  have e : dOp u8 (dL 0) (dL 1) ⟨[.val (.int x), .val (.int gg)], fs⟩ = some (.int (x.fdiv gg), ⟨[.val (.int x), .val (.int gg)], fs⟩) := c6 rfl rfl (if_pos dg)
  have ih := a3U dg fs r
  rw [List.map_cons, w9, Option.bind_some]
  show ((dOp u8 (dL 0) (dL 1) ⟨[.val (.int x), .val (.int gg)], fs⟩).bind _) = _
  rw [e, Option.bind_some]
  show (w9 _ w8 _ (r.map .int) fs).map _ = _
  rw [ih]
  rfl
theorem a8X {ds : List D} {d g : Int} (h : atI ds (-1) = some (.int d)) (fs : Option FS) : n0 (dB (dOp (n8 (fun i j => decide (i < j))) (dOp pIx (dL 0) (dUn t7 (dC (.int 1)))) (dC (.int 0)))) (j5 (dUn t7 (dL 1)) (e7 1)) o8 ⟨[.val (.tup ds), .val (.int g)], fs⟩ = some (.next, ⟨[.val (.tup ds), .val (.int (if d < 0 then -g else g))], fs⟩) := by
 have t : dB (dOp (n8 (fun i j => decide (i < j))) (dOp pIx (dL 0) (dUn t7 (dC (.int 1)))) (dC (.int 0))) ⟨[.val (.tup ds), .val (.int g)], fs⟩ = some (decide (d < 0), ⟨[.val (.tup ds), .val (.int g)], fs⟩) := y8 (c6 (c6 rfl rfl (show pIx (.tup ds) (.int (-1)) = some (.int d) from h)) rfl rfl)
 by_cases nb : d < 0
 ·rw [decide_eq_true nb] at t
  rw [if_pos nb, K2 t]
  rfl
 ·rw [decide_eq_false nb] at t
  rw [if_neg nb, a2v t]
  rfl
theorem a6k {xs : List Int} {d g : Int} (fs : Option FS) (hl : xs.length ≤ 10) (hd : A4 o9 [.tup (xs.map .int)] fs = some (.int g, fs)) (h : atI (xs.map D.int) (-1) = some (.int d)) (dg : A3 (if d < 0 then -g else g) = true) : FL [.tup (xs.map .int)] fs = some (.tup (xs.map fun x => .int (x.fdiv (if d < 0 then -g else g))), fs) := by
 have nf := a8X (g := g) h fs
 have cd := a3U dg fs xs
 have ll : (xs.map D.int).length ≤ sizeLine := Nat.le_trans (by rw [List.length_map]; exact hl) (show 10 ≤ sizeLine by decide)
 generalize xs.map D.int = ds at *
 generalize (if d < 0 then -g else g) = gg at *
 refine m5 (s := ⟨[.val (.tup ds), .val (.int gg)], fs⟩) ?_
 show a4s (A4 o9) ⟨[.val (.tup ds), .no], fs⟩ = _
 unfold a4s
 rw [i8 (s1 := ⟨[.val (.tup ds), .val (.int g)], fs⟩) (l6 (k9 rfl hd) rfl), i8 nf]
 exact o6 (C5 (p := D5) (A7 (U2 (idx := [1]) (ds := ds) (s1 := ⟨[.val (.tup ds), .val (.int gg)], fs⟩) rfl ll cd)) rfl)
theorem a93 {k : Nat} (a b : Int) (fs : Option FS) (hb : b ≠ 0) (h : Bd k b) (hk : k ≤ 8000) : FL [.tup [.int a, .int b]] fs = some (fr (Rat.divInt a b), fs) := by
 obtain ⟨p0, p1, p2⟩ := a6W a b hb
 have e := a6k (xs := [a, b]) (d := b) fs (show 2 ≤ 10 by decide) (b1h a b fs) (a9U _ _) (a4G (a := a) hb h hk)
 unfold fr
 rw [← p1, ← p2]
 exact e
theorem Z9 {k : Nat} (a b : Int) (fs : Option FS) (hb : b ≠ 0) (h : Bd k b) (hk : k ≤ 8000) : FF [.int a, .int b] fs = some (fr (Rat.divInt a b), fs) := by
 refine m5 (s := ⟨[.val (.int a), .val (.int b)], fs⟩) ?_
 show a5v FL ⟨[.val (.int a), .val (.int b)], fs⟩ = _
 exact o6 (k9 (j8 (u9 rfl rfl) rfl) (a93 a b fs hb h hk))
theorem a5O (p q : Rat) : p + q = Rat.divInt (p.num * q.den + q.num * p.den) (p.den * q.den) := by
 rw [Rat.add_def', ← Rat.divInt_ofNat]; rfl
theorem a2G (p q : Rat) : p * q = Rat.divInt (p.num * q.num) (p.den * q.den) := by
 rw [Rat.mul_def', ← Rat.divInt_ofNat]; rfl
theorem a0F (p q : Rat) : (p.den : Int) * q.den ≠ 0 := Int.mul_ne_zero (D1 p) (D1 q)
noncomputable abbrev FP : DFn := D7 o9
noncomputable abbrev FX : DFn := W9 FP
noncomputable abbrev FT : DFn := a1b FF
theorem b2A {k l : Nat} (p q : Rat) (fs : Option FS) (h1 : Sz k p) (h2 : Sz l q) (hk : k + l ≤ 8000) : FT [fr p, fr q] fs = some (fr (p * q), fs) := by
 have b1 := h1.num.bits (by omega)
 have b2 := h1.den.bits (by omega)
 have b3 := h2.num.bits (by omega)
 have b4 := h2.den.bits (by omega)
 have e := Z9 (p.num * q.num) (p.den * q.den) fs (a0F p q) (Bd.mul h1.den h2.den) hk
 rw [← a2G] at e
 refine m5 (s := ⟨[.val (fr p), .val (fr q)], fs⟩) ?_
 show a3D FF ⟨[.val (fr p), .val (fr q)], fs⟩ = _
 simp [a3D, i4, C9, j5, dOp, dUn, dC, dL, dV, e7, n0, dB, k0, c9, a7, a8, e8, o8, dCB, one, p7, p9, dIf, A6, dOr, C8, E7, F1, F0, pIx, n9, v8, t7, n8, u3, u5, m8, u6, C1, dTr, E2, fr, a0a, a0m, l4, b1, b2, b3, b4, e]
theorem a92 (p q : Rat) : decide (p.num * q.den < q.num * p.den) = decide (p < q) := by
 congr 1; exact propext (Rat.lt_iff p q).symm
theorem U9 {k l : Nat} (p q : Rat) (fs : Option FS) (h1 : Sz k p) (h2 : Sz l q) (hk : k + l ≤ 8000) : w6 [fr p, fr q] fs = some (.bl (decide (p < q)), fs) := by
 have b1 := h1.num.bits (by omega)
 have b2 := h1.den.bits (by omega)
 have b3 := h2.num.bits (by omega)
 have b4 := h2.den.bits (by omega)
 refine m5 (s := ⟨[.val (fr p), .val (fr q)], fs⟩) ?_
 show a2d ⟨[.val (fr p), .val (fr q)], fs⟩ = _
 rw [← a92]
 simp [a2d, i4, C9, j5, dOp, dUn, dC, dL, dV, e7, n0, dB, k0, c9, a7, a8, e8, o8, dCB, one, p7, p9, dIf, A6, dOr, C8, E7, F1, F0, pIx, n9, v8, t7, n8, u3, u5, m8, u6, C1, dTr, E2, fr, a0a, a0m, l4, b1, b2, b3, b4]
theorem b0o (p q : Rat) : let g := Nat.gcd p.den q.den
  let top := p.num * ((q.den / g : Nat) : Int) + q.num * ((p.den / g : Nat) : Int)
  let tk := Nat.gcd top.natAbs g
  0 < g ∧ 0 < tk ∧ (p + q).num = top / (tk : Int) ∧ (p + q).den = p.den / g * (q.den / tk) ∧ tk ≤ g ∧ g ≤ q.den := by
 intro g top tk
 have g0 : 0 < g := Nat.gcd_pos_of_pos_left _ (by have := p.den_nz; omega)
 have t0 : 0 < tk := Nat.gcd_pos_of_pos_right _ g0
 obtain ⟨a, ha⟩ := Nat.gcd_dvd_left p.den q.den
 obtain ⟨b, hb⟩ := Nat.gcd_dvd_right p.den q.den
 have ea : p.den / g = a := Nat.div_eq_of_eq_mul_right g0 ha
 have eb : q.den / g = b := Nat.div_eq_of_eq_mul_right g0 hb
 have aux : top.natAbs.gcd g = top.natAbs.gcd (p.den / g * q.den) := Rat.add.aux p q rfl rfl rfl
 have a0 : 0 < a := by
  rcases Nat.eq_zero_or_pos a with z | z
  ·rw [z, Nat.mul_zero] at ha; exact absurd ha p.den_nz
  ·exact z
 have dn : p.den / g * q.den ≠ 0 := by
  rw [ea]; exact Nat.mul_ne_zero (by omega) q.den_nz
 have ev : p + q = mkRat top (p.den / g * q.den) := by
  rw [Rat.add_def', Rat.mkRat_eq_iff (Nat.mul_ne_zero p.den_nz q.den_nz) dn]
  show (p.num * q.den + q.num * p.den) * ((p.den / g * q.den : Nat) : Int) = (p.num * ((q.den / g : Nat) : Int) + q.num * ((p.den / g : Nat) : Int)) * ((p.den * q.den : Nat) : Int)
  rw [ea, eb]
  have ha' : (p.den : Int) = (g : Int) * a := by exact_mod_cast ha
  have hb' : (q.den : Int) = (g : Int) * b := by exact_mod_cast hb
  push_cast
  rw [ha', hb']
  grind
 have tkd : tk = Nat.gcd (p.den / g * q.den) top.natAbs := by rw [Nat.gcd_comm]; exact aux
 refine ⟨g0, t0, ?_, ?_, Nat.le_of_dvd g0 (Nat.gcd_dvd_right ..), Nat.le_of_dvd (by have := q.den_nz; omega) (Nat.gcd_dvd_right ..)⟩
 ·rw [ev, Rat.num_mkRat, if_neg dn, ← tkd]
 ·rw [ev, Rat.den_mkRat, if_neg dn, ← tkd]
  exact Nat.mul_div_assoc _ (Nat.dvd_trans (Nat.gcd_dvd_right _ _) (Nat.gcd_dvd_right _ _))
theorem a7w (a : Int) (n : Nat) : a.fdiv (n : Int) = a / (n : Int) := Int.fdiv_eq_ediv_of_nonneg a (by omega)
theorem b0n (a n : Nat) : (a : Int).fdiv (n : Int) = ((a / n : Nat) : Int) := by rw [a7w]; rfl
theorem W8 {k l : Nat} (p q : Rat) (fs : Option FS) (h1 : Sz k p) (h2 : Sz l q) (hk : k + l ≤ 8000) : FP [fr p, fr q] fs = some (fr (p + q), fs) := by
 obtain ⟨g0, t0, e1, e2, tg, gq⟩ := b0o p q
 have b1 := h1.num.bits (by omega)
 have b3 := h2.num.bits (by omega)
 have gI : ((Int.gcd (p.den : Int) (q.den : Int) : Nat)) = Nat.gcd p.den q.den := rfl
 have bdd : ∀ n : Nat, n ≤ q.den → Bd l (n : Int) := fun n hn => Nat.lt_of_le_of_lt hn h2.2
 have dg : A3 ((Nat.gcd p.den q.den : Nat) : Int) = true := (bdd _ gq).div (by omega) (by omega)
 have dt := (bdd _ (Nat.le_trans tg gq)).div (by omega) (by omega)
 have c1 : u4 ((q.den / Nat.gcd p.den q.den : Nat) : Int) = true := (bdd _ (Nat.div_le_self ..)).bits (by omega)
 have bpd : Bd k ((p.den / Nat.gcd p.den q.den : Nat) : Int) := Nat.lt_of_le_of_lt (Nat.div_le_self ..) h1.2
 have c2 := bpd.bits (by omega)
 generalize hg : Nat.gcd p.den q.den = g at *
 generalize ht : p.num * ((q.den / g : Nat) : Int) + q.num * ((p.den / g : Nat) : Int) = top at *
 have gI2 : Int.gcd top (g : Int) = Nat.gcd top.natAbs g := rfl
 generalize htk : Nat.gcd top.natAbs g = tk at *
 have c3 : u4 ((q.den / tk : Nat) : Int) = true := (bdd _ (Nat.div_le_self ..)).bits (by omega)
 have hmX9 : ∀ {a b : Int}, u4 a = true → u4 b = true → l4 (.int a) (.int b) = some (.int (a * b)) := fun h1 h2 => if_pos (by rw [h1, h2]; rfl)
 have dX : ∀ (a n : Nat), A3 (n : Int) = true → u8 (.int (a : Int)) (.int (n : Int)) = some (.int ((a / n : Nat) : Int)) := fun a n h => (if_pos h).trans (by rw [b0n])
 have d1 : o9 [.int (p.den : Int), .int (q.den : Int)] fs = some (.int (g : Int), fs) := (a2n _ _ fs).trans (by rw [gI])
 have d2 : o9 [.int top, .int (g : Int)] fs = some (.int (tk : Int), fs) := (a2n _ _ fs).trans (by rw [gI2])
 have ef : fr (p + q) = .tup [.int (top / (tk : Int)), .int (((p.den / g : Nat) : Int) * ((q.den / tk : Nat) : Int))] := by unfold fr; rw [e1, e2, Int.natCast_mul]
 refine m5 (s := ⟨[.val (fr p), .val (fr q), .val (.int g), .val (.int top), .val (.int tk)], fs⟩) ?_
 show a3I o9 ⟨[.val (fr p), .val (fr q), .no, .no, .no], fs⟩ = _
 unfold a3I
 rw [i8 (s1 := ⟨[.val (fr p), .val (fr q), .val (.int g), .no, .no], fs⟩) (l6 (k9 (j8 (c6 rfl rfl rfl) (j8 (c6 rfl rfl rfl) rfl)) d1) rfl),
  i8 (s1 := ⟨[.val (fr p), .val (fr q), .val (.int g), .val (.int top), .no], fs⟩) (l6 (c6 (c6 (c6 rfl rfl rfl) (c6 (c6 rfl rfl rfl) rfl (dX _ _ dg)) (hmX9 b1 c1)) (c6 (c6 rfl rfl rfl) (c6 (c6 rfl rfl rfl) rfl (dX _ _ dg)) (hmX9 b3 c2)) (show some (D.int _) = some (.int top) by rw [← ht])) rfl),
  i8 (s1 := ⟨[.val (fr p), .val (fr q), .val (.int g), .val (.int top), .val (.int tk)], fs⟩) (l6 (k9 (j8 rfl (j8 rfl rfl)) d2) rfl), ef]
 exact o6 (u9 (c6 rfl rfl ((if_pos dt).trans (by rw [a7w]))) (c6 (c6 (c6 rfl rfl rfl) rfl (dX _ _ dg)) (c6 (c6 rfl rfl rfl) rfl (dX _ _ dt)) (hmX9 c2 c3)))
theorem a2D {k l : Nat} (p q : Rat) (fs : Option FS) (h1 : Sz k p) (h2 : Sz l q) (hk : k + l ≤ 8000) : FX [fr p, fr q] fs = some (fr (p - q), fs) := by
 have e := W8 p (-q) fs h1 h2.neg hk
 rw [← Rat.sub_eq_add_neg] at e
 refine m5 (s := ⟨[.val (fr p), .val (fr q)], fs⟩) ?_
 show a2y FP ⟨[.val (fr p), .val (fr q)], fs⟩ = _
 simp only [fr, Rat.neg_num, Rat.neg_den] at e
 simp [a2y, i4, C9, j5, dOp, dUn, dC, dL, dV, e7, n0, dB, k0, c9, a7, a8, e8, o8, dCB, one, p7, p9, dIf, A6, dOr, C8, E7, F1, F0, pIx, n9, v8, t7, n8, u3, u5, m8, u6, C1, dTr, E2, fr, a0a, a0m, sz2, e]
theorem a5h (a : Int) {b : Int} (h : A3 b = true) : u8 (.int a) (.int b) = some (.int (a.fdiv b)) := by simp [u8, h]
theorem r8 {a b : Int} (h1 : u4 a = true) (h2 : u4 b = true) : l4 (.int a) (.int b) = some (.int (a * b)) := by simp [l4, h1, h2]
theorem L0 {α : Type} {xs : List α} {r : Int} (h0 : 0 ≤ r) (h1 : r < xs.length) : ∃ x, x ∈ xs ∧ atI xs r = some x := by
 refine ⟨xs[r.toNat]'(by omega), List.getElem_mem _, ?_⟩
 rw [a11 h0 h1, List.getElem?_eq_getElem]
end T
namespace DL
open PySem L2
noncomputable abbrev Pt := Rat × Rat
noncomputable def pL (a : Pt) : Int := ((Nat.lcm a.1.den a.2.den : Nat) : Int)
noncomputable def pX (a : Pt) : Int := a.1.num * ((Nat.lcm a.1.den a.2.den / a.1.den : Nat) : Int)
noncomputable def pY (a : Pt) : Int := a.2.num * ((Nat.lcm a.1.den a.2.den / a.2.den : Nat) : Int)
noncomputable def pt (a : Pt) : D := .tup [.int (pX a), .int (pY a), .int (pL a)]
theorem lcm_pos (p q : Rat) : 0 < Nat.lcm p.den q.den := Nat.lcm_pos (by have := p.den_nz; omega) (by have := q.den_nz; omega)
theorem b0R (a : Pt) : 0 < pL a := by have := lcm_pos a.1 a.2; unfold pL; omega
theorem K6 (a : Pt) : pL a ≠ 0 := by have := b0R a; omega
theorem M6 (a : Pt) : (pL a : Rat) ≠ 0 := fun h => K6 a (Rat.intCast_eq_zero_iff.mp h)
theorem Q6 (p : Rat) : (p.num : Rat) = p * ((p.den : Int) : Rat) := by
 have e := Rat.num_divInt_den p
 rw [Rat.divInt_eq_div] at e
 have hd : ((p.den : Int) : Rat) ≠ 0 := fun h => D1 p (Rat.intCast_eq_zero_iff.mp h)
 have : (p.num : Rat) / ((p.den : Int) : Rat) * ((p.den : Int) : Rat) = (p.num : Rat) := Rat.div_mul_cancel hd
 rw [e] at this
 exact this.symm
theorem X0 (a : Pt) : (pX a : Rat) = a.1 * (pL a : Rat) := by
 unfold pX pL
 obtain ⟨c, hc⟩ := Nat.dvd_lcm_left a.1.den a.2.den
 have hd := a.1.den_nz
 have e : Nat.lcm a.1.den a.2.den / a.1.den = c := Nat.div_eq_of_eq_mul_right (by omega) hc
 rw [e, hc, Int.natCast_mul, Rat.intCast_mul, Rat.intCast_mul, Q6]
 grind
theorem V3 (a : Pt) : (pY a : Rat) = a.2 * (pL a : Rat) := by
 unfold pY pL
 obtain ⟨c, hc⟩ := Nat.dvd_lcm_right a.1.den a.2.den
 have hd := a.2.den_nz
 have e : Nat.lcm a.1.den a.2.den / a.2.den = c := Nat.div_eq_of_eq_mul_right (by omega) hc
 rw [e, hc, Int.natCast_mul, Rat.intCast_mul, Rat.intCast_mul, Q6]
 grind
theorem a5M {x d : Int} {p : Rat} (hd : 0 < d) (h : (x : Rat) = p * (d : Rat)) : ∃ c : Int, d = p.den * c ∧ x = p.num * c := by
 have h1 : x * p.den = p.num * d := by
  have e := Q6 p
  have : ((x * p.den : Int) : Rat) = ((p.num * d : Int) : Rat) := by
   rw [Rat.intCast_mul, Rat.intCast_mul, h, e]; grind
  exact Rat.intCast_inj.mp this
 have dv : (p.den : Int) ∣ p.num * d := ⟨x, by rw [← h1, Int.mul_comm]⟩
 have dv2 : p.den ∣ p.num.natAbs * d.natAbs := by
  have := Int.natAbs_dvd_natAbs.mpr dv
  rwa [Int.natAbs_mul, Int.natAbs_natCast] at this
 have dv3 : p.den ∣ d.natAbs := Nat.Coprime.dvd_of_dvd_mul_left (Nat.Coprime.symm p.reduced) dv2
 obtain ⟨c, hc⟩ : (p.den : Int) ∣ d := Int.dvd_natAbs.mp (Int.ofNat_dvd.mpr dv3)
 refine ⟨c, hc, ?_⟩
 have hp := Y2 p
 have : (p.den : Int) * x = p.den * (p.num * c) := by rw [Int.mul_comm, h1, hc]; grind
 exact Int.eq_of_mul_eq_mul_left (by omega) this
theorem a5P {x y d : Int} {a : Pt} (hd : 0 < d) (hg : Int.gcd (Int.gcd x y : Int) d = 1) (hx : (x : Rat) = a.1 * (d : Rat)) (hy : (y : Rat) = a.2 * (d : Rat)) : x = pX a ∧ y = pY a ∧ d = pL a := by
 obtain ⟨c1, e1, f1⟩ := a5M hd hx
 obtain ⟨c2, e2, f2⟩ := a5M hd hy
 obtain ⟨D, rfl⟩ := Int.eq_ofNat_of_zero_le (show 0 ≤ d by omega)
 have dl : Nat.lcm a.1.den a.2.den ∣ D := Nat.lcm_dvd (Int.ofNat_dvd.mp ⟨c1, e1⟩) (Int.ofNat_dvd.mp ⟨c2, e2⟩)
 obtain ⟨m, hm⟩ := dl
 have key : ∀ z : Int, ∀ r : Rat, (z : Rat) = r * ((D : Int) : Rat) → ∀ w : Int, (w : Rat) = r * (pL a : Rat) → z = w * m := by
  intro z r h1 w h2
  have : (z : Rat) = ((w * m : Int) : Rat) := by
   rw [h1, Rat.intCast_mul, h2, hm]
   have : (((Nat.lcm a.1.den a.2.den * m : Nat) : Int) : Rat) = (pL a : Rat) * ((m : Int) : Rat) := by
    rw [Int.natCast_mul, Rat.intCast_mul]; rfl
   rw [this]; grind
  exact Rat.intCast_inj.mp this
 have kx := key x a.1 hx (pX a) (X0 a)
 have ky := key y a.2 hy (pY a) (V3 a)
 have kd : (D : Int) = pL a * m := by rw [hm, Int.natCast_mul]; rfl
 have m1 : (m : Int) ∣ 1 := by
  have h : (m : Int) ∣ (Int.gcd (Int.gcd x y : Int) (D : Int) : Int) := by
   refine Int.dvd_coe_gcd (Int.dvd_coe_gcd ?_ ?_) ?_
   ·exact ⟨pX a, by rw [kx, Int.mul_comm]⟩
   ·exact ⟨pY a, by rw [ky, Int.mul_comm]⟩
   ·exact ⟨pL a, by rw [kd, Int.mul_comm]⟩
  rwa [hg] at h
 have m2 : m = 1 := Nat.eq_one_of_dvd_one (Int.ofNat_dvd.mp m1)
 subst m2
 exact ⟨by rw [kx]; simp, by rw [ky]; simp, by rw [kd]; simp⟩
structure Ps (k : Nat) (a : Pt) : Prop where
 x : Bd k (pX a)
 y : Bd k (pY a)
 l : Bd k (pL a)
theorem Ps.of {k l : Nat} {a : Pt} (h1 : Sz k a.1) (h2 : Sz l a.2) : Ps (k + l) a := by
 have hl : Nat.lcm a.1.den a.2.den ≤ a.1.den * a.2.den := Nat.le_of_dvd (Nat.mul_pos (by have := a.1.den_nz; omega) (by have := a.2.den_nz; omega)) (Nat.lcm_dvd_mul ..)
 have b := a4V h1.2 h2.2
 have dl : Nat.lcm a.1.den a.2.den / a.1.den ≤ a.2.den := by
  rw [Nat.div_le_iff_le_mul_add_pred (by have := a.1.den_nz; omega)]; omega
 have dr : Nat.lcm a.1.den a.2.den / a.2.den ≤ a.1.den := by
  rw [Nat.div_le_iff_le_mul_add_pred (by have := a.2.den_nz; omega), Nat.mul_comm a.2.den]; omega
 refine ⟨?_, ?_, ?_⟩
 ·exact Bd.mul h1.num (show Bd l ((_ : Nat) : Int) from Nat.lt_of_le_of_lt dl h2.2)
 ·have := Bd.mul h2.num (show Bd k ((_ : Nat) : Int) from Nat.lt_of_le_of_lt dr h1.2)
  rw [Nat.add_comm]; exact this
 ·exact Nat.lt_of_le_of_lt hl b
end DL
namespace T
open PySem L2 DL
theorem a5L (x y d : Int) (hd : d ≠ 0) : let G : Nat := Int.gcd (Int.gcd x y : Int) d
  let g : Int := if d < 0 then -(G : Int) else (G : Int)
  g ≠ 0 ∧ x.fdiv g = pX (Rat.divInt x d, Rat.divInt y d) ∧ y.fdiv g = pY (Rat.divInt x d, Rat.divInt y d) ∧ d.fdiv g = pL (Rat.divInt x d, Rat.divInt y d) := by
 intro G g
 have g0 : 0 < G := Int.gcd_pos_of_ne_zero_right _ hd
 obtain ⟨d', ed⟩ := Int.gcd_dvd_right (Int.gcd x y : Int) d
 have h1 := Int.gcd_dvd_left (Int.gcd x y : Int) d
 obtain ⟨x', ex⟩ := Int.dvd_trans h1 (Int.gcd_dvd_left ..)
 obtain ⟨y', ey⟩ := Int.dvd_trans h1 (Int.gcd_dvd_right ..)
 replace ed : d = (G : Int) * d' := ed
 replace ex : x = (G : Int) * x' := ex
 replace ey : y = (G : Int) * y' := ey
 have cop : Int.gcd (Int.gcd x' y' : Int) d' = 1 := by
  have e1 : Int.gcd x y = G * Int.gcd x' y' := by
   have := Int.gcd_mul_left (m := (G : Int)) (n := x') (k := y')
   rw [← ex, ← ey] at this; exact this
  have e2 : Int.gcd (Int.gcd x y : Int) d = G * Int.gcd (Int.gcd x' y' : Int) d' := by
   have := Int.gcd_mul_left (m := (G : Int)) (n := (Int.gcd x' y' : Int)) (k := d')
   rw [← ed, ← Int.natCast_mul, ← e1] at this; exact this
  have e3 : G * Int.gcd (Int.gcd x' y' : Int) d' = G * 1 := by rw [← e2, Nat.mul_one]
  exact Nat.eq_of_mul_eq_mul_left g0 e3
 have hdr : (d : Rat) ≠ 0 := fun h => hd (Rat.intCast_eq_zero_iff.mp h)
 have hGr : ((G : Int) : Rat) ≠ 0 := fun h => by have := Rat.intCast_eq_zero_iff.mp h; omega
 have vx : ∀ z z' : Int, z = (G : Int) * z' → (z' : Rat) = Rat.divInt z d * (d' : Rat) := fun z z' e => by
  rw [Rat.divInt_eq_div]
  have ed' : (d : Rat) = ((G : Int) : Rat) * (d' : Rat) := by rw [← Rat.intCast_mul]; exact congrArg _ ed
  have ez' : (z : Rat) = ((G : Int) : Rat) * (z' : Rat) := by rw [← Rat.intCast_mul]; exact congrArg _ e
  have hd'r : (d' : Rat) ≠ 0 := fun h => hdr (by rw [ed', h]; grind)
  rw [ez', ed']
  grind
 by_cases h : d < 0
 ·have eg : g = -(G : Int) := if_pos h
  have dn : 0 < -d' := by
   rcases Int.lt_or_le d' 0 with z | z
   ·omega
   ·have : 0 ≤ (G : Int) * d' := Int.mul_nonneg (by omega) z
    omega
  obtain ⟨q1, q2, q3⟩ := a5P (x := -x') (y := -y') (d := -d') (a := (Rat.divInt x d, Rat.divInt y d)) dn (by
   have : Int.gcd (-x') (-y') = Int.gcd x' y' := by simp [Int.gcd]
   rw [this]
   have : Int.gcd (Int.gcd x' y' : Int) (-d') = Int.gcd (Int.gcd x' y' : Int) d' := by simp [Int.gcd]
   rw [this]; exact cop) (by rw [Rat.intCast_neg, Rat.intCast_neg, vx x x' ex]; grind) (by rw [Rat.intCast_neg, Rat.intCast_neg, vx y y' ey]; grind)
  rw [eg, ← q1, ← q2, ← q3]
  exact ⟨by omega, M4 (by omega) (by grind), M4 (by omega) (by grind), M4 (by omega) (by grind)⟩
 ·have eg : g = (G : Int) := if_neg h
  have dp : 0 < d' := by
   rcases Int.lt_or_le 0 d' with z | z
   ·exact z
   ·have : (G : Int) * d' ≤ G * 0 := Int.mul_le_mul_of_nonneg_left z (by omega)
    omega
  obtain ⟨q1, q2, q3⟩ := a5P (x := x') (y := y') (d := d') (a := (Rat.divInt x d, Rat.divInt y d)) dp cop (vx x x' ex) (vx y y' ey)
  rw [eg, ← q1, ← q2, ← q3]
  exact ⟨by omega, M4 (by omega) ex, M4 (by omega) ey, M4 (by omega) ed⟩
theorem a5E {k : Nat} {x y d : Int} (hd : d ≠ 0) (h : Bd k d) (hk : k ≤ 8000) : A3 (if d < 0 then -(Int.gcd (Int.gcd x y : Int) d : Int) else (Int.gcd (Int.gcd x y : Int) d : Int)) = true := a4G (a := (Int.gcd x y : Int)) hd h hk
theorem a4m {k : Nat} (x y d : Int) (fs : Option FS) (hd : d ≠ 0) (h : Bd k d) (hk : k ≤ 8000) : FL [.tup [.int x, .int y, .int d]] fs = some (pt (Rat.divInt x d, Rat.divInt y d), fs) := by
 obtain ⟨p0, p1, p2, p3⟩ := a5L x y d hd
 have e := a6k (xs := [x, y, d]) (d := d) fs (show 3 ≤ 10 by decide) (b0B x y d fs) (b09 _ _ _) (a5E (x := x) (y := y) hd h hk)
 unfold pt
 rw [← p1, ← p2, ← p3]
 exact e
theorem a5Z (p q : Rat) : Rat.divInt (p.num * q.den) (p.den * q.den) = p := by
 rw [Rat.divInt_mul_right (D1 q), Rat.num_divInt_den]
theorem a6z (p q : Rat) : Rat.divInt (q.num * p.den) (p.den * q.den) = q := by
 rw [Int.mul_comm (p.den : Int), Rat.divInt_mul_right (D1 p), Rat.num_divInt_den]
theorem a77 {k l : Nat} (p q : Rat) (fs : Option FS) (h1 : Sz k p) (h2 : Sz l q) (hk : k + l ≤ 8000) : P0 FL [fr p, fr q] fs = some (pt (p, q), fs) := by
 have b1 := h1.num.bits (by omega)
 have b2 := h1.den.bits (by omega)
 have b3 := h2.num.bits (by omega)
 have b4 := h2.den.bits (by omega)
 have e := a4m (p.num * q.den) (q.num * p.den) (p.den * q.den) fs (a0F p q) (Bd.mul h1.den h2.den) hk
 rw [a5Z, a6z] at e
 refine m5 (s := ⟨[.val (fr p), .val (fr q)], fs⟩) ?_
 show a1Y FL ⟨[.val (fr p), .val (fr q)], fs⟩ = _
 simp [a1Y, i4, C9, j5, dOp, dUn, dC, dL, dV, e7, n0, dB, k0, c9, a7, a8, e8, o8, dCB, one, p7, p9, dIf, A6, dOr, C8, E7, F1, F0, pIx, n9, v8, t7, n8, u3, u5, m8, u6, C1, dTr, E2, fr, a0a, a0m, l4, b1, b2, b3, b4, sz3, e]
theorem px_div (a : Pt) : Rat.divInt (pX a) (pL a) = a.1 := by
 rw [Rat.divInt_eq_div, X0, Rat.mul_div_cancel (M6 a)]
theorem py_div (a : Pt) : Rat.divInt (pY a) (pL a) = a.2 := by
 rw [Rat.divInt_eq_div, V3, Rat.mul_div_cancel (M6 a)]
theorem b3u {k : Nat} (a : Pt) (fs : Option FS) (h : Ps k a) (hk : k ≤ 8000) : N8 FF [pt a] fs = some (fr a.1, fs) := by
 have e := Z9 (pX a) (pL a) fs (K6 a) h.l hk
 rw [px_div] at e
 refine m5 (s := ⟨[.val (pt a)], fs⟩) ?_
 show a1N FF ⟨[.val (pt a)], fs⟩ = _
 simp [a1N, i4, C9, j5, dOp, dUn, dC, dL, dV, e7, n0, dB, k0, c9, a7, a8, e8, o8, dCB, one, p7, p9, dIf, A6, dOr, C8, E7, F1, F0, pIx, n9, v8, t7, n8, u3, u5, m8, u6, C1, dTr, E2, pt, a6P, a7G, a62, e]
theorem pup {k : Nat} (a : Pt) (fs : Option FS) (h : Ps k a) (hk : k ≤ 8000) : P5 FF [pt a] fs = some (fr a.2, fs) := by
 have e := Z9 (pY a) (pL a) fs (K6 a) h.l hk
 rw [py_div] at e
 refine m5 (s := ⟨[.val (pt a)], fs⟩) ?_
 show a31 FF ⟨[.val (pt a)], fs⟩ = _
 simp [a31, i4, C9, j5, dOp, dUn, dC, dL, dV, e7, n0, dB, k0, c9, a7, a8, e8, o8, dCB, one, p7, p9, dIf, A6, dOr, C8, E7, F1, F0, pIx, n9, v8, t7, n8, u3, u5, m8, u6, C1, dTr, E2, pt, a6P, a7G, a62, e]
end T
namespace DL
noncomputable def dsq (a b : Pt) : Rat := (a.1 - b.1) * (a.1 - b.1) + (a.2 - b.2) * (a.2 - b.2)
theorem a7X (x : Rat) : 0 ≤ x * x := by
 rcases Rat.le_total (a := 0) (b := x) with h | h
 ·exact Rat.mul_nonneg h h
 ·have := Rat.mul_nonneg (a := -x) (b := -x) (by grind) (by grind)
  grind
end DL
namespace T
open PySem L2 DL
theorem b0S {k : Nat} (a b : Pt) (fs : Option FS) (ha : Ps k a) (hb : Ps k b) (hk : k ≤ 1500) : L8 FF [pt a, pt b] fs = some (fr (dsq a b), fs) := by
 have a1 := ha.x.bits (by omega)
 have a2 := ha.y.bits (by omega)
 have a3 := ha.l.bits (by omega)
 have b1 := hb.x.bits (by omega)
 have b2 := hb.y.bits (by omega)
 have b3 := hb.l.bits (by omega)
 have w1 := ((ha.x.mul hb.l).sub (hb.x.mul ha.l)).bits (by omega)
 have w2 := ((ha.y.mul hb.l).sub (hb.y.mul ha.l)).bits (by omega)
 have w3 := (ha.l.mul hb.l).bits (by omega)
 have ne : pL a * pL b * (pL a * pL b) ≠ 0 := Int.mul_ne_zero (Int.mul_ne_zero (K6 a) (K6 b)) (Int.mul_ne_zero (K6 a) (K6 b))
 have e := Z9 ((pX a * pL b - pX b * pL a) * (pX a * pL b - pX b * pL a) + (pY a * pL b - pY b * pL a) * (pY a * pL b - pY b * pL a)) (pL a * pL b * (pL a * pL b)) fs ne ((ha.l.mul hb.l).mul (ha.l.mul hb.l)) (by omega)
 have v : Rat.divInt ((pX a * pL b - pX b * pL a) * (pX a * pL b - pX b * pL a) + (pY a * pL b - pY b * pL a) * (pY a * pL b - pY b * pL a)) (pL a * pL b * (pL a * pL b)) = dsq a b := by
  rw [Rat.divInt_eq_div]
  simp only [Rat.intCast_add, Rat.intCast_sub, Rat.intCast_mul, X0, V3, dsq]
  have := M6 a
  have := M6 b
  grind
 rw [v] at e
 refine m5 (s := ⟨[.val (pt a), .val (pt b), .val (.int (pX a * pL b - pX b * pL a)), .val (.int (pY a * pL b - pY b * pL a)), .val (.int (pL a * pL b))], fs⟩) ?_
 show a2I FF ⟨[.val (pt a), .val (pt b), .no, .no, .no], fs⟩ = _
 unfold a2I
 have x : ∀ p : Pt, pIx (pt p) (.int 0) = some (.int (pX p)) := fun _ => rfl
 have y : ∀ p : Pt, pIx (pt p) (.int 1) = some (.int (pY p)) := fun _ => rfl
 have l : ∀ p : Pt, pIx (pt p) (.int 2) = some (.int (pL p)) := fun _ => rfl
 rw [i8 (s1 := ⟨[.val (pt a), .val (pt b), .val (.int (pX a * pL b - pX b * pL a)), .no, .no], fs⟩) (l6 (c6 (c6 (c6 rfl rfl (x a)) (c6 rfl rfl (l b)) (r8 a1 b3)) (c6 (c6 rfl rfl (x b)) (c6 rfl rfl (l a)) (r8 b1 a3)) rfl) rfl),
  i8 (s1 := ⟨[.val (pt a), .val (pt b), .val (.int (pX a * pL b - pX b * pL a)), .val (.int (pY a * pL b - pY b * pL a)), .no], fs⟩) (l6 (c6 (c6 (c6 rfl rfl (y a)) (c6 rfl rfl (l b)) (r8 a2 b3)) (c6 (c6 rfl rfl (y b)) (c6 rfl rfl (l a)) (r8 b2 a3)) rfl) rfl),
  i8 (s1 := ⟨[.val (pt a), .val (pt b), .val (.int (pX a * pL b - pX b * pL a)), .val (.int (pY a * pL b - pY b * pL a)), .val (.int (pL a * pL b))], fs⟩) (l6 (c6 (c6 rfl rfl (l a)) (c6 rfl rfl (l b)) (r8 a3 b3)) rfl)]
 exact o6 (k9 (j8 (c6 (c6 rfl rfl (r8 w1 w1)) (c6 rfl rfl (r8 w2 w2)) rfl) (j8 (c6 rfl rfl (r8 w3 w3)) rfl)) e)
end T
namespace DL
open PySem L2
theorem a0B {t : D → DS → Option DS} {b : DM} (P : Nat → DS → Prop) : ∀ (ds : List D) (n : Nat) (s : DS), P n s → (∀ i d s, ds[i]? = some d → P (n + i) s → ∃ s1 s2, t d s = some s1 ∧ (b s1 = some (.next, s2) ∨ b s1 = some (.cont, s2)) ∧ P (n + i + 1) s2) →
  ∃ s', A1 t b ds s = some (.next, s') ∧ P (n + ds.length) s'
 | [], n, s, h, _ => ⟨s, rfl, h⟩
 | d :: r, n, s, h, k => by
  obtain ⟨s1, s2, e1, e2, h2⟩ := k 0 d s rfl h
  obtain ⟨s', e3, h3⟩ := a0B P r (n + 1) s2 h2 (fun i d' s hd hp => by
   have := k (i + 1) d' s (by simpa using hd) (by rwa [show n + 1 + i = n + (i + 1) by omega] at hp)
   rwa [show n + (i + 1) + 1 = n + 1 + i + 1 by omega] at this)
  refine ⟨s', ?_, by rw [List.length_cons, show n + (r.length + 1) = n + 1 + r.length by omega]; exact h3⟩
  rw [A1, e1]
  rcases e2 with e2 | e2 <;> simp [e2, e3]
theorem a6j {f : DA} {t : D → DS → Option DS} {b : DM} {s s1 : DS} {xs ds : List D} (h1 : f s = some (xs, s1)) (h2 : S3 xs = some ds) : a0e f t b s = A1 t b ds s1 := by
 simp only [a0e, h1, Option.bind_some, h2]
theorem a2E {f : DE} {t : D → DS → Option DS} {b : DM} {s s1 : DS} {ds : List D} (h1 : f s = some (.lst ds, s1)) : G9 f t b s = A1 t b ds s1 := by
 simp only [G9, h1, Option.bind_some]
theorem a0z {f : DE} {t : D → DS → Option DS} {b : DM} {s s1 : DS} {ds : List D} (h1 : f s = some (.tup ds, s1)) : G9 f t b s = A1 t b ds s1 := by
 simp only [G9, h1, Option.bind_some]
theorem a2s {lo : Int} {n i : Nat} {d : D} (h : (ups lo n)[i]? = some d) : d = .int (lo + i) ∧ i < n := by
 have hi : i < n := by have := (List.getElem?_eq_some_iff.mp h).1; rwa [O5] at this
 rw [a35 hi] at h
 cases h
 exact ⟨rfl, hi⟩
theorem a1B {n : Nat} (h : n < 2 ^ 30) : S3 [.int (n : Int)] = some (ups 0 n) := by
 have : -(2 ^ 62) ≤ (n : Int) ∧ (n : Int) < 2 ^ 62 := by omega
 simp only [S3, if_pos this, Int.toNat_natCast]
end DL
namespace T
open PySem L2 DL
structure PtS (k : Nat) (a : Pt) : Prop where
 x : Sz k a.1
 y : Sz k a.2
noncomputable def Sm (M : Int) : Prop := 1 ≤ M ∧ M ≤ 2 ^ 4000
theorem Sm.bd {M g : Int} (hM : Sm M) (h0 : 0 ≤ g) (h : g ≤ 2 * M) : Bd 4002 g := by
 unfold Bd
 have e : (2 : Nat) ^ 4002 = 4 * 2 ^ 4000 := by rw [show (4002 : Nat) = 4000 + 2 from rfl, Nat.pow_add]; omega
 have h2 : M ≤ ((2 ^ 4000 : Nat) : Int) := by have := hM.2; rw [Int.natCast_pow]; exact this
 have p : 0 < (2 : Nat) ^ 4000 := Nat.pow_pos (by decide)
 rw [e]
 omega
theorem Sm.bits {M g : Int} (hM : Sm M) (h0 : 0 ≤ g) (h : g ≤ 2 * M) : u4 g = true := (hM.bd h0 h).bits (by decide)
theorem Sm.div {M g : Int} (hM : Sm M) (h0 : 1 ≤ g) (h : g ≤ 2 * M) : A3 g = true := by
 have b := hM.bd (by omega) h
 unfold A3
 rw [Bool.and_eq_true, decide_eq_true_iff, decide_eq_true_iff]
 refine ⟨by omega, ?_⟩
 have : g.natAbs.log2 < 4002 := (Nat.log2_lt (by omega)).mpr b
 omega
noncomputable def IsR (r n : Int) : Prop := 0 ≤ r ∧ r * r ≤ n ∧ n < (r + 1) * (r + 1)
theorem a0j {a b : Int} (h0 : 0 ≤ a) (h : a ≤ b) : a * a ≤ b * b := Int.mul_le_mul h h h0 (by omega)
theorem a3n {r s n : Int} (h1 : IsR r n) (h2 : IsR s n) : r = s := by
 obtain ⟨a1, a2, a3⟩ := h1
 obtain ⟨b1, b2, b3⟩ := h2
 rcases Int.lt_trichotomy r s with h | h | h
 ·have := a0j (a := r + 1) (b := s) (by omega) (by omega); omega
 ·exact h
 ·have := a0j (a := s + 1) (b := r) (by omega) (by omega); omega
theorem a6H (n : Nat) : ∃ r, IsR r n := by
 induction n with
 | zero => exact ⟨0, by decide, by decide, by decide⟩
 | succ n ih =>
  obtain ⟨r, h1, h2, h3⟩ := ih
  by_cases h : (r + 1) * (r + 1) ≤ ((n + 1 : Nat) : Int)
  ·refine ⟨r + 1, by omega, h, ?_⟩
   have e : (r + 1 + 1) * (r + 1 + 1) = (r + 1) * (r + 1) + 2 * (r + 1) + 1 := by grind
   omega
  ·exact ⟨r, h1, by omega, by omega⟩
theorem a7T {a b : Int} (hb : 0 ≤ b) (h : a * a < (b + 1) * (b + 1)) : a ≤ b := by
 rcases Int.lt_or_le b a with z | z
 ·have := a0j (a := b + 1) (b := a) (by omega) (by omega); omega
 ·exact z
theorem a0N {M g n : Int} (hM : Sm M) (h : g * g ≤ n) (hn : n < M * M) (h0 : 0 ≤ g) : g < M := by
 rcases Int.lt_or_le g M with z | z
 ·exact z
 ·have := a0j (a := M) (b := g) (by have := hM.1; omega) z
  omega
noncomputable abbrev aT : DT := dB (dOp (n8 (fun i j => decide (j < i))) (dL 2) (dC (.int 0)))
noncomputable abbrev aB : DM := i4 (j5 (dOp l4 (dL 1) (dC (.int 2))) (e7 1)) (j5 (dOp u8 (dL 2) (dC (.int 4))) (e7 2))
theorem a8P {M : Int} (hM : Sm M) (N : Sl) (fs : Option FS) (n : Int) (hn : n < M * M) (rest : Nat) : ∀ g : Int, 1 ≤ g → g ≤ 2 * M → g * g * rest ≤ n → n < g * g * (rest + 1) →
  ∃ g', A8 aT aB ⟨[N, .val (.int g), .val (.int rest)], fs⟩ = some (.next, ⟨[N, .val (.int g'), .val (.int 0)], fs⟩) ∧ 1 ≤ g' ∧ g' ≤ 2 * M ∧ n < g' * g' := by
 induction rest using Nat.strongRecOn with
 | ind rest ih =>
  intro g h1 h2 h3 h4
  by_cases h : rest = 0
  ·subst h
   refine ⟨g, O8 (by simp [dB, dOp, dL, dC, n8]), h1, h2, ?_⟩
   have : g * g * ((0 : Nat) + 1 : Int) = g * g := by grind
   omega
  ·have hg : g * g ≤ n := by
    have : g * g * 1 ≤ g * g * (rest : Int) := Int.mul_le_mul_of_nonneg_left (by omega) (Int.mul_nonneg (by omega) (by omega))
    omega
   have hs := a0N hM hg hn (by omega)
   have e4 : ((rest : Int).fdiv 4) = ((rest / 4 : Nat) : Int) := by rw [Int.fdiv_eq_ediv_of_nonneg _ (by decide)]; rfl
   have hq : rest ≤ 4 * (rest / 4) + 3 := by omega
   have hq2 : 4 * (rest / 4) ≤ rest := by omega
   obtain ⟨g', e, r1, r2, r3⟩ := ih (rest / 4) (by omega) (g * 2) (by omega) (by omega) (by
    have e1 : g * 2 * (g * 2) * ((rest / 4 : Nat) : Int) = g * g * (4 * ((rest / 4 : Nat) : Int)) := by grind
    have : g * g * (4 * ((rest / 4 : Nat) : Int)) ≤ g * g * (rest : Int) := Int.mul_le_mul_of_nonneg_left (by omega) (Int.mul_nonneg (by omega) (by omega))
    omega) (by
    have e1 : g * 2 * (g * 2) * (((rest / 4 : Nat) : Int) + 1) = g * g * (4 * ((rest / 4 : Nat) : Int) + 4) := by grind
    have : g * g * ((rest : Int) + 1) ≤ g * g * (4 * ((rest / 4 : Nat) : Int) + 4) := Int.mul_le_mul_of_nonneg_left (by omega) (Int.mul_nonneg (by omega) (by omega))
    omega)
   refine ⟨g', P6 (s1 := ⟨[N, .val (.int g), .val (.int rest)], fs⟩) (s2 := ⟨[N, .val (.int (g * 2)), .val (.int ((rest / 4 : Nat) : Int))], fs⟩) ?_ ?_ e, r1, r2, r3⟩
   ·have : 0 < rest := by omega
    simp [dB, dOp, dL, dC, n8, this]
   ·have b1 : u4 g = true := hM.bits (by omega) (by omega)
    have b2 : u4 2 = true := by decide
    have d4 : A3 4 = true := by decide
    exact (i8 (s1 := ⟨[N, .val (.int (g * 2)), .val (.int rest)], fs⟩) (l6 (c6 rfl rfl (r8 b1 b2)) rfl)).trans (l6 (c6 rfl rfl ((a5h _ d4).trans (congrArg (fun z => some (D.int z)) e4))) rfl)
theorem above {M : Int} (hM : Sm M) (n : Int) (hn0 : 0 ≤ n) (hn : n < M * M) (fs : Option FS) : ∃ g, G3 [.int n] fs = some (.int g, fs) ∧ 1 ≤ g ∧ g ≤ 2 * M ∧ n < g * g := by
 obtain ⟨m, rfl⟩ := Int.eq_ofNat_of_zero_le hn0
 obtain ⟨g, e, r1, r2, r3⟩ := a8P hM (.val (.int m)) fs m hn m 1 (by decide) (by have := hM.1; omega) (by omega) (by omega)
 refine ⟨g, m5 (s := ⟨[.val (.int m), .val (.int g), .val (.int 0)], fs⟩) ?_, r1, r2, r3⟩
 show a2c ⟨[.val (.int m), .no, .no], fs⟩ = _
 unfold a2c
 rw [i8 (s1 := ⟨[.val (.int m), .val (.int 1), .no], fs⟩) (by simp [j5, dC, e7])]
 rw [i8 (s1 := ⟨[.val (.int m), .val (.int 1), .val (.int m)], fs⟩) (by simp [j5, dV, e7])]
 rw [i8 e]
 exact o6 (by simp [dV])
theorem a9V {g q r n : Int} (hg : 0 < g) (h1 : n < g * q + g) (h2 : r * r ≤ n) : 2 * r ≤ g + q := by
 have h : ¬ (g + q ≤ 2 * r - 1) := by
  intro h
  have h3 : g * (q + 1) ≤ g * (2 * r - g) := Int.mul_le_mul_of_nonneg_left (by omega) (by omega)
  have h4 : g * (2 * r - g) = r * r - (r - g) * (r - g) := by grind
  have h5 : 0 ≤ (r - g) * (r - g) := by
   rcases Int.le_total 0 (r - g) with z | z
   ·exact Int.mul_nonneg z z
   ·exact Int.mul_nonneg_of_nonpos_of_nonpos z z
  have h6 : g * (q + 1) = g * q + g := by grind
  omega
 omega
noncomputable abbrev nT : DT := dB (dOp (n8 (fun i j => decide (i < j))) (dL 2) (dL 1))
noncomputable abbrev nS : DM := j5 (dOp u8 (dOp n9 (dL 1) (dOp u8 (dL 0) (dL 1))) (dC (.int 2))) (e7 2)
noncomputable def nx (n g : Int) : Int := (g + n / g) / 2
theorem a5W {M : Int} (hM : Sm M) (n g : Int) (x : Sl) (fs : Option FS) (h1 : 1 ≤ g) (h2 : g ≤ 2 * M) : nS ⟨[.val (.int n), .val (.int g), x], fs⟩ = some (.next, ⟨[.val (.int n), .val (.int g), .val (.int (nx n g))], fs⟩) := by
 have dg : A3 g = true := hM.div h1 h2
 have d2 : A3 2 = true := by decide
 have e1 := Int.fdiv_eq_ediv_of_nonneg n (show (0 : Int) ≤ g by omega)
 have e2 := Int.fdiv_eq_ediv_of_nonneg (g + n / g) (show (0 : Int) ≤ 2 by decide)
 simp [j5, dOp, dL, dC, e7, u8, n9, dg, d2, e1, e2, nx]
theorem a3T {n g r : Int} (h1 : 1 ≤ g) (hr : IsR r n) : r ≤ nx n g := by
 have m1 := Int.mul_ediv_add_emod n g
 have m2 := Int.emod_nonneg n (show g ≠ 0 by omega)
 have m3 := Int.emod_lt_of_pos n (show 0 < g by omega)
 have := a9V (q := n / g) (show 0 < g by omega) (by omega) hr.2.1
 unfold nx; omega
theorem b1g {M : Int} (hM : Sm M) (n r : Int) (hr : IsR r n) (r1 : 1 ≤ r) (fs : Option FS) (k : Nat) : ∀ g : Int, g.toNat = k → r ≤ g → g ≤ 2 * M →
  ∃ x, A8 nT (i4 (j5 (dV 2) (e7 1)) nS) ⟨[.val (.int n), .val (.int g), .val (.int (nx n g))], fs⟩ = some (.next, ⟨[.val (.int n), .val (.int r), x], fs⟩) := by
 induction k using Nat.strongRecOn with
 | ind k ih =>
  intro g hk h1 h2
  by_cases h : nx n g < g
  ·obtain ⟨x, e⟩ := ih (nx n g).toNat (by have := a3T (g := g) (by omega) hr; omega) (nx n g) rfl (a3T (by omega) hr) (by omega)
   refine ⟨x, P6 (s1 := ⟨[.val (.int n), .val (.int g), .val (.int (nx n g))], fs⟩) (s2 := ⟨[.val (.int n), .val (.int (nx n g)), .val (.int (nx n (nx n g)))], fs⟩) (by simp [dB, dOp, dL, n8, h]) ?_ e⟩
   rw [i8 (s1 := ⟨[.val (.int n), .val (.int (nx n g)), .val (.int (nx n g))], fs⟩) (by simp [j5, dV, e7])]
   exact a5W hM n (nx n g) _ fs (by have := a3T (g := g) (by omega) hr; omega) (by omega)
  ·have m1 := Int.mul_ediv_add_emod n g
   have m2 := Int.emod_nonneg n (show g ≠ 0 by omega)
   have hq : g ≤ n / g := by unfold nx at h; omega
   have hgg : g * g ≤ g * (n / g) := Int.mul_le_mul_of_nonneg_left hq (by omega)
   have : g ≤ r := a7T hr.1 (by have := hr.2.2; omega)
   have e : g = r := by omega
   subst e
   exact ⟨.val (.int (nx n g)), O8 (by simp [dB, dOp, dL, n8, h])⟩
theorem a52 {M : Int} (hM : Sm M) (n r : Int) (hr : IsR r n) (hn : n < M * M) (fs : Option FS) : M0 G3 [.int n] fs = some (.int r, fs) := by
 have hn0 : 0 ≤ n := by have := Int.mul_nonneg hr.1 hr.1; have := hr.2.1; omega
 by_cases h0 : n = 0
 ·subst h0
  have e : r = 0 := a3n hr ⟨by decide, by decide, by decide⟩
  subst e
  refine m5 (s := ⟨[.val (.int 0), .no, .no], fs⟩) ?_
  show Z4 G3 ⟨[.val (.int 0), .no, .no], fs⟩ = _
  unfold Z4
  exact L4 (by simp [n0, dB, dOp, dL, dC, L9, k0])
 ·obtain ⟨g, e, g1, g2, g3⟩ := above hM n hn0 hn fs
  have r1 : 1 ≤ r := by
   rcases Int.lt_or_le r 1 with z | z
   ·have e : r = 0 := by have := hr.1; omega
    subst e
    have := hr.2.2; omega
   ·exact z
  have hrg : r ≤ g := by
   have h := hr.2.1
   have e : (g - 1 + 1) * (g - 1 + 1) = g * g := by grind
   have : r ≤ g - 1 := a7T (by omega) (by omega)
   omega
  obtain ⟨x, hw⟩ := b1g hM n r hr r1 fs g.toNat g rfl hrg g2
  refine m5 (s := ⟨[.val (.int n), .val (.int r), x], fs⟩) ?_
  show Z4 G3 ⟨[.val (.int n), .no, .no], fs⟩ = _
  unfold Z4
  rw [i8 (s1 := ⟨[.val (.int n), .no, .no], fs⟩) (D8 (y8 (c6 rfl rfl ((L9 _ _).trans (by rw [decide_eq_false h0])))))]
  rw [i8 (s1 := ⟨[.val (.int n), .val (.int g), .no], fs⟩) (l6 (k9 rfl e) rfl)]
  rw [i8 (a5W hM n g .no fs g1 g2)]
  rw [i8 hw]
  exact o6 (by simp [dV])
noncomputable def Y8 (n d rn rd : Int) : D := if rn * rn = n ∧ rd * rd = d then .tup [.int rn, .int rd] else .non
theorem sm {M n r : Int} (hM : Sm M) (hr : IsR r n) (hn : n < M * M) : r < M := a0N hM hr.2.1 hn hr.1
theorem b2k {M : Int} (hM : Sm M) (n d rn rd : Int) (h1 : IsR rn n) (h2 : IsR rd d) (hn : n < M * M) (hd : d < M * M) (fs : Option FS) : P4 (M0 G3) [.tup [.int n, .int d]] fs = some (Y8 n d rn rd, fs) := by
 have hn0 : ¬ n < 0 := by have := Int.mul_nonneg h1.1 h1.1; have := h1.2.1; omega
 have s1 := sm hM h1 hn
 have s2 := sm hM h2 hd
 have b1 : u4 rn = true := hM.bits h1.1 (by have := hM.1; omega)
 have b2 : u4 rd = true := hM.bits h2.1 (by have := hM.1; omega)
 have sz : (2 : Nat) ≤ sizeLine := by decide
 refine m5 (s := ⟨[.val (.tup [.int n, .int d]), .val (.int rn), .val (.int rd)], fs⟩) ?_
 show a4t (M0 G3) ⟨[.val (.tup [.int n, .int d]), .no, .no], fs⟩ = _
 unfold a4t
 rw [i8 (s1 := ⟨[.val (.tup [.int n, .int d]), .no, .no], fs⟩) (D8 (y8 (c6 (c6 rfl rfl rfl) rfl (congrArg (fun z => some (D.bl z)) (decide_eq_false hn0)))))]
 rw [i8 (s1 := ⟨[.val (.tup [.int n, .int d]), .val (.int rn), .no], fs⟩) (l6 (k9 (j8 (c6 rfl rfl rfl) rfl) (a52 hM n rn h1 hn fs)) rfl)]
 rw [i8 (s1 := ⟨[.val (.tup [.int n, .int d]), .val (.int rn), .val (.int rd)], fs⟩) (l6 (k9 (j8 (c6 rfl rfl rfl) rfl) (a52 hM d rd h2 hd fs)) rfl)]
 have t1 : ∀ z, (!decide (rn * rn = n)) = z → dB (dOp pNe (dOp l4 (dL 1) (dL 1)) (dOp pIx (dL 0) (dC (.int 0)))) ⟨[.val (.tup [.int n, .int d]), .val (.int rn), .val (.int rd)], fs⟩ = some (z, ⟨[.val (.tup [.int n, .int d]), .val (.int rn), .val (.int rd)], fs⟩) := fun z hz => y8 (c6 (c6 rfl rfl (r8 b1 b1)) (c6 rfl rfl rfl) ((a14 _ _).trans (by rw [hz])))
 have t2 : ∀ z, (!decide (rd * rd = d)) = z → dB (dOp pNe (dOp l4 (dL 2) (dL 2)) (dOp pIx (dL 0) (dC (.int 1)))) ⟨[.val (.tup [.int n, .int d]), .val (.int rn), .val (.int rd)], fs⟩ = some (z, ⟨[.val (.tup [.int n, .int d]), .val (.int rn), .val (.int rd)], fs⟩) := fun z hz => y8 (c6 (c6 rfl rfl (r8 b2 b2)) (c6 rfl rfl rfl) ((a14 _ _).trans (by rw [hz])))
 by_cases c1 : rn * rn = n
 ·by_cases c2 : rd * rd = d
  ·rw [i8 (D8 (a5o (t1 false (by rw [decide_eq_true c1]; rfl)) (t2 false (by rw [decide_eq_true c2]; rfl)))), Y8, if_pos ⟨c1, c2⟩]
   exact o6 (u9 rfl rfl)
  ·rw [Y8, if_neg (fun z => c2 z.2)]
   refine L4 ?_
   rw [K2 (a5o (t1 false (by rw [decide_eq_true c1]; rfl)) (t2 true (by rw [decide_eq_false c2]; rfl)))]
   rfl
 ·rw [Y8, if_neg (fun z => c1 z.1)]
  refine L4 ?_
  rw [K2 (a9O (t1 true (by rw [decide_eq_false c1]; rfl)))]
  rfl
end T
namespace DL
open PySem L2
structure Ok (k n : Nat) (d : D) : Prop where
 pl : d.plain = true
 sh : d.py.showable = true
 la : d.py.canLay0 = true
 dp : d.py.depth ≤ k
 le : d.py.leavesShort 1921 = true
 bu : d.py.bulk ≤ n
structure OkL (k n : Nat) (ds : List D) : Prop where
 pl : D.plains ds = true
 sh : PyData.showableAll (D.pys ds) = true
 la : PyData.canLayAll0 (D.pys ds) = true
 dp : PyData.depthAll (D.pys ds) ≤ k
 le : PyData.leavesShortAll 1921 (D.pys ds) = true
 bu : PyData.bulkAll (D.pys ds) ≤ n
theorem Ok.mono {k n k' n' : Nat} {d : D} (h : Ok k n d) (hk : k ≤ k') (hn : n ≤ n') : Ok k' n' d := ⟨h.pl, h.sh, h.la, Nat.le_trans h.dp hk, h.le, Nat.le_trans h.bu hn⟩
theorem OkL.mono {k n k' n' : Nat} {ds : List D} (h : OkL k n ds) (hk : k ≤ k') (hn : n ≤ n') : OkL k' n' ds := ⟨h.pl, h.sh, h.la, Nat.le_trans h.dp hk, h.le, Nat.le_trans h.bu hn⟩
theorem Ok.bl (b : Bool) : Ok 0 0 (.bl b) := ⟨rfl, rfl, rfl, Nat.le_refl _, rfl, Nat.le_refl _⟩
theorem Ok.int {i : Int} (h : Bd 1920 i) : Ok 0 0 (.int i) := by
 have hl : i.natAbs.log2 < 1920 := a0r (by decide) h
 refine ⟨rfl, ?_, rfl, Nat.le_refl _, ?_, Nat.le_refl _⟩
 ·simp only [D.py, PyData.showable]; exact decide_eq_true hl
 ·simp only [D.py, PyData.leavesShort, PyData.shown]
  exact decide_eq_true (b0A hl)
theorem OkL.nil : OkL 0 0 [] := ⟨rfl, rfl, rfl, Nat.le_refl _, rfl, Nat.le_refl _⟩
theorem OkL.cons {k l n m : Nat} {d : D} {ds : List D} (h : Ok k n d) (hs : OkL l m ds) : OkL (max k l) (n + 1 + m) (d :: ds) := by
 refine ⟨?_, ?_, ?_, ?_, ?_, ?_⟩
 ·simp only [D.plains, h.pl, hs.pl, Bool.and_self]
 ·simp only [D.pys, PyData.showableAll, h.sh, hs.sh, Bool.and_self]
 ·simp only [D.pys, PyData.canLayAll0, h.la, hs.la, Bool.and_self]
 ·have := h.dp; have := hs.dp; simp only [D.pys, PyData.depthAll]; omega
 ·simp only [D.pys, PyData.leavesShortAll, h.le, hs.le, Bool.and_self]
 ·have := h.bu; have := hs.bu; simp only [D.pys, PyData.bulkAll]; omega
theorem Ok.tup {k n : Nat} {ds : List D} (h : OkL k n ds) : Ok (k + 1) n (.tup ds) := by
 refine ⟨?_, ?_, ?_, ?_, ?_, ?_⟩
 ·simp only [D.plain, h.pl]
 ·simp only [D.py, PyData.showable, h.sh]
 ·simp only [D.py, PyData.canLay0, h.la]
 ·have := h.dp; simp only [D.py, PyData.depth]; omega
 ·simp only [D.py, PyData.leavesShort, h.le]
 ·have := h.bu; simp only [D.py, PyData.bulk]; omega
theorem Ok.lst {k n : Nat} {ds : List D} (h : OkL k n ds) : Ok (k + 1) n (.lst ds) := by
 refine ⟨?_, ?_, ?_, ?_, ?_, ?_⟩
 ·simp only [D.plain, h.pl]
 ·simp only [D.py, PyData.showable, h.sh]
 ·simp only [D.py, PyData.canLay0, h.la]
 ·have := h.dp; simp only [D.py, PyData.depth]; omega
 ·simp only [D.py, PyData.leavesShort, h.le]
 ·have := h.bu; simp only [D.py, PyData.bulk]; omega
theorem OkL.all {k n : Nat} : ∀ {ds : List D}, (∀ d ∈ ds, Ok k n d) → OkL k (ds.length * (n + 1)) ds
 | [], _ => OkL.nil.mono (by omega) (by omega)
 | d :: r, h => by
  have := (OkL.cons (h d (List.mem_cons_self ..)) (OkL.all (ds := r) fun x hx => h x (List.mem_cons_of_mem _ hx)))
  refine this.mono (by omega) ?_
  rw [List.length_cons, Nat.add_mul, Nat.one_mul]; omega
theorem Ok.show {k n : Nat} {d : D} (h : Ok k n d) (hk : k ≤ 64 := by decide) (hn : n ≤ 8000 := by decide) : Q9 d = true := by
 have e := PyData.shown_le_bulk 1921 (by decide) d.py h.le
 have e2 : (1921 + 2) * d.py.bulk ≤ 1923 * 8000 := Nat.mul_le_mul (by decide) (Nat.le_trans h.bu hn)
 have : d.py.shown.length ≤ sizeLine := by rw [sizeLine_eq]; omega
 simp only [Q9, h.pl, h.sh, h.la, Bool.true_and, Bool.and_true, decide_eq_true this, decide_eq_true (Nat.le_trans h.dp hk)]
theorem Ok.repr {k n : Nat} {d : D} (h : Ok k n d) (hk : k ≤ 64 := by decide) (hn : n ≤ 8000 := by decide) : E1 d = some (.str d.py.shown) := b3c (h.show hk hn)
theorem Ok.fr {k : Nat} {p : Rat} (h : Sz k p) (hk : k ≤ 1920 := by decide) : Ok 1 2 (fr p) := Ok.tup ((OkL.cons (Ok.int (h.num.mono hk)) (OkL.cons (Ok.int (h.den.mono hk)) OkL.nil)))
theorem Ok.pt {k : Nat} {a : Pt} (h : Ps k a) (hk : k ≤ 1920 := by decide) : Ok 1 3 (pt a) := Ok.tup ((OkL.cons (Ok.int (h.x.mono hk)) (OkL.cons (Ok.int (h.y.mono hk)) (OkL.cons (Ok.int (h.l.mono hk)) OkL.nil))))
theorem a3e (x : Str) : pNe (.str x) (.str x) = some (.bl false) := by rw [b0C]; simp
theorem ixT (ds : List D) (i : Int) : pIx (.tup ds) (.int i) = atI ds i := rfl
theorem ixL (ds : List D) (i : Int) : pIx (.lst ds) (.int i) = atI ds i := rfl
theorem E3 (p : Rat) : pIx (DL.fr p) (.int 0) = some (.int p.num) := rfl
theorem C2 (p : Rat) : pIx (DL.fr p) (.int 1) = some (.int p.den) := rfl
theorem P9 (a : Pt) : pIx (DL.pt a) (.int 0) = some (.int (pX a)) := rfl
theorem N9 (a : Pt) : pIx (DL.pt a) (.int 1) = some (.int (pY a)) := rfl
theorem J6 (a : Pt) : pIx (DL.pt a) (.int 2) = some (.int (pL a)) := rfl
theorem a5D (ds : List D) (n : Nat) (h : n ≤ ds.length) : G7 ds none (some (n : Int)) = ds.take n := by
 unfold G7 HT.sIx
 have h1 : ¬ (n : Int) < 0 := by omega
 simp only [h1, if_false, List.drop_zero, Nat.sub_zero, Int.toNat_natCast]
 rw [Nat.min_eq_left h]
theorem a6Y (ds : List D) (n : Nat) (h : n ≤ ds.length) : G7 ds (some (n : Int)) none = ds.drop n := by
 unfold G7 HT.sIx
 have h1 : ¬ (n : Int) < 0 := by omega
 simp only [h1, if_false, Int.toNat_natCast]
 rw [Nat.min_eq_left h]
 exact List.take_of_length_le (by rw [List.length_drop]; omega)
theorem a7k {idx : List Nat} {fe : DE} {g : D → D} (caps : List Sl) (fs : Option FS) : ∀ (ds : List D), (∀ d ∈ ds, ∃ s, fe ⟨.val d :: caps, fs⟩ = some (g d, s) ∧ s.fs = fs) → w9 (fun d => some (.val d :: caps)) w8 fe ds fs = some (ds.map g, fs)
 | [], _ => rfl
 | d :: r, h => by
  obtain ⟨s, e, q⟩ := h d (List.mem_cons_self ..)
  have ih := a7k (idx := idx) caps fs r fun x hx => h x (List.mem_cons_of_mem _ hx)
  simp [w9, w8, e, q, ih]
noncomputable def nbs {α : Type} (c : Bool) (l : List α) : List (α × α) := l.zip (if c then l.drop 1 ++ l.take 1 else l.drop 1)
noncomputable def pr2 (p : D × D) : D := .tup [p.1, p.2]
noncomputable def a0q : D → Pt
 | .tup [.int x, .int y, .int d] => (Rat.divInt x d, Rat.divInt y d)
 | _ => (0, 0)
theorem Q1 {α β : Type} (f : α → β) (c : Bool) (l : List α) : nbs c (l.map f) = (nbs c l).map fun p => (f p.1, f p.2) := by
 unfold nbs
 cases c
 ·simp only [Bool.false_eq_true, if_false]
  rw [← List.map_drop, List.zip_map]; rfl
 ·simp only [if_true]
  rw [← List.map_drop, ← List.map_take, ← List.map_append, List.zip_map]; rfl
theorem a0u {α : Type} (c : Bool) (l : List α) : (nbs c l).length ≤ l.length := by
 unfold nbs
 rw [List.length_zip]
 exact Nat.min_le_left ..
theorem a4l {α : Type} {c : Bool} {l : List α} {p : α × α} (h : p ∈ nbs c l) : p.1 ∈ l ∧ p.2 ∈ l := by
 unfold nbs at h
 obtain ⟨h1, h2⟩ := List.of_mem_zip (a := p.1) (b := p.2) h
 refine ⟨h1, ?_⟩
 cases c
 ·simp only [Bool.false_eq_true, if_false] at h2
  exact List.mem_of_mem_drop h2
 ·simp only [if_true] at h2
  rcases List.mem_append.mp h2 with h | h
  ·exact List.mem_of_mem_drop h
  ·exact List.mem_of_mem_take h
theorem a1K : ∀ (xs ys : List D), List.zipWith F3 xs ys = (xs.zip ys).map pr2
 | [], _ => by simp
 | _ :: _, [] => by simp
 | x :: xs, y :: ys => by
  rw [List.zipWith_cons_cons, List.zip_cons_cons, List.map_cons, a1K xs ys]
  rfl
theorem a6L (a : Pt) : a0q (pt a) = a := by
 show (Rat.divInt (pX a) (pL a), Rat.divInt (pY a) (pL a)) = a
 rw [T.px_div, T.py_div]
noncomputable def lo (c : Bool) : Nat := if c then 3 else 2
noncomputable def hi (c : Bool) : Nat := if c then 8 else 9
theorem a69 (ds : List D) : G7 ds (some 1) none = ds.drop 1 := by
 cases ds with
 | nil => rfl
 | cons d r => exact a6Y (d :: r) 1 (by simp)
theorem b0g (ds : List D) : G7 ds none (some 1) = ds.take 1 := by
 cases ds with
 | nil => rfl
 | cons d r => exact a5D (d :: r) 1 (by simp)
theorem a7U {idx : List Nat} {sl : List Sl} {fe : DE} {g : D × D → D} (fs : Option FS) : ∀ (qs : List (D × D)), (∀ q ∈ qs, ∃ s, fe ⟨.val q.1 :: .val q.2 :: D9 idx sl, fs⟩ = some (g q, s) ∧ s.fs = fs) → w9 (mk2 idx sl) w8 fe (qs.map pr2) fs = some (qs.map g, fs)
 | [], _ => rfl
 | q :: r, h => by
  obtain ⟨s, e, e2⟩ := h q (List.mem_cons_self ..)
  have ih := a7U (idx := idx) (sl := sl) fs r fun x hx => h x (List.mem_cons_of_mem _ hx)
  simp [w9, w8, mk2, pr2, e, e2, ih]
end DL
namespace T
open PySem L2 DL
theorem a9F (ds : List D) (c : Bool) (fs : Option FS) (hl : ds.length + 1 ≤ sizeLine) : J9 [.tup ds, .bl c] fs = some (.lst ((nbs c ds).map pr2), fs) := by
 refine m5 (s := ⟨[.val (.tup ds), .val (.bl c)], fs⟩) ?_
 show a1j ⟨[.val (.tup ds), .val (.bl c)], fs⟩ = _
 have h1 : ds.length - 1 + min 1 ds.length ≤ sizeLine := by omega
 cases c
 ·simp [a1j, i4, C9, j5, dOp, dUn, dC, dL, dV, e7, n0, dB, k0, c9, a7, a8, e8, o8, dCB, one, p7, p9, dIf, A6, dOr, C8, E7, F1, F0, n9, v8, t7, n8, u3, u5, m8, u6, C1, dTr, E2, ixT, ixL, E3, C2, P9, N9, J6, dSl, dAt, dNo, dCF, Y5, J8, a69, nbs, a1K]
 ·simp [a1j, i4, C9, j5, dOp, dUn, dC, dL, dV, e7, n0, dB, k0, c9, a7, a8, e8, o8, dCB, one, p7, p9, dIf, A6, dOr, C8, E7, F1, F0, n9, v8, t7, n8, u3, u5, m8, u6, C1, dTr, E2, ixT, ixL, E3, C2, P9, N9, J6, dSl, dAt, dNo, dCF, Y5, J8, a69, b0g, nbs, a1K, h1]
noncomputable abbrev FPc : DFn := M5 J9
theorem a46 (ds : List D) (c : Bool) (fs : Option FS) (hl : ds.length + 1 ≤ sizeLine) : FPc [.tup [.bl c, .tup ds]] fs = some (.tup ((nbs c ds).map pr2), fs) := by
 refine m5 (s := ⟨[.val (.tup [.bl c, .tup ds])], fs⟩) ?_
 show a30 J9 ⟨[.val (.tup [.bl c, .tup ds])], fs⟩ = _
 have e := a9F ds c fs hl
 simp [a30, i4, C9, j5, dOp, dUn, dC, dL, dV, e7, n0, dB, k0, c9, a7, a8, e8, o8, dCB, one, p7, p9, dIf, A6, dOr, C8, E7, F1, F0, n9, v8, t7, n8, u3, u5, m8, u6, C1, dTr, E2, ixT, ixL, E3, C2, P9, N9, J6, a0a, a0m, e, D5]
noncomputable def isq (n : Int) : Int := Classical.choose (a6H n.toNat)
theorem a0U {n : Int} (h : 0 ≤ n) : IsR (isq n) n := by
 have e : IsR (isq n) ((n.toNat : Nat) : Int) := Classical.choose_spec (a6H n.toNat)
 have e2 : ((n.toNat : Nat) : Int) = n := Int.toNat_of_nonneg h
 rw [e2] at e
 exact e
noncomputable def rtD (q : Rat) : D := Y8 q.num q.den (isq q.num) (isq q.den)
theorem a3P : Sm (2 ^ 1000) := ⟨by decide +kernel, by decide +kernel⟩
theorem b4j : ((2 : Int) ^ 1000) * 2 ^ 1000 = ((2 ^ 2000 : Nat) : Int) := by decide +kernel
noncomputable abbrev FRt : DFn := P4 (M0 G3)
theorem a05 {q : Rat} (h : 0 ≤ q) : 0 ≤ q.num := Rat.num_nonneg.mpr h
theorem a3X {q : Rat} (hs : Sz 2000 q) : q.num < (2 : Int) ^ 1000 * 2 ^ 1000 ∧ (q.den : Int) < (2 : Int) ^ 1000 * 2 ^ 1000 := by
 rw [b4j]
 have h1 := hs.1
 have h2 := hs.2
 generalize (2 : Nat) ^ 2000 = W at *
 omega
theorem b0b {q : Rat} (h0 : 0 ≤ q) (hs : Sz 2000 q) (fs : Option FS) : FRt [fr q] fs = some (rtD q, fs) :=
 b2k a3P q.num q.den _ _ (a0U (a05 h0)) (a0U (by omega)) (a3X hs).1 (a3X hs).2 fs
theorem a7a (a b : Pt) : 0 ≤ dsq a b := by unfold dsq; exact Rat.add_nonneg (a7X _) (a7X _)
theorem a7t {a b : Pt} (ha : PtS 200 a) (hb : PtS 200 b) : Sz 1605 (dsq a b) := by
 have h1 := (ha.1.sub hb.1).mul (ha.1.sub hb.1)
 have h2 := (ha.2.sub hb.2).mul (ha.2.sub hb.2)
 exact h1.add h2
noncomputable def prP (p : Pt × Pt) : D := .tup [pt p.1, pt p.2]
theorem a6K (c : Bool) (ps : List Pt) : (nbs c (ps.map pt)).map pr2 = (nbs c ps).map prP := by
 rw [Q1, List.map_map]; rfl
end T
namespace DL
open PySem L2
theorem a0o {α : Type} (c : Bool) (l : List α) : (nbs c l).length = l.length - 1 + (if c then min 1 l.length else 0) := by
 unfold nbs
 cases c
 ·show (l.zip (l.drop 1)).length = l.length - 1 + 0
  rw [List.length_zip, List.length_drop, Nat.min_eq_right (Nat.sub_le ..)]
  rfl
 ·show (l.zip (l.drop 1 ++ l.take 1)).length = l.length - 1 + min 1 l.length
  rw [List.length_zip, List.length_append, List.length_drop, List.length_take]
  exact Nat.min_eq_right (by omega)
theorem b1B {α : Type} {c : Bool} {l : List α} {j : Nat} (h : j < (nbs c l).length) : ∃ a b, l[j]? = some a ∧ l[(j + 1) % l.length]? = some b ∧ (nbs c l)[j]? = some (a, b) := by
 have hl := a0o c l
 have hj : j < l.length := Nat.lt_of_lt_of_le h (a0u c l)
 cases hq : (nbs c l)[j]? with
 | none => rw [List.getElem?_eq_none_iff] at hq; omega
 | some p =>
  obtain ⟨h1, h2⟩ := List.getElem?_zip_eq_some.mp (show (l.zip (if c then l.drop 1 ++ l.take 1 else l.drop 1))[j]? = some p from hq)
  refine ⟨p.1, p.2, h1, ?_, rfl⟩
  cases c
  ·simp only [Bool.false_eq_true, if_false] at h2 hl
   rw [List.getElem?_drop] at h2
   rw [Nat.mod_eq_of_lt (by omega), Nat.add_comm]
   exact h2
  ·simp only [if_true] at h2 hl
   by_cases hz : j + 1 < l.length
   ·rw [List.getElem?_append_left (by rw [List.length_drop]; omega), List.getElem?_drop] at h2
    rw [Nat.mod_eq_of_lt hz, Nat.add_comm]
    exact h2
   ·have e : j + 1 = l.length := by omega
    rw [List.getElem?_append_right (by rw [List.length_drop]; omega), List.length_drop, show j - (l.length - 1) = 0 by omega, List.getElem?_take] at h2
    rw [e, Nat.mod_self]
    simpa using h2
theorem atN {α : Type} {xs : List α} {i : Nat} {x : α} (h : xs[i]? = some x) : atI xs (i : Int) = some x := by
 have hi := (List.getElem?_eq_some_iff.mp h).1
 rw [a11 (by omega) (by omega)]
 simpa using h
theorem a0v {α : Type} {xs : List α} {x : α} (h : xs[xs.length - 1]? = some x) : atI xs (-1) = some x := by
 have hi := (List.getElem?_eq_some_iff.mp h).1
 unfold atI ixN
 rw [if_neg (by omega), if_pos (by omega)]
 show xs[_]? = _
 rw [show ((-1 : Int) + xs.length).toNat = xs.length - 1 by omega]
 exact h
end DL
namespace T
open PySem L2 DL
noncomputable abbrev FLg : DFn := S7 FPc FRt (L8 FF)
noncomputable def a0D (c : Bool) (ps : List Pt) : List D := (nbs c ps).map fun p => rtD (dsq p.1 p.2)
theorem b2Y {c : Bool} {ps : List Pt} (hl : ps.length ≤ 9) : ((nbs c (ps.map pt)).map pr2).length ≤ sizeLine ∧ (ps.map pt).length + 1 ≤ sizeLine := by
 have h1 : (ps.map pt).length = ps.length := List.length_map ..
 constructor
 ·rw [List.length_map]
  have := a0u c (ps.map pt)
  rw [sizeLine_eq]; omega
 ·rw [sizeLine_eq]; omega
theorem a8S {f : DE} {s s1 : DS} {ds : List D} (h : f s = some (.tup ds, s1)) : E8 f s = some (ds, s1) := by
 unfold E8
 rw [h]
 rfl
theorem b16 (ps : List Pt) (c : Bool) (fs : Option FS) (hp : ∀ p ∈ ps, PtS 200 p) (hl : ps.length ≤ 9) : FLg [.tup [.bl c, .tup (ps.map pt)]] fs = some (.tup (a0D c ps), fs) := by
 refine m5 (s := ⟨[.val (.tup [.bl c, .tup (ps.map pt)])], fs⟩) ?_
 show a66 FPc FRt (L8 FF) ⟨[.val (.tup [.bl c, .tup (ps.map pt)])], fs⟩ = _
 obtain ⟨hl2, hl3⟩ := b2Y (c := c) hl
 have e := a46 (ps.map pt) c fs hl3
 have cm := a7U (idx := []) (sl := [.val (.tup [.bl c, .tup (ps.map pt)])]) (fe := c9 FRt (a7 (c9 (L8 FF) (a7 (dV 0) (a7 (dV 1) a8))) a8)) (g := fun q => rtD (dsq (a0q q.1) (a0q q.2))) fs (nbs c (ps.map pt)) (by
  intro q hq
  rw [Q1] at hq
  obtain ⟨p, hp', rfl⟩ := List.mem_map.mp hq
  obtain ⟨m1, m2⟩ := a4l hp'
  have s1 := hp _ m1
  have s2 := hp _ m2
  have sq := b0S p.1 p.2 fs (Ps.of s1.1 s1.2) (Ps.of s2.1 s2.2) (by decide)
  have rt := b0b (a7a p.1 p.2) ((a7t s1 s2).mono (by decide)) fs
  refine ⟨⟨.val (pt p.1) :: .val (pt p.2) :: D9 [] [.val (.tup [.bl c, .tup (ps.map pt)])], fs⟩, ?_, rfl⟩
  simp only [a6L]
  exact k9 (j8 (k9 (j8 rfl (j8 rfl rfl)) sq) rfl) rt)
 have al : (nbs c (ps.map pt)).map (fun q => rtD (dsq (a0q q.1) (a0q q.2))) = a0D c ps := by
  unfold a0D
  rw [Q1, List.map_map]
  exact List.map_congr_left fun p _ => by simp [a6L]
 rw [al] at cm
 exact o6 (C5 (p := D5) (A7 (Z6 (s1 := ⟨[.val (.tup [.bl c, .tup (ps.map pt)])], fs⟩) (a8S (k9 rfl e)) hl2 cm)) rfl)
theorem a9H (c : Bool) (ds : List D) (h : 1 ≤ ds.length) (g : D → D) (hg : ∀ i : Nat, g (.int (i : Int)) = .tup [((ds ++ ds.take (if c then 1 else 0))[i]?).getD .non, ((ds ++ ds.take (if c then 1 else 0))[i + 1]?).getD .non]) :
  (ups 0 (nbs c ds).length).map g = (nbs c ds).map pr2 := by
 apply List.ext_getElem?
 intro i
 by_cases hi : i < (nbs c ds).length
 ·obtain ⟨a, b, q1, q2, q3⟩ := b1B hi
  have u : (ups 0 (nbs c ds).length)[i]? = some (.int (i : Int)) := by
   unfold ups
   rw [List.getElem?_map, List.getElem?_range hi]
   simp
  rw [List.getElem?_map, u, List.getElem?_map, q3]
  simp only [Option.map_some, hg]
  have hlen := a0o c ds
  have r1 : (ds ++ ds.take (if c then 1 else 0))[i]? = some a := by
   have : i < ds.length := by
    rcases Nat.lt_or_ge i ds.length with z | z
    ·exact z
    ·rw [List.getElem?_eq_none z] at q1; cases q1
   rw [List.getElem?_append_left this]; exact q1
  have r2 : (ds ++ ds.take (if c then 1 else 0))[i + 1]? = some b := by
   by_cases z : i + 1 < ds.length
   ·rw [List.getElem?_append_left z]
    rw [Nat.mod_eq_of_lt z] at q2; exact q2
   ·cases c with
    | false => simp at hlen; omega
    | true =>
     have e : i + 1 = ds.length := by simp at hlen; omega
     rw [e, Nat.mod_self] at q2
     rw [e, List.getElem?_append_right (Nat.le_refl _), Nat.sub_self]
     simp only [if_true]
     rw [List.getElem?_take_of_lt (by decide)]
     exact q2
  rw [r1, r2]
  rfl
 ·have hi' : (nbs c ds).length ≤ i := by omega
  rw [List.getElem?_eq_none (by rw [List.length_map]; unfold ups; rw [List.length_map, List.length_range]; exact hi')]
  rw [List.getElem?_eq_none (by rw [List.length_map]; exact hi')]
noncomputable def pcG (S : List D) : D → D
 | .int k => .tup [(S[k.toNat]?).getD .non, (S[k.toNat + 1]?).getD .non]
 | _ => .non
theorem b0p (S : List D) (fs : Option FS) (m : Nat) (hS : S.length = m + 1) : ∀ d ∈ ups 0 m, ∃ s, e8 (a7 (dOp pIx (dL 1) (dL 0)) (a7 (dOp pIx (dL 1) (dOp n9 (dL 0) (dC (.int 1)))) a8)) ⟨.val d :: [.val (.tup S)], fs⟩ = some (pcG S d, s) ∧ s.fs = fs := by
 intro d hd
 obtain ⟨i, hi⟩ := List.getElem?_of_mem hd
 obtain ⟨rfl, hi2⟩ := a2s hi
 rw [Int.zero_add]
 have a1 : atI S (i : Int) = some S[i] := atN (xs := S) (i := i) (x := S[i]) (by rw [List.getElem?_eq_getElem (by omega)])
 have a2 : atI S ((i : Int) + 1) = some S[i + 1] := by
  have := atN (xs := S) (i := i + 1) (x := S[i + 1]) (by rw [List.getElem?_eq_getElem (by omega)])
  rwa [Int.natCast_add] at this
 refine ⟨⟨[.val (.int (i : Int)), .val (.tup S)], fs⟩, ?_, rfl⟩
 have eg : pcG S (.int (i : Int)) = .tup [S[i], S[i + 1]] := by
  simp only [pcG, Int.toNat_natCast]
  rw [List.getElem?_eq_getElem (by omega), List.getElem?_eq_getElem (by omega)]
  rfl
 rw [eg]
 exact u9 (c6 rfl rfl ((ixT _ _).trans a1)) (c6 rfl (c6 rfl rfl rfl) ((ixT _ _).trans a2))
end T
namespace DL
open PySem L2
theorem tg0 (f : FS) (h : f.kind = 1) : f.tget 0 = some (.lst (f.cells.map .int)) := by unfold FS.tget; rw [if_neg (by omega), if_pos rfl]
end DL
namespace T
open PySem L2 DL
theorem P1 {a b : Int} (h : b ≠ 0) : y4 (.int a) (.int b) = some (.int (a.fmod b)) := if_pos h
theorem a2z {a b : Int} (h : A3 b = true) : u8 (.int a) (.int b) = some (.int (a.fdiv b)) := if_pos h
theorem a40 {i : Nat} {k n : Int} {f : DE} {s s1 : DS} {z : Fl × DS} (h : f s = some (.int n, s1)) (h2 : dTP i k (fun _ => some (.int n, s1)) s = some z) : dTP i k f s = some z := by
 rw [← h2]
 unfold dTP
 rw [h]
noncomputable abbrev LDw : DFn := L3
set_option maxHeartbeats 4000000 in
theorem b4k (f : FS) (many : Int) (hm : 0 < many) (hm2 : many < 2 ^ 100) (ht : 0 ≤ f.pos) (ht2 : f.pos < 2 ^ 40) (hk : f.kind = 1) :
  ∃ r f', LDw [.feed, .int many] (some f) = some (.int r, some f') ∧ 0 ≤ r ∧ r < many ∧ f.pos ≤ f'.pos ∧ f'.pos ≤ f.pos + 1 ∧ f'.kind = 1 := by
 have dm : A3 many = true := b0l (by omega) (by omega)
 have hne : many ≠ 0 := by omega
 obtain ⟨cs, ps, lf, tn, kd⟩ := f
 simp only at ht ht2 hk ⊢
 subst hk
 by_cases hl : 0 < lf
 ·refine ⟨lf.fmod many, ⟨cs, ps, lf.fdiv many, tn, 1⟩, m5 (s := ⟨[.val .feed, .val (.int many), .val (.int (lf.fmod many)), .no, .no, .no], some ⟨cs, ps, lf.fdiv many, tn, 1⟩⟩) ?_, (M1 hm).1, (M1 hm).2, Int.le_refl _, Int.le_of_lt (Int.lt_succ _), rfl⟩
  have t0 : dB (dOp (n8 (fun i j => decide (j < i))) (dTG 0 2) (dC (.int 0))) ⟨[.val .feed, .val (.int many), .no, .no, .no, .no], some ⟨cs, ps, lf, tn, 1⟩⟩ = some (true, ⟨[.val .feed, .val (.int many), .no, .no, .no, .no], some ⟨cs, ps, lf, tn, 1⟩⟩) := y8 (c6 rfl rfl (show some (D.bl (decide (0 < lf))) = _ by rw [decide_eq_true hl]))
  have e1 : dOp y4 (dTG 0 2) (dL 1) ⟨[.val .feed, .val (.int many), .no, .no, .no, .no], some ⟨cs, ps, lf, tn, 1⟩⟩ = some (.int (lf.fmod many), ⟨[.val .feed, .val (.int many), .no, .no, .no, .no], some ⟨cs, ps, lf, tn, 1⟩⟩) := c6 rfl rfl (P1 hne)
  have e2 : dOp u8 (dTG 0 2) (dL 1) ⟨[.val .feed, .val (.int many), .val (.int (lf.fmod many)), .no, .no, .no], some ⟨cs, ps, lf, tn, 1⟩⟩ = some (.int (lf.fdiv many), ⟨[.val .feed, .val (.int many), .val (.int (lf.fmod many)), .no, .no, .no], some ⟨cs, ps, lf, tn, 1⟩⟩) := c6 rfl rfl (a2z dm)
  show U3 ⟨[.val .feed, .val (.int many), .no, .no, .no, .no], some ⟨cs, ps, lf, tn, 1⟩⟩ = _
  unfold U3
  refine L4 ?_
  rw [K2 t0, i8 (s1 := ⟨[.val .feed, .val (.int many), .val (.int (lf.fmod many)), .no, .no, .no], some ⟨cs, ps, lf, tn, 1⟩⟩) (l6 e1 rfl), i8 (s1 := ⟨[.val .feed, .val (.int many), .val (.int (lf.fmod many)), .no, .no, .no], some ⟨cs, ps, lf.fdiv many, tn, 1⟩⟩) (a40 e2 rfl)]
  exact o6 rfl
 ·have cell : ∃ c : Int, ∀ a b : Sl, n0 (dB (dOp (n8 (fun i j => decide (j < i))) (dCB (one u3) (a7 (dTG 0 0) a8)) (dC (.int 0)))) (j5 (dOp pIx (dTG 0 0) (dOp y4 (dL 3) (dCB (one u3) (a7 (dTG 0 0) a8)))) (e7 4)) o8 ⟨[.val .feed, a, .no, .val (.int ps), .val (.int 0), b], some ⟨cs, ps + 1, lf, tn, 1⟩⟩ =
    some (.next, ⟨[.val .feed, a, .no, .val (.int ps), .val (.int c), b], some ⟨cs, ps + 1, lf, tn, 1⟩⟩) := by
   by_cases hc : 0 < cs.length
   ·have hi := M1 (a := ps) (b := (cs.length : Int)) (by omega)
    obtain ⟨c, hg⟩ : ∃ c : Int, atI (cs.map D.int) (ps.fmod (cs.length : Int)) = some (.int c) := by
     have : (ps.fmod (cs.length : Int)).toNat < cs.length := by omega
     refine ⟨cs[(ps.fmod (cs.length : Int)).toNat], ?_⟩
     rw [a11 hi.1 (by rw [List.length_map]; exact hi.2), List.getElem?_map, List.getElem?_eq_getElem this]
     rfl
    refine ⟨c, fun a b => ?_⟩
    have hn : cs ≠ [] := by intro z; rw [z] at hc; simp at hc
    simp [n0, j5, e7, dB, dOp, dCB, one, u3, a7, a8, dL, dC, n8, dTG, tg0, y4, pIx, hn, hc, hg]
   ·refine ⟨0, fun a b => ?_⟩
    have hz : cs = [] := List.eq_nil_of_length_eq_zero (by omega)
    subst hz
    simp [n0, o8, dB, dOp, dCB, one, u3, a7, a8, dL, dC, n8, dTG, tg0]
  obtain ⟨c, hcell⟩ := cell
  have hc1 := M1 (a := c) (b := 1000033) (by decide)
  have t0 : dB (dOp (n8 (fun i j => decide (j < i))) (dTG 0 2) (dC (.int 0))) ⟨[.val .feed, .val (.int many), .no, .no, .no, .no], some ⟨cs, ps, lf, tn, 1⟩⟩ = some (false, ⟨[.val .feed, .val (.int many), .no, .no, .no, .no], some ⟨cs, ps, lf, tn, 1⟩⟩) := y8 (c6 rfl rfl (show some (D.bl (decide (0 < lf))) = _ by rw [decide_eq_false hl]))
  have pre : ∀ rest : DM, i4 (n0 (dB (dOp (n8 (fun i j => decide (j < i))) (dTG 0 2) (dC (.int 0)))) (i4 (j5 (dOp y4 (dTG 0 2) (dL 1)) (e7 2)) (i4 (dTP 0 2 (dOp u8 (dTG 0 2) (dL 1))) (k0 (dV 2)))) o8) (i4 (j5 (dTG 0 1) (e7 3)) (i4 (dTP 0 1 (dOp n9 (dL 3) (dC (.int 1)))) (i4 (j5 (dC (.int 0)) (e7 4)) (i4 (n0 (dB (dOp (n8 (fun i j => decide (j < i))) (dCB (one u3) (a7 (dTG 0 0) a8)) (dC (.int 0)))) (j5 (dOp pIx (dTG 0 0) (dOp y4 (dL 3) (dCB (one u3) (a7 (dTG 0 0) a8)))) (e7 4)) o8) rest))))
    ⟨[.val .feed, .val (.int many), .no, .no, .no, .no], some ⟨cs, ps, lf, tn, 1⟩⟩ = rest ⟨[.val .feed, .val (.int many), .no, .val (.int ps), .val (.int c), .no], some ⟨cs, ps + 1, lf, tn, 1⟩⟩ := fun rest => by
   rw [i8 (s1 := ⟨[.val .feed, .val (.int many), .no, .no, .no, .no], some ⟨cs, ps, lf, tn, 1⟩⟩) (D8 t0)]
   rw [i8 (s1 := ⟨[.val .feed, .val (.int many), .no, .val (.int ps), .no, .no], some ⟨cs, ps, lf, tn, 1⟩⟩) rfl]
   rw [i8 (s1 := ⟨[.val .feed, .val (.int many), .no, .val (.int ps), .no, .no], some ⟨cs, ps + 1, lf, tn, 1⟩⟩) rfl]
   rw [i8 (s1 := ⟨[.val .feed, .val (.int many), .no, .val (.int ps), .val (.int 0), .no], some ⟨cs, ps + 1, lf, tn, 1⟩⟩) rfl]
   rw [i8 (hcell _ _)]
  have test : A6 (dB (dOp (n8 (fun i j => decide (j ≤ i))) (dL 4) (dOp U6 (dC (.int 10)) (dC (.int 18))))) (dB (dOp (n8 (fun i j => decide (i < j))) (dL 3) (dCB (one u3) (a7 (dTG 0 0) a8)))) ⟨[.val .feed, .val (.int many), .no, .val (.int ps), .val (.int c), .no], some ⟨cs, ps + 1, lf, tn, 1⟩⟩ =
    some (decide (1000000000000000000 ≤ c) && decide (ps < (cs.length : Int)), ⟨[.val .feed, .val (.int many), .no, .val (.int ps), .val (.int c), .no], some ⟨cs, ps + 1, lf, tn, 1⟩⟩) := by
   have p18 : U6 (.int 10) (.int 18) = some (.int 1000000000000000000) := by simp [U6]
   have t1 : dB (dOp (n8 (fun i j => decide (j ≤ i))) (dL 4) (dOp U6 (dC (.int 10)) (dC (.int 18)))) ⟨[.val .feed, .val (.int many), .no, .val (.int ps), .val (.int c), .no], some ⟨cs, ps + 1, lf, tn, 1⟩⟩ = some (decide (1000000000000000000 ≤ c), ⟨[.val .feed, .val (.int many), .no, .val (.int ps), .val (.int c), .no], some ⟨cs, ps + 1, lf, tn, 1⟩⟩) := y8 (c6 rfl (c6 rfl rfl p18) rfl)
   have t2 : dB (dOp (n8 (fun i j => decide (i < j))) (dL 3) (dCB (one u3) (a7 (dTG 0 0) a8))) ⟨[.val .feed, .val (.int many), .no, .val (.int ps), .val (.int c), .no], some ⟨cs, ps + 1, lf, tn, 1⟩⟩ = some (decide (ps < ((cs.map D.int).length : Int)), ⟨[.val .feed, .val (.int many), .no, .val (.int ps), .val (.int c), .no], some ⟨cs, ps + 1, lf, tn, 1⟩⟩) := y8 (c6 rfl (C5 (p := u3) rfl rfl) rfl)
   rw [List.length_map] at t2
   cases h1 : decide (1000000000000000000 ≤ c) with
   | true =>
    rw [h1] at t1
    exact a0E t1 t2
   | false =>
    rw [h1] at t1
    exact a4i t1
  by_cases hb : (decide (1000000000000000000 ≤ c) && decide (ps < (cs.length : Int))) = true
  ·refine ⟨c.fmod many, ⟨cs, ps + 1, c.fdiv many, tn, 1⟩, m5 (s := ⟨[.val .feed, .val (.int many), .no, .val (.int ps), .val (.int c), .no], some ⟨cs, ps + 1, c.fdiv many, tn, 1⟩⟩) ?_, (M1 hm).1, (M1 hm).2, by simp; omega, by simp, rfl⟩
   show U3 ⟨[.val .feed, .val (.int many), .no, .no, .no, .no], some ⟨cs, ps, lf, tn, 1⟩⟩ = _
   unfold U3
   rw [pre]
   rw [hb] at test
   refine L4 ?_
   rw [K2 test]
   rw [i8 (s1 := ⟨[.val .feed, .val (.int many), .no, .val (.int ps), .val (.int c), .no], some ⟨cs, ps + 1, c.fdiv many, tn, 1⟩⟩) (a40 (c6 (s1 := ⟨[.val .feed, .val (.int many), .no, .val (.int ps), .val (.int c), .no], some ⟨cs, ps + 1, lf, tn, 1⟩⟩) rfl rfl (a2z dm)) rfl)]
   exact o6 (c6 rfl rfl (P1 hne))
  ·have hb' : (decide (1000000000000000000 ≤ c) && decide (ps < (cs.length : Int))) = false := by simpa using hb
   have q : ∃ M : Int, j5 (dOp y4 (dOp l4 (dOp n9 (dOp n9 (dOp y4 (dL 4) (dC (.int 1000033))) (dOp l4 (dOp l4 (dC (.int 37)) (dL 3)) (dL 3))) (dC (.int 11))) (dC (.int 69621))) (dC (.int 999983))) (e7 5)
     ⟨[.val .feed, .val (.int many), .no, .val (.int ps), .val (.int c), .no], some ⟨cs, ps + 1, lf, tn, 1⟩⟩ = some (.next, ⟨[.val .feed, .val (.int many), .no, .val (.int ps), .val (.int c), .val (.int M)], some ⟨cs, ps + 1, lf, tn, 1⟩⟩) ∧ 0 ≤ M ∧ M < 999983 := by
    have b1 : u4 37 = true := by decide
    have b2 : u4 ps = true := Y1 (by omega)
    have b3 : u4 (37 * ps) = true := Y1 (by omega)
    have p2 : 0 ≤ 37 * ps * ps := Int.mul_nonneg (by omega) (by omega)
    have p3 : 37 * ps * ps ≤ 37 * 2 ^ 40 * 2 ^ 40 := Int.mul_le_mul (by omega) (by omega) (by omega) (by decide)
    have b4 : u4 (c.fmod 1000033 + 37 * ps * ps + 11) = true := Y1 (by omega)
    have b5 : u4 69621 = true := by decide
    refine ⟨((c.fmod 1000033 + 37 * ps * ps + 11) * 69621).fmod 999983, ?_, M1 (by decide)⟩
    exact l6 (c6 (c6 (c6 (c6 (c6 rfl rfl (P1 (by decide))) (c6 (c6 rfl rfl (r8 b1 b2)) rfl (r8 b3 b2)) rfl) rfl rfl) rfl (r8 b4 b5)) rfl (P1 (by decide))) rfl
   obtain ⟨M, e1, m1, m2⟩ := q
   have b7 : u4 M = true := Y1 (by omega)
   have b8 : u4 48271 = true := by decide
   have b9 : u4 6007 = true := by decide
   have b10 : u4 ps = true := Y1 (by omega)
   have r1 := M1 (a := M * 48271 + ps * 6007) (b := 999979) (by decide)
   have b11 : u4 ((M * 48271 + ps * 6007).fmod 999979) = true := Y1 (by omega)
   have b12 : u4 40692 = true := by decide
   have d64 : A3 64 = true := by decide
   refine ⟨((((M * 48271 + ps * 6007).fmod 999979 * 40692).fmod 1048573).fdiv 64).fmod many, ⟨cs, ps + 1, lf, tn, 1⟩, m5 (s := ⟨[.val .feed, .val (.int many), .no, .val (.int ps), .val (.int c), .val (.int M)], some ⟨cs, ps + 1, lf, tn, 1⟩⟩) ?_, (M1 hm).1, (M1 hm).2, by simp; omega, by simp, rfl⟩
   show U3 ⟨[.val .feed, .val (.int many), .no, .no, .no, .no], some ⟨cs, ps, lf, tn, 1⟩⟩ = _
   unfold U3
   rw [pre]
   rw [hb'] at test
   rw [i8 (by rw [a2v test]; rfl)]
   rw [i8 e1]
   exact o6 (c6 (c6 (c6 (c6 (c6 (c6 (c6 rfl rfl (r8 b7 b8)) (c6 rfl rfl (r8 b10 b9)) rfl) rfl (P1 (by decide))) rfl (r8 b11 b12)) rfl (P1 (by decide))) rfl (a2z d64)) rfl (P1 hne))
noncomputable def Fd3 (n : Nat) (f : FS) : Prop := 0 ≤ f.pos ∧ f.pos ≤ n ∧ f.kind = 1
theorem Fd3.mono {n m : Nat} {f : FS} (h : Fd3 n f) (hm : n ≤ m) : Fd3 m f := ⟨h.1, by have := h.2.1; omega, h.2.2⟩
theorem C4 {n : Nat} {f : FS} (many : Int) (h : Fd3 n f) (hm : 0 < many := by omega) (hn : n < 2 ^ 30 := by omega) (hm2 : many < 2 ^ 100 := by omega) :
  ∃ r f', LDw [.feed, .int many] (some f) = some (.int r, some f') ∧ 0 ≤ r ∧ r < many ∧ Fd3 (n + 1) f' := by
 obtain ⟨r, f', e, h0, h1, h2, h3, h4⟩ := b4k f many hm hm2 h.1 (by have := h.2.1; omega) h.2.2
 exact ⟨r, f', e, h0, h1, by have := h.1; omega, by have := h.2.1; omega, h4⟩
theorem b1D (ns : List Int) : U7 [.scr ns] none = some (.feed, some ⟨ns, 0, 0, 0, 1⟩) := by
 refine m5 (s := ⟨[.val (.scr ns)], some ⟨ns, 0, 0, 0, 1⟩⟩) ?_
 show a26 ⟨[.val (.scr ns)], none⟩ = _
 simp [a26, k0, dTN]
theorem Fd3.zero (ns : List Int) : Fd3 0 ⟨ns, 0, 0, 0, 1⟩ := ⟨by simp, by simp, rfl⟩
noncomputable abbrev wgT : DT := dB (dOp (n8 (fun i j => decide (j < i))) (dL 1) (dC (.int 0)))
noncomputable abbrev wgB : DM := C1 0 1 (a7 (dV 1) (a7 (dOp y4 (dL 0) (dL 1)) a8))
theorem a8H (fs : Option FS) (r : Nat) : ∀ (g : Nat), A8 wgT wgB ⟨[.val (.int g), .val (.int r)], fs⟩ = some (.next, ⟨[.val (.int (Nat.gcd g r)), .val (.int 0)], fs⟩) := by
 induction r using Nat.strongRecOn with
 | ind r ih =>
  intro g
  by_cases h : r = 0
  ·subst h
   rw [Nat.gcd_zero_right]
   exact O8 (by simp [i4, C9, j5, dOp, dUn, dC, dL, dV, e7, n0, dB, k0, c9, a7, a8, e8, o8, dCB, one, p7, p9, dIf, A6, dOr, C8, E7, F1, F0, pIx, n9, v8, t7, n8, u3, u5, m8, u6, C1, dTr, E2])
  ·have e : ((g : Int).fmod (r : Int)) = ((g % r : Nat) : Int) := by rw [Int.fmod_eq_emod_of_nonneg _ (by omega)]; rfl
   have hy := ih (g % r) (Nat.mod_lt _ (by omega)) r
   have hg : Nat.gcd g r = Nat.gcd r (g % r) := by rw [Nat.gcd_comm g r, Nat.gcd_rec, Nat.gcd_comm]
   rw [hg]
   refine P6 (s1 := ⟨[.val (.int g), .val (.int r)], fs⟩) (s2 := ⟨[.val (.int r), .val (.int ((g % r : Nat) : Int))], fs⟩) (by simp [i4, C9, j5, dOp, dUn, dC, dL, dV, e7, n0, dB, k0, c9, a7, a8, e8, o8, dCB, one, p7, p9, dIf, A6, dOr, C8, E7, F1, F0, pIx, n9, v8, t7, n8, u3, u5, m8, u6, C1, dTr, E2]; omega) ?_ hy
   rw [← e]
   simp [C1, a7, a8, dV, dOp, dL, y4, h]
noncomputable abbrev LGd : DFn := F9
theorem a2f (a b : Int) (fs : Option FS) : LGd [.int a, .int b] fs = some (.int (Int.gcd a b), fs) := by
 have hy := a8H fs b.natAbs a.natAbs
 refine m5 (s := ⟨[.val (.int (Nat.gcd a.natAbs b.natAbs)), .val (.int 0)], fs⟩) ?_
 show a3o ⟨[.val (.int a), .val (.int b)], fs⟩ = _
 unfold a3o
 rw [i8 (s1 := ⟨[.val (.int a.natAbs), .val (.int b.natAbs)], fs⟩) (by simp [i4, C9, j5, dOp, dUn, dC, dL, dV, e7, n0, dB, k0, c9, a7, a8, e8, o8, dCB, one, p7, p9, dIf, A6, dOr, C8, E7, F1, F0, pIx, n9, v8, t7, n8, u3, u5, m8, u6, C1, dTr, E2, T4, a3L])]
 rw [i8 hy]
 refine o6 ?_
 simp [dV, Int.gcd]
noncomputable abbrev LLw : DFn := G8 LGd
theorem Z8 {k : Nat} (a b : Int) (fs : Option FS) (hb : b ≠ 0) (h : Bd k b) (hk : k ≤ 8000) : LLw [.int a, .int b] fs = some (fr (Rat.divInt a b), fs) := by
 obtain ⟨p0, p1, p2⟩ := a6W a b hb
 have dg := a4G (a := a) hb h hk
 have e := a2f a b fs
 refine m5 (s := ⟨[.val (.int a), .val (.int b), .val (.int (if b < 0 then -(Int.gcd a b : Int) else (Int.gcd a b : Int)))], fs⟩) ?_
 show a34 LGd ⟨[.val (.int a), .val (.int b), .no], fs⟩ = _
 unfold a34
 rw [i8 (s1 := ⟨[.val (.int a), .val (.int b), .val (.int (Int.gcd a b))], fs⟩) (by simp [i4, C9, j5, dOp, dUn, dC, dL, dV, e7, n0, dB, k0, c9, a7, a8, e8, o8, dCB, one, p7, p9, dIf, A6, dOr, C8, E7, F1, F0, pIx, n9, v8, t7, n8, u3, u5, m8, u6, C1, dTr, E2, e])]
 rw [i8 (s1 := ⟨[.val (.int a), .val (.int b), .val (.int (if b < 0 then -(Int.gcd a b : Int) else (Int.gcd a b : Int)))], fs⟩) (by
  by_cases nb : b < 0
  ·simp [i4, C9, j5, dOp, dUn, dC, dL, dV, e7, n0, dB, k0, c9, a7, a8, e8, o8, dCB, one, p7, p9, dIf, A6, dOr, C8, E7, F1, F0, pIx, n9, v8, t7, n8, u3, u5, m8, u6, C1, dTr, E2, nb]
  ·simp [i4, C9, j5, dOp, dUn, dC, dL, dV, e7, n0, dB, k0, c9, a7, a8, e8, o8, dCB, one, p7, p9, dIf, A6, dOr, C8, E7, F1, F0, pIx, n9, v8, t7, n8, u3, u5, m8, u6, C1, dTr, E2, nb])]
 generalize hg : (if b < 0 then -(Int.gcd a b : Int) else (Int.gcd a b : Int)) = gg at *
 refine o6 ?_
 unfold fr
 rw [← p1, ← p2]
 simp [i4, C9, j5, dOp, dUn, dC, dL, dV, e7, n0, dB, k0, c9, a7, a8, e8, o8, dCB, one, p7, p9, dIf, A6, dOr, C8, E7, F1, F0, pIx, n9, v8, t7, n8, u3, u5, m8, u6, C1, dTr, E2, u8, dg, sz2]
noncomputable abbrev WPl : DFn := W7 LLw
noncomputable abbrev WMi : DFn := a4A LLw
noncomputable abbrev WPr : DFn := U8 LLw
noncomputable abbrev WXy : DFn := a2L LLw
noncomputable abbrev WSp : DFn := a1n LGd
theorem X9 {k l : Nat} (p q : Rat) (fs : Option FS) (h1 : Sz k p) (h2 : Sz l q) (hk : k + l ≤ 8000) : WPl [fr p, fr q] fs = some (fr (p + q), fs) := by
 have b1 := h1.num.bits (by omega)
 have b2 := h1.den.bits (by omega)
 have b3 := h2.num.bits (by omega)
 have b4 := h2.den.bits (by omega)
 have e := Z8 (p.num * q.den + q.num * p.den) (p.den * q.den) fs (a0F p q) (Bd.mul h1.den h2.den) hk
 rw [← a5O] at e
 refine m5 (s := ⟨[.val (fr p), .val (fr q)], fs⟩) ?_
 exact o6 (k9 (j8 (c6 (c6 (c6 rfl rfl (E3 p)) (c6 rfl rfl (C2 q)) (r8 b1 b4)) (c6 (c6 rfl rfl (E3 q)) (c6 rfl rfl (C2 p)) (r8 b3 b2)) rfl) (j8 (c6 (c6 rfl rfl (C2 p)) (c6 rfl rfl (C2 q)) (r8 b2 b4)) rfl)) e)
theorem b1V (p q : Rat) : p - q = Rat.divInt (p.num * q.den - q.num * p.den) (p.den * q.den) := by
 have e : p - q = p + -q := Rat.sub_eq_add_neg p q
 rw [e, a5O, Rat.neg_num, Rat.neg_den, Int.neg_mul, Int.sub_eq_add_neg]
theorem a6G {k l : Nat} (p q : Rat) (fs : Option FS) (h1 : Sz k p) (h2 : Sz l q) (hk : k + l ≤ 8000) : WMi [fr p, fr q] fs = some (fr (p - q), fs) := by
 have b1 := h1.num.bits (by omega)
 have b2 := h1.den.bits (by omega)
 have b3 := h2.num.bits (by omega)
 have b4 := h2.den.bits (by omega)
 have e := Z8 (p.num * q.den - q.num * p.den) (p.den * q.den) fs (a0F p q) (Bd.mul h1.den h2.den) hk
 rw [← b1V] at e
 refine m5 (s := ⟨[.val (fr p), .val (fr q)], fs⟩) ?_
 exact o6 (k9 (j8 (c6 (c6 (c6 rfl rfl (E3 p)) (c6 rfl rfl (C2 q)) (r8 b1 b4)) (c6 (c6 rfl rfl (E3 q)) (c6 rfl rfl (C2 p)) (r8 b3 b2)) rfl) (j8 (c6 (c6 rfl rfl (C2 p)) (c6 rfl rfl (C2 q)) (r8 b2 b4)) rfl)) e)
theorem Y7 {k l : Nat} (a b c d : Int) (fs : Option FS) (hb : b ≠ 0) (hd : d ≠ 0) (h1 : Bd k a) (h2 : Bd k b) (h3 : Bd l c) (h4 : Bd l d) (hk : k + l ≤ 8000) : WPr [.tup [.int a, .int b], .tup [.int c, .int d]] fs = some (fr (Rat.divInt (a * c) (b * d)), fs) := by
 have b1 := h1.bits (by omega)
 have b2 := h2.bits (by omega)
 have b3 := h3.bits (by omega)
 have b4 := h4.bits (by omega)
 have e := Z8 (a * c) (b * d) fs (Int.mul_ne_zero hb hd) (Bd.mul h2 h4) hk
 refine m5 (s := ⟨[.val (.tup [.int a, .int b]), .val (.tup [.int c, .int d])], fs⟩) ?_
 exact o6 (k9 (j8 (c6 (c6 rfl rfl rfl) (c6 rfl rfl rfl) (r8 b1 b3)) (j8 (c6 (c6 rfl rfl rfl) (c6 rfl rfl rfl) (r8 b2 b4)) rfl)) e)
theorem a0G {k l : Nat} (p q : Rat) (fs : Option FS) (h1 : Sz k p) (h2 : Sz l q) (hk : k + l ≤ 8000) : WPr [fr p, fr q] fs = some (fr (p * q), fs) := by
 have e := Y7 p.num p.den q.num q.den fs (D1 p) (D1 q) h1.num h1.den h2.num h2.den hk
 rw [← a2G] at e
 exact e
theorem wxy {k : Nat} (a : Pt) (fs : Option FS) (h : Ps k a) (hk : k ≤ 8000) : WXy [pt a] fs = some (.tup [fr a.1, fr a.2], fs) := by
 have e1 := Z8 (pX a) (pL a) fs (K6 a) h.l hk
 have e2 := Z8 (pY a) (pL a) fs (K6 a) h.l hk
 rw [px_div] at e1
 rw [py_div] at e2
 refine m5 (s := ⟨[.val (pt a)], fs⟩) ?_
 exact o6 (u9 (k9 (j8 (c6 rfl rfl (P9 a)) (j8 (c6 rfl rfl (J6 a)) rfl)) e1) (k9 (j8 (c6 rfl rfl (N9 a)) (j8 (c6 rfl rfl (J6 a)) rfl)) e2))
theorem a3Q {k l : Nat} (p q : Rat) (fs : Option FS) (h1 : Sz k p) (h2 : Sz l q) (hk : k + l ≤ 8000) : WSp [fr p, fr q] fs = some (pt (p, q), fs) := by
 have b1 := h1.num.bits (by omega)
 have b2 := h1.den.bits (by omega)
 have b3 := h2.num.bits (by omega)
 have b4 := h2.den.bits (by omega)
 have hd := a0F p q
 have hp : ¬ (p.den : Int) * q.den < 0 := by have := Int.mul_pos (Y2 p) (Y2 q); omega
 obtain ⟨g0, p1, p2, p3⟩ := a5L (p.num * q.den) (q.num * p.den) (p.den * q.den) hd
 have dg := a5E (x := p.num * q.den) (y := q.num * p.den) hd (Bd.mul h1.den h2.den) hk
 rw [if_neg hp] at g0 p1 p2 p3 dg
 rw [a5Z, a6z] at p1 p2 p3
 have w1 := a2f (p.num * q.den) (q.num * p.den) fs
 have w2 := a2f (Int.gcd (p.num * q.den) (q.num * p.den) : Int) (p.den * q.den) fs
 generalize (Int.gcd (Int.gcd (p.num * q.den) (q.num * p.den) : Int) (p.den * q.den) : Int) = gg at *
 refine m5 (s := ⟨[.val (fr p), .val (fr q), .val (.tup [.int (p.num * q.den), .int (q.num * p.den), .int (p.den * q.den)]), .val (.int gg)], fs⟩) ?_
 show a4k LGd ⟨[.val (fr p), .val (fr q), .no, .no], fs⟩ = _
 unfold a4k
 rw [i8 (s1 := ⟨[.val (fr p), .val (fr q), .val (.tup [.int (p.num * q.den), .int (q.num * p.den), .int (p.den * q.den)]), .no], fs⟩) (l6 (V2 (c6 (c6 rfl rfl (E3 p)) (c6 rfl rfl (C2 q)) (r8 b1 b4)) (c6 (c6 rfl rfl (E3 q)) (c6 rfl rfl (C2 p)) (r8 b3 b2)) (c6 (c6 rfl rfl (C2 p)) (c6 rfl rfl (C2 q)) (r8 b2 b4))) rfl)]
 rw [i8 (s1 := ⟨[.val (fr p), .val (fr q), .val (.tup [.int (p.num * q.den), .int (q.num * p.den), .int (p.den * q.den)]), .val (.int gg)], fs⟩) (l6 (k9 (j8 (k9 (j8 (c6 rfl rfl rfl) (j8 (c6 rfl rfl rfl) rfl)) w1) (j8 (c6 rfl rfl rfl) rfl)) w2) rfl)]
 refine o6 ?_
 unfold pt
 rw [← p1, ← p2, ← p3]
 exact C5 (p := D5) (A7 (U2 (idx := [3]) (ds := [.int (p.num * q.den), .int (q.num * p.den), .int (p.den * q.den)]) (s1 := ⟨[.val (fr p), .val (fr q), .val (.tup [.int (p.num * q.den), .int (q.num * p.den), .int (p.den * q.den)]), .val (.int gg)], fs⟩) rfl sz3 (a3U dg fs [p.num * q.den, q.num * p.den, p.den * q.den]))) rfl
noncomputable abbrev WSq : DFn := a3M WPl WPr WMi WXy
theorem b2b (a b : Pt) : (b.1 - a.1) * (b.1 - a.1) + (b.2 - a.2) * (b.2 - a.2) = dsq a b := by unfold dsq; grind
theorem b3G (a b : Pt) (fs : Option FS) (ha : PtS 200 a) (hb : PtS 200 b) : WSq [pt a, pt b] fs = some (fr (dsq a b), fs) := by
 have xa := wxy a fs (Ps.of ha.1 ha.2) (by decide)
 have xb := wxy b fs (Ps.of hb.1 hb.2) (by decide)
 have m1 := a6G b.1 a.1 fs hb.1 ha.1 (by decide)
 have m2 := a6G b.2 a.2 fs hb.2 ha.2 (by decide)
 have z1 := hb.1.sub ha.1
 have z2 := hb.2.sub ha.2
 have p1 := a0G _ _ fs z1 z1 (by decide)
 have p2 := a0G _ _ fs z2 z2 (by decide)
 have s3 := X9 _ _ fs (z1.mul z1) (z2.mul z2) (by decide)
 rw [b2b] at s3
 refine m5 (s := ⟨[.val (pt a), .val (pt b), .val (fr a.1), .val (fr a.2), .val (fr b.1), .val (fr b.2), .val (fr (b.1 - a.1)), .val (fr (b.2 - a.2))], fs⟩) ?_
 show a1W WPl WPr WMi WXy ⟨[.val (pt a), .val (pt b), .no, .no, .no, .no, .no, .no], fs⟩ = _
 unfold a1W
 rw [i8 (s1 := ⟨[.val (pt a), .val (pt b), .val (fr a.1), .val (fr a.2), .val (fr b.1), .val (fr b.2), .no, .no], fs⟩) (l6 (u9 (k9 (j8 rfl rfl) xa) (k9 (j8 rfl rfl) xb)) rfl)]
 rw [i8 (s1 := ⟨[.val (pt a), .val (pt b), .val (fr a.1), .val (fr a.2), .val (fr b.1), .val (fr b.2), .val (fr (b.1 - a.1)), .val (fr (b.2 - a.2))], fs⟩) (by simp [C1, c9, a7, a8, dV, m1, m2])]
 exact o6 (k9 (j8 (k9 (j8 rfl (j8 rfl rfl)) p1) (j8 (k9 (j8 rfl (j8 rfl rfl)) p2) rfl)) s3)
theorem Sm.bits4 {M g : Int} (hM : Sm M) (h0 : 0 ≤ g) (h : g ≤ 4 * M) : u4 g = true := by
 refine Bd.bits (k := 4004) ?_ (by decide)
 unfold Bd
 have e : (2 : Nat) ^ 4004 = 16 * 2 ^ 4000 := by rw [show (4004 : Nat) = 4000 + 4 from rfl, Nat.pow_add]; omega
 have h2 : M ≤ ((2 ^ 4000 : Nat) : Int) := by have := hM.2; rw [Int.natCast_pow]; exact this
 have p : 0 < (2 : Nat) ^ 4000 := Nat.pow_pos (by decide)
 rw [e]
 omega
theorem a5K (j : Nat) : (2 : Int) ^ (j + 1) = 2 ^ j * 2 := Int.pow_succ ..
theorem a1p (j : Nat) : (1 : Int) ≤ 2 ^ j := by have : (0 : Int) < 2 ^ j := Int.pow_pos (by decide); omega
noncomputable abbrev rtS (n r s : Int) (fs : Option FS) : DS := ⟨[.val (.int n), .val (.int r), .val (.int s)], fs⟩
noncomputable abbrev b1Z : DT := dB (dOp (n8 (fun i j => decide (i ≤ j))) (dOp l4 (dL 2) (dL 2)) (dL 0))
noncomputable abbrev a03 : DT := dB (dOp (n8 (fun i j => decide (j < i))) (dL 2) (dC (.int 0)))
theorem a94 {M : Int} (hM : Sm M) (n : Int) (hn : n < M * M) (fs : Option FS) (k : Nat) : ∀ j : Nat, (2 * M - 2 ^ j).toNat = k → (2 : Int) ^ j ≤ 2 * M →
  ∃ j' : Nat, A8 b1Z a54 (rtS n 0 (2 ^ j) fs) = some (.next, rtS n 0 (2 ^ j') fs) ∧ (2 : Int) ^ j' ≤ 2 * M ∧ n < 2 ^ j' * 2 ^ j' := by
 induction k using Nat.strongRecOn with
 | ind k ih =>
  intro j hk h2
  have h1 := a1p j
  have up := a5K j
  have bh : u4 (2 ^ j) = true := hM.bits (by omega) h2
  by_cases c : (2 : Int) ^ j * 2 ^ j ≤ n
  ·have hs := a0N hM c hn (by omega)
   obtain ⟨j', e, r⟩ := ih (2 * M - 2 ^ (j + 1)).toNat (by omega) (j + 1) rfl (by omega)
   have b2 : u4 2 = true := by decide
   rw [up] at e
   generalize (2 : Int) ^ j = h at *
   exact ⟨j', P6 (s1 := rtS n 0 h fs) (s2 := rtS n 0 (h * 2) fs) (by simp [dB, dOp, dL, n8, l4, bh, c]) (by simp [j5, dOp, dL, dC, e7, l4, bh, b2]) e, r⟩
  ·refine ⟨j, ?_, h2, by omega⟩
   generalize (2 : Int) ^ j = h at *
   exact O8 (by simp [dB, dOp, dL, n8, l4, bh, c])
theorem b2I {M : Int} (hM : Sm M) (n : Int) (hn : n < M * M) (fs : Option FS) : ∀ (j : Nat) (r : Int), 0 ≤ r → (2 : Int) ^ j ≤ 2 * M → r * r ≤ n → n < (r + 2 ^ j * 2) * (r + 2 ^ j * 2) →
  ∃ r', A8 a03 a0O (rtS n r (2 ^ j) fs) = some (.next, rtS n r' 0 fs) ∧ IsR r' n := by
 have one : ∀ (r s t : Int), 0 ≤ r → 1 ≤ s → s ≤ 2 * M → r * r ≤ n → n < (r + s * 2) * (r + s * 2) → s.fdiv 2 = t →
   ∃ r', 0 ≤ r' ∧ r' * r' ≤ n ∧ n < (r' + s) * (r' + s) ∧ ∀ e, A8 a03 a0O (rtS n r' t fs) = some e → A8 a03 a0O (rtS n r s fs) = some e := by
  intro r s t h0 h1 h2 h3 h4 ht
  have hr := a0N hM h3 hn h0
  have bb : u4 (r + s) = true := hM.bits4 (by omega) (by omega)
  have d2 : A3 2 = true := by decide
  have s0 : 0 < s := by omega
  have tt : a03 (rtS n r s fs) = some (true, rtS n r s fs) := y8 (c6 rfl rfl (show some (D.bl (decide (0 < s))) = _ by rw [decide_eq_true s0]))
  have ts : dB (dOp (n8 (fun i j => decide (i ≤ j))) (dOp l4 (dOp n9 (dL 1) (dL 2)) (dOp n9 (dL 1) (dL 2))) (dL 0)) (rtS n r s fs) = some (decide ((r + s) * (r + s) ≤ n), rtS n r s fs) := y8 (c6 (c6 (c6 rfl rfl rfl) (c6 rfl rfl rfl) (r8 bb bb)) rfl rfl)
  have dv : ∀ r, j5 (dOp u8 (dL 2) (dC (.int 2))) (e7 2) (rtS n r s fs) = some (.next, rtS n r t fs) := fun r => l6 (c6 rfl rfl (show (if A3 2 then some (D.int (s.fdiv 2)) else none) = some (.int t) by rw [if_pos d2, ht])) rfl
  by_cases c : (r + s) * (r + s) ≤ n
  ·refine ⟨r + s, by omega, c, by rw [show r + s + s = r + s * 2 by omega]; exact h4, fun e he => P6 tt ?_ he⟩
   rw [decide_eq_true c] at ts
   exact (i8 (s1 := rtS n (r + s) s fs) ((K2 ts).trans (l6 (c6 rfl rfl rfl) rfl))).trans (dv _)
  ·refine ⟨r, h0, h3, by omega, fun e he => P6 tt ?_ he⟩
   rw [decide_eq_false c] at ts
   exact (i8 (s1 := rtS n r s fs) (D8 ts)).trans (dv _)
 intro j
 induction j with
 | zero =>
  intro r h0 h2 h3 h4
  obtain ⟨r', a, b, c, d⟩ := one r 1 0 h0 (by decide) h2 h3 h4 (by decide)
  exact ⟨r', d _ (O8 (by simp [dB, dOp, dL, dC, n8])), a, b, c⟩
 | succ j ih =>
  intro r h0 h2 h3 h4
  have h1 := a1p (j + 1)
  have up := a5K j
  have hd : ((2 : Int) ^ (j + 1)).fdiv 2 = 2 ^ j := by rw [up]; exact Int.mul_fdiv_cancel _ (by decide)
  obtain ⟨r', a, b, c, d⟩ := one r (2 ^ (j + 1)) (2 ^ j) h0 h1 h2 h3 h4 hd
  obtain ⟨r2, e, q⟩ := ih r' a (by have := a1p j; omega) b (by rw [← up]; exact c)
  exact ⟨r2, d _ e, q⟩
theorem a7x {n : Int} (h0 : 0 ≤ n) (hn : n < (2 : Int) ^ 1000 * 2 ^ 1000) (fs : Option FS) : Z5 [.int n] fs = some (.int (isq n), fs) := by
 obtain ⟨j, e1, h2, h3⟩ := a94 a3P n hn fs _ 0 rfl (by decide +kernel)
 have p := a1p j
 obtain ⟨r, e2, hr⟩ := b2I a3P n hn fs j 0 (by decide) h2 (by omega) (by
  have : (2 : Int) ^ j * 2 ^ j ≤ (0 + 2 ^ j * 2) * (0 + 2 ^ j * 2) := a0j (by omega) (by omega)
  omega)
 have e3 := a3n hr (a0U h0)
 subst e3
 refine m5 (s := rtS n (isq n) 0 fs) ?_
 show a2T ⟨[.val (.int n), .no, .no], fs⟩ = _
 unfold a2T
 rw [i8 (s1 := ⟨[.val (.int n), .val (.int 0), .no], fs⟩) (l6 rfl rfl), i8 (s1 := rtS n 0 (2 ^ 0) fs) (l6 rfl rfl), i8 e1, i8 e2]
 exact o6 rfl
noncomputable abbrev WSz : DFn := a3R Z5 WSq
theorem a5l (r : Rat) : (r * r).num = r.num * r.num ∧ ((r * r).den : Int) = r.den * r.den := by
 have hd : (0 : Int) < r.den * r.den := Int.mul_pos (Y2 r) (Y2 r)
 have g : Int.gcd (r.num * r.num) ((r.den : Int) * r.den) = 1 := by
  have hc : Nat.Coprime r.num.natAbs r.den := r.reduced
  show Nat.gcd (r.num * r.num).natAbs ((r.den : Int) * r.den).natAbs = 1
  rw [Int.natAbs_mul, Int.natAbs_mul, Int.natAbs_natCast]
  exact Nat.Coprime.mul_left (Nat.Coprime.mul_right hc hc) (Nat.Coprime.mul_right hc hc)
 rw [a2G, b1i hd, b20 hd, g]
 simp
theorem a49 {s : Int} (h : 0 ≤ s) : isq (s * s) = s := a3n (a0U (Int.mul_nonneg h h)) ⟨h, Int.le_refl _, by
 have e : (s + 1) * (s + 1) = s * s + 2 * s + 1 := by grind
 omega⟩
theorem a61 {r : Rat} (h : 0 ≤ r) : isq (r * r).num = r.num ∧ isq (r * r).den = r.den := by
 obtain ⟨h1, h2⟩ := a5l r
 rw [h1, h2]
 exact ⟨a49 (a05 h), a49 (by omega)⟩
theorem b1s {r : Rat} (h : 0 ≤ r) : rtD (r * r) = fr r := by
 obtain ⟨h1, h2⟩ := a5l r
 obtain ⟨h3, h4⟩ := a61 h
 unfold rtD Y8
 rw [h3, h4, h1, h2, if_pos ⟨rfl, rfl⟩]
 rfl
theorem b3h (a b : Pt) (r : Rat) (fs : Option FS) (ha : PtS 200 a) (hb : PtS 200 b) (h0 : 0 ≤ r) (h : dsq a b = r * r) : WSz [pt a, pt b] fs = some (fr r, fs) := by
 have e := b3G a b fs ha hb
 have qs : Sz 2000 (dsq a b) := (a7t ha hb).mono (by decide)
 obtain ⟨n1, n2⟩ := a3X qs
 have r1 := a7x (a05 (a7a a b)) n1 fs
 have r2 := a7x (show (0 : Int) ≤ (dsq a b).den by omega) n2 fs
 obtain ⟨h3, h4⟩ := a61 h0
 rw [h] at r1 r2 e
 rw [h3] at r1
 rw [h4] at r2
 refine m5 (s := ⟨[.val (pt a), .val (pt b), .val (.int (r * r).num), .val (.int (r * r).den)], fs⟩) ?_
 show a2a Z5 WSq ⟨[.val (pt a), .val (pt b), .no, .no], fs⟩ = _
 unfold a2a
 rw [i8 (s1 := ⟨[.val (pt a), .val (pt b), .val (.int (r * r).num), .val (.int (r * r).den)], fs⟩) (l6 (k9 rfl e) rfl)]
 exact o6 (u9 (k9 rfl r1) (k9 rfl r2))
noncomputable def Gr (B : Nat) (x : Rat) : Prop := ∃ n : Int, n.natAbs ≤ B ∧ x = Rat.divInt n 6630
theorem Gr.mono {B C : Nat} {x : Rat} (h : Gr B x) (hc : B ≤ C) : Gr C x := by
 obtain ⟨n, a, e⟩ := h
 exact ⟨n, Nat.le_trans a hc, e⟩
theorem Gr.add {B C : Nat} {x y : Rat} (h1 : Gr B x) (h2 : Gr C y) : Gr (B + C) (x + y) := by
 obtain ⟨n, a, rfl⟩ := h1
 obtain ⟨m, b, rfl⟩ := h2
 refine ⟨n + m, Nat.le_trans (Int.natAbs_add_le ..) (Nat.add_le_add a b), ?_⟩
 rw [Rat.divInt_eq_div, Rat.divInt_eq_div, Rat.divInt_eq_div, Rat.intCast_add]
 grind
theorem Gr.sz {B : Nat} {x : Rat} (h : Gr B x) (hB : B < 2 ^ 80) : Sz 80 x := by
 obtain ⟨n, a, rfl⟩ := h
 exact Sz.of_divInt (by decide) (Nat.lt_of_le_of_lt a hB) (by decide)
theorem Gr.div {B : Nat} {a b : Int} (hb : 0 < b) (hd : (6630 : Int) % b = 0) (hB : a.natAbs * 6630 ≤ B) : Gr B (Rat.divInt a b) := by
 obtain ⟨c, hc⟩ := Int.dvd_of_emod_eq_zero hd
 have c0 : 0 < c := by
  rcases Int.lt_or_le 0 c with z | z
  ·exact z
  ·have : b * c ≤ b * 0 := Int.mul_le_mul_of_nonneg_left z (by omega)
   omega
 have c1 : c ≤ 6630 := by
  have : 1 * c ≤ b * c := Int.mul_le_mul_of_nonneg_right (by omega) (by omega)
  omega
 refine ⟨a * c, ?_, ?_⟩
 ·rw [Int.natAbs_mul]
  exact Nat.le_trans (Nat.mul_le_mul_left _ (by omega)) hB
 ·rw [hc, Rat.divInt_mul_right (by omega)]
noncomputable def Gf (B : Nat) (x : Rat) : Prop := ∃ n : Int, n.natAbs ≤ B ∧ x = Rat.divInt n 351138060
theorem Gf.mono {B C : Nat} {x : Rat} (h : Gf B x) (hc : B ≤ C) : Gf C x := by
 obtain ⟨n, a, e⟩ := h
 exact ⟨n, Nat.le_trans a hc, e⟩
theorem Gf.add {B C : Nat} {x y : Rat} (h1 : Gf B x) (h2 : Gf C y) : Gf (B + C) (x + y) := by
 obtain ⟨n, a, rfl⟩ := h1
 obtain ⟨m, b, rfl⟩ := h2
 refine ⟨n + m, Nat.le_trans (Int.natAbs_add_le ..) (Nat.add_le_add a b), ?_⟩
 rw [Rat.divInt_eq_div, Rat.divInt_eq_div, Rat.divInt_eq_div, Rat.intCast_add]
 grind
theorem Gf.sz {B : Nat} {x : Rat} (h : Gf B x) (hB : B < 2 ^ 81) : Sz 81 x := by
 obtain ⟨n, a, rfl⟩ := h
 exact Sz.of_divInt (by decide) (Nat.lt_of_le_of_lt a hB) (by decide)
theorem Gr.fine {B : Nat} {x : Rat} (h : Gr B x) : Gf (B * 52962) x := by
 obtain ⟨n, a, rfl⟩ := h
 refine ⟨n * 52962, ?_, ?_⟩
 ·rw [Int.natAbs_mul]
  exact Nat.mul_le_mul_right _ a
 ·rw [show (351138060 : Int) = 6630 * 52962 from rfl, Rat.divInt_mul_right (by decide)]
noncomputable abbrev WSt : DFn := a1a LDw
noncomputable def stD : List D := [.tup [.int 0, .int 1], .tup [.int 1, .int 1], .tup [.int (-1), .int 2], .tup [.int 5, .int 3], .tup [.int (-7), .int 1], .tup [.int 3, .int 2]]
noncomputable def R6 : List (Int × Int) := [(0, 1), (1, 1), (-1, 2), (5, 3), (-7, 1), (3, 2)]
theorem b23 : (R6.all fun z => decide ((Rat.divInt z.1 z.2).num = z.1 ∧ ((Rat.divInt z.1 z.2).den : Int) = z.2 ∧ 0 < z.2 ∧ (6630 : Int) % z.2 = 0 ∧ z.1.natAbs * 6630 ≤ 46410)) = true := by decide +kernel
theorem a6r {r : Int} (h0 : 0 ≤ r) (h1 : r < 6) : ∃ p : Rat, atI stD r = some (fr p) ∧ Gr 46410 p := by
 obtain ⟨x, hx, e⟩ := L0 (xs := stD) h0 h1
 obtain ⟨z, hz, rfl⟩ := List.mem_map.mp (show x ∈ R6.map (fun z => D.tup [.int z.1, .int z.2]) from hx)
 obtain ⟨q1, q2, q3, q4, q5⟩ := of_decide_eq_true (List.all_eq_true.mp b23 z hz)
 refine ⟨Rat.divInt z.1 z.2, ?_, Gr.div q3 q4 q5⟩
 unfold fr
 rw [q1, q2]
 exact e
theorem B4 {ds : List D} {i : Int} {d : D} (h : atI ds i = some d) : pIx (.lst ds) (.int i) = some d := (ixL ds i).trans h
theorem a7L {n : Nat} {f : FS} (h : Fd3 n f) (hn : n < 2 ^ 29) : ∃ p q f', WSt [.feed] (some f) = some (.tup [fr p, fr q], some f') ∧ Gr 46410 p ∧ Gr 46410 q ∧ Fd3 (n + 2) f' := by
 obtain ⟨r1, f1, e1, a1, a2, h1⟩ := C4 6 h
 obtain ⟨r2, f2, e2, b1, b2, h2⟩ := C4 6 h1
 obtain ⟨p, q1, g1⟩ := a6r a1 a2
 obtain ⟨q, q2, g2⟩ := a6r b1 b2
 refine ⟨p, q, f2, m5 (s := ⟨[.val .feed, .own stD, .val (fr p)], some f2⟩) ?_, g1, g2, h2⟩
 show a4z LDw ⟨[.val .feed, .no, .no], some f⟩ = _
 unfold a4z
 rw [i8 (s1 := ⟨[.val .feed, .own stD, .no], some f⟩) (D4 (s1 := ⟨[.val .feed, .no, .no], some f⟩) rfl (by decide : 1 < 3))]
 rw [i8 (s1 := ⟨[.val .feed, .own stD, .val (fr p)], some f1⟩) (l6 (c6 rfl (t9 rfl e1) (B4 q1)) rfl)]
 exact o6 (u9 rfl (c6 rfl (t9 rfl e2) (B4 q2)))
noncomputable abbrev WMn : DFn := a2X LDw
noncomputable def wyD (w : Int × Int × Int) : D := .tup [.int w.1, .int w.2.1, .int w.2.2]
noncomputable def szD (z : Int × Int) : D := .tup [.int z.1, .int z.2]
noncomputable def ways0 : List (Int × Int × Int) := [(1, 0, 1), (0, 1, 1), (-1, 0, 1), (0, -1, 1)]
noncomputable def W4 (a b h : Int) : List (Int × Int × Int) := [(h, 0, h), (0, h, h), (-h, 0, h), (0, -h, h), (a, b, h), (-b, a, h), (-a, -b, h), (b, -a, h), (b, a, h), (-a, b, h), (-b, -a, h), (a, -b, h)]
noncomputable def b3x (g : Int) : List (Int × Int) := [(g * 1, 1), (g * 2, 1), (g * 1, 2), (g * 40, 1), (g * 7, 3)]
noncomputable def a9J (g h : Int) : List (Int × Int) := [(g * h, 1), (g * 1, 1), (g * h, 2), (g * 2, 1)]
noncomputable def okZ (w : Int × Int × Int) (z : Int × Int) : Bool := decide (0 < z.1 ∧ 0 < z.2 ∧ z.1 ≤ 40000000000000 ∧ z.2 ≤ 3 ∧ 6630 % (z.2 * w.2.2) = 0)
noncomputable def okY (Z : List (Int × Int)) (w : Int × Int × Int) : Bool := decide (w.1 * w.1 + w.2.1 * w.2.1 = w.2.2 * w.2.2 ∧ 0 < w.2.2 ∧ w.2.2 ≤ 17 ∧ w.1.natAbs ≤ 17 ∧ w.2.1.natAbs ≤ 17) && Z.all (okZ w)
noncomputable def okT (W : List (Int × Int × Int)) : Bool := W.all fun a => W.all fun b => decide (a = b ∨ a.1 * b.2.2 ≠ b.1 * a.2.2 ∨ a.2.1 * b.2.2 ≠ b.2.1 * a.2.2)
noncomputable def a5S (W : List (Int × Int × Int)) (Z : List (Int × Int)) : Bool := W.all (okY Z) && decide (W.length ≤ 12 ∧ 1 ≤ Z.length ∧ Z.length ≤ 5) && W.any fun a => W.any fun b => !decide (a = b)
noncomputable def okW (W : List (Int × Int × Int)) (Z : List (Int × Int)) : Bool := a5S W Z && okT W
theorem b2v {r : Int} (h0 : 0 ≤ r) (h1 : r < 8) : ∃ g : Int, (g = 1 ∨ g = 1000000000000) ∧ atI [D.int 1, .int 1, .int 1, .int 1, .int 1, .int 1, .int 1, .int 1000000000000] r = some (.int g) := by
 obtain ⟨x, hx, e⟩ := L0 (xs := [D.int 1, .int 1, .int 1, .int 1, .int 1, .int 1, .int 1, .int 1000000000000]) h0 h1
 rcases List.mem_append.mp (show x ∈ List.replicate 7 (D.int 1) ++ [.int 1000000000000] from hx) with z | z
 ·rw [List.eq_of_mem_replicate z] at e
  exact ⟨1, .inl rfl, e⟩
 ·rw [List.mem_singleton.mp z] at e
  exact ⟨_, .inr rfl, e⟩
theorem b4g {g t : Int} (hg : g = 1 ∨ g = 1000000000000) (ht : t.natAbs ≤ 40) : l4 (.int g) (.int t) = some (.int (g * t)) := by
 refine r8 ?_ (Bd.bits (k := 10) (show t.natAbs < 2 ^ 10 by omega) (by decide))
 rcases hg with rfl | rfl <;> decide +kernel
noncomputable abbrev szE : DE := e8 (a7 (dOp l4 (dL 2) (dL 0)) (a7 (dV 1) a8))
theorem a1Z {g : Int} (hg : g = 1 ∨ g = 1000000000000) (sl : List Sl) (hs : D9 [1] sl = [.val (.int g)]) (fs : Option FS) : ∀ zs : List (Int × Int), (∀ z ∈ zs, z.1.natAbs ≤ 40) → w9 (mk2 [1] sl) w8 szE (zs.map szD) fs = some ((zs.map fun z => (g * z.1, z.2)).map szD, fs)
 | [], _ => rfl
 | z :: r, h => by
  have ih := a1Z hg sl hs fs r fun y hy => h y (List.mem_cons_of_mem _ hy)
  have m := b4g hg (h z (List.mem_cons_self ..))
  rw [List.map_cons, w9]
  have e : mk2 [1] sl (szD z) = some [.val (.int z.1), .val (.int z.2), .val (.int g)] := by
   show some (.val (.int z.1) :: .val (.int z.2) :: D9 [1] sl) = _
   rw [hs]
  rw [e, Option.bind_some]
  have y : w8 ⟨[.val (.int z.1), .val (.int z.2), .val (.int g)], fs⟩ = some (true, ⟨[.val (.int z.1), .val (.int z.2), .val (.int g)], fs⟩) := rfl
  have el : szE ⟨[.val (.int z.1), .val (.int z.2), .val (.int g)], fs⟩ = some (szD (g * z.1, z.2), ⟨[.val (.int z.1), .val (.int z.2), .val (.int g)], fs⟩) := u9 (c6 rfl rfl m) rfl
  rw [y, Option.bind_some, if_pos rfl, el, Option.bind_some, ih]
  rfl
theorem J2 {n : Nat} (h : n ≤ 100) : n ≤ sizeLine := Nat.le_trans h (by decide)
noncomputable def a4U : List D := [.tup [.int 3, .int 4, .int 5], .tup [.int 3, .int 4, .int 5], .tup [.int 5, .int 12, .int 13], .tup [.int 8, .int 15, .int 17]]
theorem a0c {xs ys : List D} (h : xs.length + ys.length ≤ 100) : S9 (.lst xs) (.lst ys) = some (xs ++ ys) := if_pos (J2 h)
noncomputable abbrev mnS (g c a b h : Int) (x7 x8 x9 : Sl) (f : FS) : DS := ⟨[.val .feed, .val (.int g), .val (.int c), .no, .val (.int a), .val (.int b), .val (.int h), x7, x8, x9], some f⟩
theorem a73 (g c a b h x y : Int) (xs : List D) (x8 x9 : Sl) (f : FS) (hl : xs.length ≤ 50) (r : List D) : A1 (u5 2 (m8 (e7 8) (m8 (e7 9) u6))) (a3t LDw) (.tup [.int x, .int y] :: r) (mnS g c a b h (.own xs) x8 x9 f) =
  A1 (u5 2 (m8 (e7 8) (m8 (e7 9) u6))) (a3t LDw) r (mnS g c a b h (.own (xs ++ [wyD (x, y, h), wyD (-y, x, h), wyD (-x, -y, h), wyD (y, -x, h)])) (.val (.int x)) (.val (.int y)) f) :=
 X3 (s1 := mnS g c a b h (.own xs) (.val (.int x)) (.val (.int y)) f) (s2 := mnS g c a b h (.own (xs ++ [wyD (x, y, h), wyD (-y, x, h), wyD (-x, -y, h), wyD (y, -x, h)])) (.val (.int x)) (.val (.int y)) f) rfl
  (D4 (s1 := mnS g c a b h (.own xs) (.val (.int x)) (.val (.int y)) f) (W2 rfl (A7 (ds := [wyD (x, y, h), wyD (-y, x, h), wyD (-x, -y, h), wyD (y, -x, h)]) (s1 := mnS g c a b h (.own xs) (.val (.int x)) (.val (.int y)) f) rfl) (a0c (by show xs.length + 4 ≤ 100; omega))) (by decide : 7 < 10))
theorem a1v {g c a b h r1 : Int} {f0 f1 f : FS} (e1 : LDw [.feed, .int 8] (some f0) = some (.int r1, some f1)) (q1 : atI [D.int 1, .int 1, .int 1, .int 1, .int 1, .int 1, .int 1, .int 1000000000000] r1 = some (.int g)) (e2 : LDw [.feed, .int 5] (some f1) = some (.int c, some f))
  (hg : g = 1 ∨ g = 1000000000000) (hc : c ≠ 0) (q : atI a4U (c - 1) = some (.tup [.int a, .int b, .int h])) (hh : h.natAbs ≤ 40) : WMn [.feed] (some f0) = some (.tup [.lst ((W4 a b h).map wyD), .lst ((a9J g h).map szD)], some f) := by
 refine m5 (s := mnS g c a b h (.val (.lst ((W4 a b h).map wyD))) (.val (.int b)) (.val (.int a)) f) ?_
 show a0A LDw ⟨[.val .feed, .no, .no, .no, .no, .no, .no, .no, .no, .no], some f0⟩ = _
 unfold a0A
 rw [i8 (s1 := ⟨[.val .feed, .val (.int g), .no, .no, .no, .no, .no, .no, .no, .no], some f1⟩) (l6 (c6 (s1 := ⟨[.val .feed, .no, .no, .no, .no, .no, .no, .no, .no, .no], some f0⟩) rfl (t9 rfl e1) (B4 q1)) rfl),
  i8 (s1 := ⟨[.val .feed, .val (.int g), .val (.int c), .no, .no, .no, .no, .no, .no, .no], some f⟩) (l6 (t9 rfl e2) rfl),
  i8 (s1 := ⟨[.val .feed, .val (.int g), .val (.int c), .no, .no, .no, .no, .no, .no, .no], some f⟩) (by simp [n0, dB, dOp, dL, dC, L9, hc, o8]),
  i8 (s1 := mnS g c a b h .no .no .no f) (l6 (c6 (x := .lst a4U) (s1 := ⟨[.val .feed, .val (.int g), .val (.int c), .no, .no, .no, .no, .no, .no, .no], some f⟩) (A7 rfl) (c6 rfl rfl rfl) (B4 q)) rfl),
  i8 (s1 := mnS g c a b h (.own [wyD (h, 0, h), wyD (0, h, h), wyD (-h, 0, h), wyD (0, -h, h)]) .no .no f) (D4 (s1 := mnS g c a b h .no .no .no f) rfl (by decide : 7 < 10)),
  i8 (s1 := mnS g c a b h (.own ((W4 a b h).map wyD)) (.val (.int b)) (.val (.int a)) f) (by
   rw [a2E (ds := [.tup [.int a, .int b], .tup [.int b, .int a]]) (s1 := mnS g c a b h (.own [wyD (h, 0, h), wyD (0, h, h), wyD (-h, 0, h), wyD (0, -h, h)]) .no .no f) (A7 rfl)]
   rw [a73 g c a b h a b [wyD (h, 0, h), wyD (0, h, h), wyD (-h, 0, h), wyD (0, -h, h)] .no .no f (show 4 ≤ 50 by decide),
    a73 g c a b h b a ([wyD (h, 0, h), wyD (0, h, h), wyD (-h, 0, h), wyD (0, -h, h)] ++ [wyD (a, b, h), wyD (-b, a, h), wyD (-a, -b, h), wyD (b, -a, h)]) (.val (.int a)) (.val (.int b)) f (show 8 ≤ 50 by decide)]
   rfl)]
 refine o6 (u9 (s1 := mnS g c a b h (.val (.lst ((W4 a b h).map wyD))) (.val (.int b)) (.val (.int a)) f) rfl (A7 ?_))
 have c := a1Z hg (mnS g c a b h (.val (.lst ((W4 a b h).map wyD))) (.val (.int b)) (.val (.int a)) f).sl rfl (some f) [(h, 1), (1, 1), (h, 2), (2, 1)] (by
  intro z hz
  simp only [List.mem_cons, List.not_mem_nil, or_false] at hz
  rcases hz with rfl | rfl | rfl | rfl
  ·exact hh
  ·decide
  ·exact hh
  ·decide)
 exact Z6 (ds := [(h, 1), (1, 1), (h, 2), (2, 1)].map szD) (s1 := mnS g _ a b h (.val (.lst ((W4 a b h).map wyD))) (.val (.int b)) (.val (.int a)) f) rfl (J2 (show 4 ≤ 100 by decide)) c
theorem b2D {g r1 : Int} {f0 f1 f : FS} (e1 : LDw [.feed, .int 8] (some f0) = some (.int r1, some f1)) (q1 : atI [D.int 1, .int 1, .int 1, .int 1, .int 1, .int 1, .int 1, .int 1000000000000] r1 = some (.int g)) (e2 : LDw [.feed, .int 5] (some f1) = some (.int 0, some f))
  (hg : g = 1 ∨ g = 1000000000000) : WMn [.feed] (some f0) = some (.tup [.lst (ways0.map wyD), .lst ((b3x g).map szD)], some f) := by
 refine m5 (s := ⟨[.val .feed, .val (.int g), .val (.int 0), .val (.lst ([(1, 1), (2, 1), (1, 2), (40, 1), (7, 3)].map szD)), .no, .no, .no, .no, .no, .no], some f⟩) ?_
 show a0A LDw ⟨[.val .feed, .no, .no, .no, .no, .no, .no, .no, .no, .no], some f0⟩ = _
 unfold a0A
 rw [i8 (s1 := ⟨[.val .feed, .val (.int g), .no, .no, .no, .no, .no, .no, .no, .no], some f1⟩) (l6 (c6 (s1 := ⟨[.val .feed, .no, .no, .no, .no, .no, .no, .no, .no, .no], some f0⟩) rfl (t9 rfl e1) (B4 q1)) rfl),
  i8 (s1 := ⟨[.val .feed, .val (.int g), .val (.int 0), .no, .no, .no, .no, .no, .no, .no], some f⟩) (l6 (t9 rfl e2) rfl)]
 refine L4 ?_
 rw [K2 (s1 := ⟨[.val .feed, .val (.int g), .val (.int 0), .no, .no, .no, .no, .no, .no, .no], some f⟩) (by simp [dB, dOp, dL, dC, L9])]
 rw [i8 (s1 := ⟨[.val .feed, .val (.int g), .val (.int 0), .own ([(1, 1), (2, 1), (1, 2), (40, 1), (7, 3)].map szD), .no, .no, .no, .no, .no, .no], some f⟩) (D4 (s1 := ⟨[.val .feed, .val (.int g), .val (.int 0), .no, .no, .no, .no, .no, .no, .no], some f⟩) rfl (by decide : 3 < 10))]
 refine o6 (u9 (s1 := ⟨[.val .feed, .val (.int g), .val (.int 0), .own ([(1, 1), (2, 1), (1, 2), (40, 1), (7, 3)].map szD), .no, .no, .no, .no, .no, .no], some f⟩) (A7 rfl) (A7 ?_))
 have c := a1Z hg [.val .feed, .val (.int g), .val (.int 0), .val (.lst ([(1, 1), (2, 1), (1, 2), (40, 1), (7, 3)].map szD)), .no, .no, .no, .no, .no, .no] rfl (some f) [(1, 1), (2, 1), (1, 2), (40, 1), (7, 3)] (by decide)
 exact Z6 (ds := [(1, 1), (2, 1), (1, 2), (40, 1), (7, 3)].map szD) (s1 := ⟨[.val .feed, .val (.int g), .val (.int 0), .val (.lst ([(1, 1), (2, 1), (1, 2), (40, 1), (7, 3)].map szD)), .no, .no, .no, .no, .no, .no], some f⟩) rfl (J2 (show 5 ≤ 100 by decide)) c
theorem b05 {n : Nat} {f : FS} (h : Fd3 n f) (hn : n < 2 ^ 29) : ∃ W Z f', WMn [.feed] (some f) = some (.tup [.lst (W.map wyD), .lst (Z.map szD)], some f') ∧ okW W Z = true ∧ Fd3 (n + 2) f' := by
 obtain ⟨r1, f1, e1, a1, a2, h1⟩ := C4 8 h
 obtain ⟨r2, f2, e2, b1, b2, h2⟩ := C4 5 h1
 obtain ⟨g, hg, q1⟩ := b2v a1 a2
 have hr : r2 = 0 ∨ r2 = 1 ∨ r2 = 2 ∨ r2 = 3 ∨ r2 = 4 := by omega
 rcases hr with rfl | rfl | rfl | rfl | rfl
 ·exact ⟨_, _, f2, b2D e1 q1 e2 hg, by rcases hg with rfl | rfl <;> decide +kernel, h2⟩
 ·exact ⟨_, _, f2, a1v (a := 3) (b := 4) (h := 5) e1 q1 e2 hg (by decide) rfl (by decide), by rcases hg with rfl | rfl <;> decide +kernel, h2⟩
 ·exact ⟨_, _, f2, a1v (a := 3) (b := 4) (h := 5) e1 q1 e2 hg (by decide) rfl (by decide), by rcases hg with rfl | rfl <;> decide +kernel, h2⟩
 ·exact ⟨_, _, f2, a1v (a := 5) (b := 12) (h := 13) e1 q1 e2 hg (by decide) rfl (by decide), by rcases hg with rfl | rfl <;> decide +kernel, h2⟩
 ·exact ⟨_, _, f2, a1v (a := 8) (b := 15) (h := 17) e1 q1 e2 hg (by decide) rfl (by decide), by rcases hg with rfl | rfl <;> decide +kernel, h2⟩
end T
namespace DL
open PySem L2
theorem a5r {α : Type} {l : List α} {j : Nat} {p : α × α} (h : (nbs false l)[j]? = some p) : l[j]? = some p.1 ∧ l[j + 1]? = some p.2 := by
 obtain ⟨h1, h2⟩ := List.getElem?_zip_eq_some.mp (show (l.zip (l.drop 1))[j]? = some p from h)
 rw [List.getElem?_drop, Nat.add_comm] at h2
 exact ⟨h1, h2⟩
end DL
namespace T
open PySem L2 DL
theorem a6V (a b c : Int) : E5 (.tup [.int a, .int b, .int c]) = true := by simp [E5, D.plain, D.plains, D.py, D.pys, SeqAt.shaped, PyData.canLay0, PyData.canLayAll0, PyData.depth, PyData.depthAll]
theorem a0d (w u : Int × Int × Int) : pNe (wyD w) (wyD u) = some (.bl (!decide (w = u))) := by
 obtain ⟨a, b, c⟩ := w
 obtain ⟨d, e, f⟩ := u
 have : decide ((a, b, c) = (d, e, f)) = (decide (a = d) && (decide (b = e) && decide (c = f))) := by
  rw [Bool.eq_iff_iff]; simp
 rw [this]
 simp only [wyD, pNe, a6V, Bool.and_self, if_true, D.py, D.pys, PyData.eqv, PyData.eqvAll, Bool.beq_eq_decide_eq, Bool.and_true]
theorem a6M (w : Int × Int × Int) : pNe (wyD w) .non = some (.bl true) := by
 have h : E5 .non = true := rfl
 simp only [wyD, pNe, a6V, h, Bool.and_self, if_true, D.py, D.pys, PyData.eqv]
 rfl
theorem a7W {fc : DT} (g : D → Bool) (caps : List Sl) (fs : Option FS) : ∀ ds : List D, (∀ d ∈ ds, fc ⟨.val d :: caps, fs⟩ = some (g d, ⟨.val d :: caps, fs⟩)) → w9 (fun d => some (.val d :: caps)) fc (dV 0) ds fs = some (ds.filter g, fs)
 | [], _ => rfl
 | d :: r, h => by
  have ih := a7W g caps fs r fun x hx => h x (List.mem_cons_of_mem _ hx)
  rw [w9, Option.bind_some, h d (List.mem_cons_self ..), Option.bind_some]
  cases hg : g d with
  | true =>
   rw [if_pos rfl, List.filter_cons_of_pos hg]
   show (w9 _ fc (dV 0) r fs).map _ = _
   rw [ih]
   rfl
  | false =>
   rw [if_neg Bool.false_ne_true, List.filter_cons_of_neg (by rw [hg]; decide)]
   exact ih
theorem b0F {W : List (Int × Int × Int)} {fm : D} (hf : fm = .non ∨ ∃ u ∈ W, fm = wyD u) (hW : (W.any fun a => W.any fun b => !decide (a = b)) = true) : ∃ g : D → Bool, (∀ w, pNe (wyD w) fm = some (.bl (g (wyD w)))) ∧ 1 ≤ ((W.map wyD).filter g).length := by
 obtain ⟨a, ha, hb⟩ := List.any_eq_true.mp hW
 obtain ⟨b, hb, hab⟩ := List.any_eq_true.mp hb
 have hab : a ≠ b := by simpa using hab
 refine ⟨fun d => match pNe d fm with | some (.bl x) => x | _ => false, ?_, ?_⟩
 ·intro w
  rcases hf with rfl | ⟨u, _, rfl⟩
  ·simp only [a6M]
  ·simp only [a0d]
 ·apply List.length_pos_iff.mpr
  intro z
  have no : ∀ w ∈ W, ¬ (pNe (wyD w) fm = some (.bl true)) := fun w hw e => by
   have : wyD w ∈ (W.map wyD).filter (fun d => match pNe d fm with | some (.bl x) => x | _ => false) := List.mem_filter.mpr ⟨List.mem_map_of_mem hw, by simp only [e]⟩
   rw [z] at this
   cases this
  rcases hf with rfl | ⟨u, hu, rfl⟩
  ·exact no a ha (a6M a)
  ·by_cases e : a = u
   ·refine no b hb ?_
    rw [a0d, decide_eq_false (fun z => hab (e.trans z.symm))]
    rfl
   ·refine no a ha ?_
    rw [a0d, decide_eq_false e]
    rfl
noncomputable abbrev WOp : DFn := a1T WSp WPl WPr LDw WSt WMn
noncomputable abbrev lWO : DM := a1F WSp WPl WPr LDw WSt WMn
noncomputable def C6 : Nat := 4508400000000000000
noncomputable def E4 : Nat := C6 * 52962
noncomputable def K8 : Nat := 265200000000000000
noncomputable def exL (a b : Pt) : Prop := ∃ r : Rat, 0 ≤ r ∧ Sz 90 r ∧ dsq a b = r * r ∧ 0 < r ∧ Gf E4 r
noncomputable def exT (a b : Pt) : Prop := ∃ r : Rat, 0 < r ∧ dsq a b = r * r ∧ Gr K8 r
theorem exT.exL {a b : Pt} (h : exT a b) : exL a b := by
 obtain ⟨r, r0, e, g⟩ := h
 exact ⟨r, Rat.le_of_lt r0, (g.sz (by unfold K8; decide)).mono (by decide), e, r0, g.fine.mono (by unfold K8 E4 C6; decide)⟩
noncomputable def Tg (c : Bool) (ps : List Pt) : Prop := (∀ q ∈ nbs c ps, exT q.1 q.2) ∧ ∀ p ∈ ps, PtS 80 p
theorem a06 {t s : Int} (ht : 0 < t) (hs : 0 < s) : 0 < Rat.divInt t s := by
 rw [Rat.divInt_eq_div, Rat.div_def]
 exact Rat.mul_pos (Rat.intCast_pos.mpr ht) (Rat.inv_pos.mpr (Rat.intCast_pos.mpr hs))
theorem a1X {s h : Int} (hd : (6630 : Int) % (s * h) = 0) : (6630 : Int) % s = 0 := Int.emod_eq_zero_of_dvd (Int.dvd_trans (Int.dvd_mul_right s h) (Int.dvd_of_emod_eq_zero hd))
noncomputable def goP (a d : Pt) (r : Rat) : Pt := (a.1 + r * d.1, a.2 + r * d.2)
noncomputable def T1 (w : Int × Int × Int) : Pt := (Rat.divInt w.1 w.2.2, Rat.divInt w.2.1 w.2.2)
noncomputable def wyE (a b d : Pt) : Prop := (∃ r, 0 < r ∧ Gr C6 r ∧ b = goP a d r) ∧ d.1 * d.1 + d.2 * d.2 = 1 ∧ Sz 5 d.1 ∧ Sz 5 d.2
structure Wy (ps ds : List Pt) : Prop where
 len : ps.length = ds.length + 1
 go : ∀ j a b d, ps[j]? = some a → ps[j + 1]? = some b → ds[j]? = some d → wyE a b d
 tn : ∀ j d e, ds[j]? = some d → ds[j + 1]? = some e → d ≠ e
theorem a4f {α : Type} {l : List α} {x y : α} {j : Nat} (h : (l ++ [x])[j]? = some y) : l[j]? = some y ∨ (j = l.length ∧ y = x) := by
 by_cases hj : j < l.length
 ·rw [List.getElem?_append_left hj] at h
  exact .inl h
 ·have jl := (List.getElem?_eq_some_iff.mp h).1
  rw [List.length_append, List.length_singleton] at jl
  have ej : j = l.length := by omega
  subst ej
  rw [List.getElem?_append_right (Nat.le_refl _), Nat.sub_self] at h
  exact .inr ⟨rfl, (Option.some.inj h).symm⟩
theorem a2P {α : Type} {l : List α} {y : α} {j : Nat} (h : l[j]? = some y) : j < l.length := (List.getElem?_eq_some_iff.mp h).1
theorem Wy.snoc {ps ds : List Pt} (h : Wy ps ds) {p q d : Pt} (hp : ps[ds.length]? = some p) (hw : wyE p q d) (hd : ∀ e, ds[ds.length - 1]? = some e → e ≠ d) : Wy (ps ++ [q]) (ds ++ [d]) := by
 have hl := h.len
 refine ⟨by rw [List.length_append, List.length_append, List.length_singleton, List.length_singleton]; omega, ?_, ?_⟩
 ·intro j a b c ha hb hc
  rcases a4f hc with hc | ⟨rfl, rfl⟩
  ·have jl := a2P hc
   rw [List.getElem?_append_left (by omega)] at ha hb
   exact h.go j a b c ha hb hc
  ·rw [List.getElem?_append_left (by omega), hp] at ha
   rcases a4f hb with hb | ⟨_, rfl⟩
   ·have := a2P hb
    omega
   ·cases ha
    exact hw
 ·intro j x y hx hy
  rcases a4f hy with hy | ⟨ej, rfl⟩
  ·have jl := a2P hy
   rw [List.getElem?_append_left (by omega)] at hx
   exact h.tn j x y hx hy
  ·rw [List.getElem?_append_left (by omega), show j = ds.length - 1 by omega] at hx
   exact hd x hx
theorem b3R {W : List (Int × Int × Int)} (h : okT W = true) {u w : Int × Int × Int} (hu : u ∈ W) (hw : w ∈ W) (ne : u ≠ w) (u0 : u.2.2 ≠ 0) (w0 : w.2.2 ≠ 0) : T1 u ≠ T1 w := fun e => by
 have := of_decide_eq_true (List.all_eq_true.mp (List.all_eq_true.mp h u hu) w hw)
 unfold T1 at e
 have e1 := (Rat.divInt_eq_divInt_iff u0 w0).mp (congrArg Prod.fst e)
 have e2 := (Rat.divInt_eq_divInt_iff u0 w0).mp (congrArg Prod.snd e)
 rcases this with z | z | z
 ·exact ne z
 ·exact z e1
 ·exact z e2
theorem a8l {w : Int × Int × Int} {z : Int × Int} (hw : w.1 * w.1 + w.2.1 * w.2.1 = w.2.2 * w.2.2) (h0 : 0 < w.2.2) (h1 : w.2.2 ≤ 17) (h2 : w.1.natAbs ≤ 17) (h3 : w.2.1.natAbs ≤ 17) (z1 : 0 < z.1) (z2 : 0 < z.2) (z3 : z.1 ≤ 40000000000000) (z5 : (6630 : Int) % (z.2 * w.2.2) = 0) (p : Pt) : wyE p (p.1 + Rat.divInt (z.1 * w.1) (z.2 * w.2.2), p.2 + Rat.divInt (z.1 * w.2.1) (z.2 * w.2.2)) (T1 w) := by
 refine ⟨⟨Rat.divInt z.1 z.2, a06 z1 z2, Gr.div z2 (a1X z5) (by unfold C6; omega), ?_⟩, ?_, Sz.of_divInt (by omega) (show _ < _ by omega) (show _ < _ by omega), Sz.of_divInt (by omega) (show _ < _ by omega) (show _ < _ by omega)⟩
 ·unfold goP T1
  rw [Rat.divInt_mul_divInt, Rat.divInt_mul_divInt]
 ·have e1 : (w.2.2 : Rat) ≠ 0 := fun z => by have := Rat.intCast_eq_zero_iff.mp z; omega
  have e3 : (w.1 : Rat) * w.1 + (w.2.1 : Rat) * w.2.1 = (w.2.2 : Rat) * w.2.2 := by rw [← Rat.intCast_mul, ← Rat.intCast_mul, ← Rat.intCast_mul, ← Rat.intCast_add, hw]
  unfold T1
  rw [Rat.divInt_eq_div, Rat.divInt_eq_div]
  grind
structure OpJ (W : List (Int × Int × Int)) (n i : Nat) (p : Pt) (ps ds : List Pt) (fm : D) (f : FS) : Prop where
 len : ps.length = i + 1
 last : ps[i]? = some p
 gr : ∀ q ∈ ps, Gr (46410 + i * C6) q.1 ∧ Gr (46410 + i * C6) q.2
 ex : ∀ (j : Nat) a b, ps[j]? = some a → ps[j + 1]? = some b → exT a b
 fm : (fm = .non ∧ ds = []) ∨ ∃ w ∈ W, fm = wyD w ∧ ds[ds.length - 1]? = some (T1 w)
 wy : Wy ps ds
 fd : Fd3 (n + 2 * i) f
noncomputable def ojS (most : Int) (W : List (Int × Int × Int)) (Z : List (Int × Int)) (p : Pt) (ps : List Pt) (fm : D) (x8 x9 x10 : Sl) (f : FS) : DS :=
 ⟨[.val .feed, .val (.int most), .val (.lst (W.map wyD)), .val (.lst (Z.map szD)), .val (fr p.1), .val (fr p.2), .own (ps.map pt), .val fm, x8, x9, x10], some f⟩
theorem b1x {W : List (Int × Int × Int)} {Z : List (Int × Int)} (h : okW W Z = true) : (∀ w ∈ W, (w.1 * w.1 + w.2.1 * w.2.1 = w.2.2 * w.2.2 ∧ 0 < w.2.2 ∧ w.2.2 ≤ 17 ∧ w.1.natAbs ≤ 17 ∧ w.2.1.natAbs ≤ 17) ∧ ∀ z ∈ Z, 0 < z.1 ∧ 0 < z.2 ∧ z.1 ≤ 40000000000000 ∧ z.2 ≤ 3 ∧ 6630 % (z.2 * w.2.2) = 0) ∧
  (W.length ≤ 12 ∧ 1 ≤ Z.length ∧ Z.length ≤ 5) ∧ (W.any fun a => W.any fun b => !decide (a = b)) = true := by
 unfold okW at h
 have h := (Bool.and_eq_true_iff.mp h).1
 unfold a5S at h
 rw [Bool.and_eq_true, Bool.and_eq_true] at h
 refine ⟨fun w hw => ?_, of_decide_eq_true h.1.2, h.2⟩
 have := List.all_eq_true.mp h.1.1 w hw
 unfold okY at this
 rw [Bool.and_eq_true] at this
 exact ⟨of_decide_eq_true this.1, fun z hz => of_decide_eq_true (List.all_eq_true.mp this.2 z hz)⟩
theorem b0w {a b h t s : Int} (hw : a * a + b * b = h * h) (h0 : 0 < h) (hs : 0 < s) (p : Pt) : dsq p (p.1 + Rat.divInt (t * a) (s * h), p.2 + Rat.divInt (t * b) (s * h)) = Rat.divInt t s * Rat.divInt t s := by
 have e1 : (h : Rat) ≠ 0 := fun z => by have := Rat.intCast_eq_zero_iff.mp z; omega
 have e2 : (s : Rat) ≠ 0 := fun z => by have := Rat.intCast_eq_zero_iff.mp z; omega
 have e3 : (a : Rat) * a + (b : Rat) * b = (h : Rat) * h := by rw [← Rat.intCast_mul, ← Rat.intCast_mul, ← Rat.intCast_mul, ← Rat.intCast_add, hw]
 unfold dsq
 rw [Rat.divInt_eq_div, Rat.divInt_eq_div, Rat.divInt_eq_div, Rat.intCast_mul, Rat.intCast_mul, Rat.intCast_mul]
 grind
theorem b4i {w : Int × Int × Int} {z : Int × Int} (hw : w.1 * w.1 + w.2.1 * w.2.1 = w.2.2 * w.2.2) (h0 : 0 < w.2.2) (z1 : 0 < z.1) (z2 : 0 < z.2) (z3 : z.1 ≤ 40000000000000) (z4 : z.2 ≤ 3) (z5 : (6630 : Int) % (z.2 * w.2.2) = 0) (p : Pt) : exT p (p.1 + Rat.divInt (z.1 * w.1) (z.2 * w.2.2), p.2 + Rat.divInt (z.1 * w.2.1) (z.2 * w.2.2)) :=
 ⟨Rat.divInt z.1 z.2, a06 z1 z2, b0w hw h0 z2 p, Gr.div z2 (a1X z5) (by unfold K8; omega)⟩
theorem a7M {t s a h : Int} (ht : t ≤ 40000000000000) (t0 : 0 < t) (hs : 0 < s) (h0 : 0 < h) (ha : a.natAbs ≤ 17) (hd : (6630 : Int) % (s * h) = 0) : Gr C6 (Rat.divInt (t * a) (s * h)) := by
 refine Gr.div (Int.mul_pos hs h0) hd ?_
 rw [Int.natAbs_mul]
 have : t.natAbs * a.natAbs ≤ 40000000000000 * 17 := Nat.mul_le_mul (by omega) ha
 unfold C6
 omega
theorem a4v {i : Nat} (hi : i ≤ 9) : 46410 + i * C6 < 2 ^ 80 := by unfold C6; omega
theorem b2r (ps : List Pt) (q : Pt) : (ps ++ [q]).map pt = ps.map pt ++ [pt q] := by simp
theorem b2H {most : Int} {n i : Nat} {W : List (Int × Int × Int)} {Z : List (Int × Int)} {p : Pt} {ps ds : List Pt} {fm : D} {f : FS} (x8 x9 x10 : Sl) (ok : okW W Z = true) (I : OpJ W n i p ps ds fm f) (hi : i < 9) (hn : n < 2 ^ 27) :
  ∃ p' ps' ds' fm' x9' x10' f', lWO (ojS most W Z p ps fm x8 x9 x10 f) = some (.next, ojS most W Z p' ps' fm' x8 x9' x10' f') ∧ OpJ W n (i + 1) p' ps' ds' fm' f' := by
 obtain ⟨okw, ⟨wl, zl1, zl2⟩, wn⟩ := b1x ok
 have okt := (Bool.and_eq_true_iff.mp ok).2
 obtain ⟨g, hg, hF⟩ := b0F (I.fm.imp (·.1) fun ⟨w, a, b, _⟩ => ⟨w, a, b⟩) wn
 have hFl : ((W.map wyD).filter g).length ≤ 12 := Nat.le_trans (List.length_filter_le ..) (by rw [List.length_map]; exact wl)
 have c := a7W (fc := dB (dOp pNe (dL 0) (dL 1))) g [.val fm] (some f) (W.map wyD) (fun d hd => by
  obtain ⟨w, _, rfl⟩ := List.mem_map.mp hd
  exact y8 (c6 rfl rfl (hg w)))
 obtain ⟨r1, f1, e1, a1, a2, h1⟩ := C4 (((W.map wyD).filter g).length : Int) I.fd
 obtain ⟨d1, m1, q1⟩ := L0 a1 a2
 have gw := (List.mem_filter.mp m1).2
 obtain ⟨w, hw, rfl⟩ := List.mem_map.mp (List.mem_filter.mp m1).1
 have nw := hg w
 rw [gw] at nw
 obtain ⟨r2, f2, e2, b1, b2, h2⟩ := C4 ((Z.map szD).length : Int) h1 (by rw [List.length_map]; omega) (by omega) (by rw [List.length_map]; omega)
 obtain ⟨d2, m2, q2⟩ := L0 b1 b2
 obtain ⟨z, hz, rfl⟩ := List.mem_map.mp m2
 obtain ⟨⟨w1, w2, w3, w4, w5⟩, hzz⟩ := okw w hw
 obtain ⟨z1, z2, z3, z4, z5⟩ := hzz z hz
 have gl := I.gr p (List.mem_of_getElem? I.last)
 have gx := a7M z3 z1 z2 w2 w4 z5
 have gy := a7M z3 z1 z2 w2 w5 z5
 have bb := a4v (i := i) (by omega)
 have gb := a4v (i := i + 1) (by omega)
 have e46 : 46410 + i * C6 + C6 = 46410 + (i + 1) * C6 := by unfold C6; omega
 have nx := (gl.1.add gx)
 have ny := (gl.2.add gy)
 rw [e46] at nx ny
 have sgx := gx.sz (by unfold C6; decide)
 have sgy := gy.sz (by unfold C6; decide)
 have p1 := Y7 z.1 z.2 w.1 w.2.2 (some f2) (by omega) (by omega) (k := 50) (l := 10) (show _ < _ by omega) (show _ < _ by omega) (show _ < _ by omega) (show _ < _ by omega) (by decide)
 have p2 := Y7 z.1 z.2 w.2.1 w.2.2 (some f2) (by omega) (by omega) (k := 50) (l := 10) (show _ < _ by omega) (show _ < _ by omega) (show _ < _ by omega) (show _ < _ by omega) (by decide)
 have s1 := X9 p.1 _ (some f2) (gl.1.sz bb) sgx (by decide)
 have s2 := X9 p.2 _ (some f2) (gl.2.sz bb) sgy (by decide)
 have sp := a3Q _ _ (some f2) (nx.sz gb) (ny.sz gb) (by decide)
 have ex := b4i w1 w2 z1 z2 z3 z4 z5 p
 have wyl := I.wy.len
 have ws := I.wy.snoc (p := p) (by rw [show ds.length = i by have := I.len; omega]; exact I.last) (a8l w1 w2 w3 w4 w5 z1 z2 z3 z5 p) (fun e he => by
  rcases I.fm with ⟨_, hd⟩ | ⟨u, hu, hfm, hd⟩
  ·rw [hd] at he
   simp at he
  ·rw [hd] at he
   cases he
   rw [hfm, a0d] at nw
   exact b3R okt hu hw (fun z => by rw [z, decide_eq_true rfl] at nw; simp at nw) (by have := (okw u hu).1.2.1; omega) (by omega))
 have il := I.len
 have ll : (ps.map pt).length < sizeLine := Nat.lt_of_lt_of_le (by rw [List.length_map, il]; omega : (ps.map pt).length < 100) (by decide)
 generalize hF' : (W.map wyD).filter g = F at *
 refine ⟨(p.1 + Rat.divInt (z.1 * w.1) (z.2 * w.2.2), p.2 + Rat.divInt (z.1 * w.2.1) (z.2 * w.2.2)), ps ++ [(p.1 + Rat.divInt (z.1 * w.1) (z.2 * w.2.2), p.2 + Rat.divInt (z.1 * w.2.1) (z.2 * w.2.2))], ds ++ [T1 w], wyD w, .own F, .val (szD z), f2, ?_, ?_⟩
 ·unfold ojS
  rw [b2r]
  show a1F WSp WPl WPr LDw WSt WMn _ = _
  unfold a1F
  rw [i8 (s1 := ⟨[.val .feed, .val (.int most), .val (.lst (W.map wyD)), .val (.lst (Z.map szD)), .val (fr p.1), .val (fr p.2), .own (ps.map pt), .val fm, x8, .own F, x10], some f⟩) (D4 (s1 := ⟨[.val .feed, .val (.int most), .val (.lst (W.map wyD)), .val (.lst (Z.map szD)), .val (fr p.1), .val (fr p.2), .own (ps.map pt), .val fm, x8, x9, x10], some f⟩) (U2 (idx := [7]) (ds := W.map wyD) (R := F) (s1 := ⟨[.val .feed, .val (.int most), .val (.lst (W.map wyD)), .val (.lst (Z.map szD)), .val (fr p.1), .val (fr p.2), .own (ps.map pt), .val fm, x8, x9, x10], some f⟩) rfl (J2 (by rw [List.length_map]; omega)) c) (show 9 < 11 by decide)),
   i8 (s1 := ⟨[.val .feed, .val (.int most), .val (.lst (W.map wyD)), .val (.lst (Z.map szD)), .val (fr p.1), .val (fr p.2), .own (ps.map pt), .val (wyD w), x8, .own F, x10], some f1⟩) (l6 (c6 rfl (t9 rfl e1) (B4 q1)) rfl),
   i8 (s1 := ⟨[.val .feed, .val (.int most), .val (.lst (W.map wyD)), .val (.lst (Z.map szD)), .val (fr p.1), .val (fr p.2), .own (ps.map pt), .val (wyD w), x8, .own F, .val (szD z)], some f2⟩) (l6 (c6 rfl (t9 rfl e2) (B4 q2)) rfl),
   i8 (s1 := ⟨[.val .feed, .val (.int most), .val (.lst (W.map wyD)), .val (.lst (Z.map szD)), .val (fr (p.1 + (Rat.divInt (z.1 * w.1) (z.2 * w.2.2)))), .val (fr p.2), .own (ps.map pt), .val (wyD w), x8, .own F, .val (szD z)], some f2⟩) (l6 (t9 (j8 rfl (j8 (t9 (j8 rfl (j8 (u9 (c6 rfl rfl rfl) (c6 rfl rfl rfl)) rfl)) p1) rfl)) s1) rfl),
   i8 (s1 := ⟨[.val .feed, .val (.int most), .val (.lst (W.map wyD)), .val (.lst (Z.map szD)), .val (fr (p.1 + (Rat.divInt (z.1 * w.1) (z.2 * w.2.2)))), .val (fr (p.2 + (Rat.divInt (z.1 * w.2.1) (z.2 * w.2.2)))), .own (ps.map pt), .val (wyD w), x8, .own F, .val (szD z)], some f2⟩) (l6 (t9 (j8 rfl (j8 (t9 (j8 rfl (j8 (u9 (c6 rfl rfl rfl) (c6 rfl rfl rfl)) rfl)) p2) rfl)) s2) rfl)]
  exact T5 rfl (t9 (j8 rfl (j8 rfl rfl)) sp) rfl ll
 ·refine ⟨by simp [il], ?_, ?_, ?_, .inr ⟨w, hw, rfl, by rw [List.length_append, List.length_singleton, Nat.add_sub_cancel, List.getElem?_append_right (Nat.le_refl _), Nat.sub_self]; rfl⟩, ws, h2.mono (by omega)⟩
  ·rw [List.getElem?_append_right (by omega), il, Nat.sub_self]
   rfl
  ·intro q hq
   rcases List.mem_append.mp hq with hq | hq
   ·have := I.gr q hq
    exact ⟨this.1.mono (by omega), this.2.mono (by omega)⟩
   ·rw [List.mem_singleton.mp hq]
    exact ⟨nx, ny⟩
  ·intro j a b ha hb
   by_cases hj : j + 1 < ps.length
   ·rw [List.getElem?_append_left (by omega)] at ha hb
    exact I.ex j a b ha hb
   ·have hjl := (List.getElem?_eq_some_iff.mp hb).1
    simp only [List.length_append, List.length_singleton] at hjl
    have ej : j = i := by omega
    subst ej
    rw [List.getElem?_append_left (by omega), I.last] at ha
    rw [List.getElem?_append_right (by omega), il, Nat.sub_self] at hb
    cases ha
    rw [List.getElem?_singleton, if_pos rfl] at hb
    cases hb
    exact ex
structure ExS (c : Bool) (ps : List Pt) : Prop where
 lo : 1 ≤ ps.length
 hi : ps.length ≤ 9
 sz : ∀ p ∈ ps, PtS 200 p
 ex : ∀ q ∈ nbs c ps, exL q.1 q.2
 ne : 1 ≤ (nbs c ps).length
theorem b1O {n : Nat} {f : FS} (most : Int) (hm : 2 ≤ most ∧ most ≤ 9) (h : Fd3 n f) (hn : n < 2 ^ 26) : ∃ ps ds f', WOp [.feed, .int most] (some f) = some (.tup [.bl false, .tup (ps.map pt)], some f') ∧ ExS false ps ∧ Wy ps ds ∧ Tg false ps ∧ Fd3 (n + 30) f' := by
 obtain ⟨W, Z, f1, e1, ok, h1⟩ := b05 h (by omega)
 obtain ⟨p, q, f2, e2, g1, g2, h2⟩ := a7L h1 (by omega)
 have sp := a3Q p q (some f2) (g1.sz (by decide)) (g2.sz (by decide)) (by decide)
 obtain ⟨r, f3, e3, r1, r2, h3⟩ := C4 (most - 1) h2
 obtain ⟨m, hmm⟩ : ∃ m : Nat, (1 : Int) + r = (m : Int) := ⟨(1 + r).toNat, by omega⟩
 have rm : S3 [.int ((1 : Int) + r)] = some (ups 0 m) := by rw [hmm]; exact a1B (by omega)
 obtain ⟨s', lp, p', ps, ds, fm, x8, x9, x10, f', rfl, I⟩ := a0B (t := e7 8) (b := lWO) (fun i s => ∃ p ps ds fm x8 x9 x10 f', s = ojS most W Z p ps fm x8 x9 x10 f' ∧ OpJ W (n + 5) i p ps ds fm f') (ups 0 m) 0 (ojS most W Z (p, q) [(p, q)] .non .no .no .no f3)
  ⟨(p, q), [(p, q)], [], .non, .no, .no, .no, f3, rfl, rfl, rfl, (fun z hz => by rw [List.mem_singleton.mp hz]; exact ⟨g1.mono (by omega), g2.mono (by omega)⟩), (fun j a b _ hb => by simp at hb), .inl ⟨rfl, rfl⟩, ⟨rfl, (fun j a b d _ _ hd => by simp at hd), (fun j d e hd _ => by simp at hd)⟩, h3⟩ (by
   rintro i d s hd ⟨p, ps, ds, fm, x8, x9, x10, f', rfl, I⟩
   obtain ⟨rfl, hi⟩ := a2s hd
   rw [Nat.zero_add] at *
   obtain ⟨p', ps', ds', fm', x9', x10', f'', e, I'⟩ := b2H (.val (.int ((0 : Int) + i))) x9 x10 ok I (by omega) (by omega)
   exact ⟨ojS most W Z p ps fm (.val (.int ((0 : Int) + i))) x9 x10 f', _, rfl, .inl e, p', ps', ds', fm', _, x9', x10', f'', rfl, I'⟩)
 rw [Nat.zero_add, O5] at I
 have l1 := I.len
 have bb := a4v (i := m) (by omega)
 refine ⟨ps, ds, f', m5 (s := ojS most W Z p' ps fm x8 x9 x10 f') ?_, ⟨by omega, by omega, fun z hz => ?_, fun z hz => ?_, by have nf := a0o false ps; simp at nf; omega⟩, I.wy, ⟨fun z hz => ?_, fun z hz => by have := I.gr z hz; exact ⟨this.1.sz bb, this.2.sz bb⟩⟩, I.fd.mono (by omega)⟩
 rotate_left
 ·have := I.gr z hz
  exact ⟨(this.1.sz bb).mono (by decide), (this.2.sz bb).mono (by decide)⟩
 ·obtain ⟨j, hj⟩ := List.getElem?_of_mem hz
  obtain ⟨q1, q2⟩ := a5r hj
  exact (I.ex j _ _ q1 q2).exL
 ·obtain ⟨j, hj⟩ := List.getElem?_of_mem hz
  obtain ⟨q1, q2⟩ := a5r hj
  exact I.ex j _ _ q1 q2
 show a2H WSp WPl WPr LDw WSt WMn ⟨[.val .feed, .val (.int most), .no, .no, .no, .no, .no, .no, .no, .no, .no], some f⟩ = _
 unfold a2H
 have rg : (a7 (dOp n9 (dC (.int 1)) (c9 LDw (a7 (dV 0) (a7 (dOp v8 (dL 1) (dC (.int 1))) a8)))) a8) (ojS most W Z (p, q) [(p, q)] .non .no .no .no f2) = some ([.int ((1 : Int) + r)], ojS most W Z (p, q) [(p, q)] .non .no .no .no f3) :=
  j8 (c6 rfl (t9 (j8 rfl (j8 (c6 rfl rfl rfl) rfl)) e3) rfl) rfl
 rw [i8 (s1 := ⟨[.val .feed, .val (.int most), .val (.lst (W.map wyD)), .val (.lst (Z.map szD)), .no, .no, .no, .no, .no, .no, .no], some f1⟩) (l6 (t9 rfl e1) rfl),
  i8 (s1 := ⟨[.val .feed, .val (.int most), .val (.lst (W.map wyD)), .val (.lst (Z.map szD)), .val (fr p), .val (fr q), .no, .no, .no, .no, .no], some f2⟩) (l6 (t9 rfl e2) rfl),
  i8 (s1 := ⟨[.val .feed, .val (.int most), .val (.lst (W.map wyD)), .val (.lst (Z.map szD)), .val (fr p), .val (fr q), .own [pt (p, q)], .no, .no, .no, .no], some f2⟩) (D4 (s1 := ⟨[.val .feed, .val (.int most), .val (.lst (W.map wyD)), .val (.lst (Z.map szD)), .val (fr p), .val (fr q), .no, .no, .no, .no, .no], some f2⟩) (a4C (t9 rfl sp)) (show 6 < 11 by decide)),
  i8 (s1 := ojS most W Z (p, q) [(p, q)] .non .no .no .no f2) (l6 rfl rfl),
  i8 ((a6j rg rm).trans lp)]
 exact o6 (u9 rfl (C5 rfl rfl))
theorem b0G {n : Nat} {f : FS} (most : Int) (hm : 2 ≤ most ∧ most ≤ 9) (h : Fd3 n f) (hn : n < 2 ^ 26) : ∃ ps f', WOp [.feed, .int most] (some f) = some (.tup [.bl false, .tup (ps.map pt)], some f') ∧ ExS false ps ∧ Tg false ps ∧ Fd3 (n + 30) f' := by
 obtain ⟨ps, _, f', e, hx, _, ht, hf⟩ := b1O most hm h hn
 exact ⟨ps, f', e, hx, ht, hf⟩
noncomputable def prI (z : Int × Int) : D := .tup [.int z.1, .int z.2]
noncomputable abbrev v4 (l : List (Int × Int)) : D := .tup (l.map prI)
noncomputable def T7 : List (List (Int × Int)) := [[(0, 0), (4, 0), (0, 3)], [(0, 0), (14, 0), (5, 12)], [(0, 0), (2, 0), (2, 2), (0, 2)], [(0, 0), (3, 4), (3, 0), (0, 4)], [(0, 0), (5, 0), (0, 0), (3, 4)],
 [(0, 0), (3, 0), (3, 4), (6, 8), (0, 8), (3, 4)], [(0, 0), (6, 0), (6, 2), (2, 2), (2, 4), (6, 4), (6, 6), (0, 6)]]
noncomputable def S5 (l : List (Int × Int)) : Bool := decide (1 ≤ l.length ∧ l.length ≤ 8) && (l.all fun z => decide (z.1.natAbs ≤ 14 ∧ z.2.natAbs ≤ 14)) && (nbs true l).all fun q => (List.range 16).any fun L => decide (1 ≤ L ∧ (q.1.1 - q.2.1) * (q.1.1 - q.2.1) + (q.1.2 - q.2.2) * (q.1.2 - q.2.2) = (L : Int) * L)
theorem a9m : (T7.all fun l => decide (l.length ≤ 8) && (List.range l.length).all fun k => S5 (l.drop k ++ l.take k) && S5 (l.drop k ++ l.take k).reverse) = true := by decide +kernel
theorem b0v {l : List (Int × Int)} (hl : l ∈ T7) {k : Nat} (hk : k < l.length) : l.length ≤ 8 ∧ S5 (l.drop k ++ l.take k) = true ∧ S5 (l.drop k ++ l.take k).reverse = true := by
 have h := List.all_eq_true.mp a9m l hl
 rw [Bool.and_eq_true] at h
 have h2 := List.all_eq_true.mp h.2 k (List.mem_range.mpr hk)
 rw [Bool.and_eq_true] at h2
 exact ⟨of_decide_eq_true h.1, h2.1, h2.2⟩
theorem a5F {l : List (Int × Int)} (h : S5 l = true) : (1 ≤ l.length ∧ l.length ≤ 8) ∧ (∀ z ∈ l, z.1.natAbs ≤ 14 ∧ z.2.natAbs ≤ 14) ∧ ∀ q ∈ nbs true l, ∃ L : Nat, L < 16 ∧ 1 ≤ L ∧ (q.1.1 - q.2.1) * (q.1.1 - q.2.1) + (q.1.2 - q.2.2) * (q.1.2 - q.2.2) = (L : Int) * L := by
 unfold S5 at h
 rw [Bool.and_eq_true, Bool.and_eq_true] at h
 refine ⟨of_decide_eq_true h.1.1, fun z hz => of_decide_eq_true (List.all_eq_true.mp h.1.2 z hz), fun q hq => ?_⟩
 obtain ⟨L, h1, h2⟩ := List.any_eq_true.mp (List.all_eq_true.mp h.2 q hq)
 exact ⟨L, List.mem_range.mp h1, of_decide_eq_true h2⟩
theorem b4h {o1 e1 o2 e2 a b h L k : Rat} (hp : a * a + b * b = h * h) (hl : (o1 - o2) * (o1 - o2) + (e1 - e2) * (e1 - e2) = L * L) (x y : Rat) :
  dsq (x + k * (o1 * a - e1 * b), y + k * (o1 * b + e1 * a)) (x + k * (o2 * a - e2 * b), y + k * (o2 * b + e2 * a)) = k * h * L * (k * h * L) := by
 have e : dsq (x + k * (o1 * a - e1 * b), y + k * (o1 * b + e1 * a)) (x + k * (o2 * a - e2 * b), y + k * (o2 * b + e2 * a)) = k * k * (((o1 - o2) * (o1 - o2) + (e1 - e2) * (e1 - e2)) * (a * a + b * b)) := by
  unfold dsq; grind
 rw [e, hp, hl]
 grind
structure AbH (a b h t u : Int) : Prop where
 py : a * a + b * b = h * h
 h0 : 0 < h
 h1 : h ≤ 13
 a1 : a.natAbs ≤ 12
 b1 : b.natAbs ≤ 12
 t0 : 0 < t
 t1 : t ≤ 3
 u0 : 0 < u
 u1 : u ≤ 2
 dv : (6630 : Int) % (u * h) = 0
noncomputable def clF (a b h t u : Int) (x y : Rat) (z : Int × Int) : Pt := (x + Rat.divInt (t * (z.1 * a - z.2 * b)) (u * h), y + Rat.divInt (t * (z.1 * b + z.2 * a)) (u * h))
theorem a0p (t c d : Int) : Rat.divInt (t * c) d = Rat.divInt t d * (c : Rat) := by
 rw [Rat.divInt_eq_div, Rat.divInt_eq_div, Rat.intCast_mul, Rat.div_def, Rat.div_def]
 grind
theorem a9Y {a b h t u : Int} (A : AbH a b h t u) (x y : Rat) {z w : Int × Int} {L : Nat} (hL : L < 16) (hL1 : 1 ≤ L) (e : (z.1 - w.1) * (z.1 - w.1) + (z.2 - w.2) * (z.2 - w.2) = (L : Int) * L) : exT (clF a b h t u x y z) (clF a b h t u x y w) := by
 obtain ⟨py, h0, _, _, _, t0, t1, u0, u1, dv⟩ := A
 have bL : (t * L).natAbs ≤ 45 := by
  rw [Int.natAbs_mul]
  have : t.natAbs * (L : Int).natAbs ≤ 3 * 15 := Nat.mul_le_mul (by omega) (by omega)
  omega
 refine ⟨Rat.divInt (t * L) u, a06 (Int.mul_pos t0 (by omega)) u0, ?_, Gr.div u0 (a1X dv) (by unfold K8; omega)⟩
 ·have e1 : (h : Rat) ≠ 0 := fun z => by have := Rat.intCast_eq_zero_iff.mp z; omega
  have e2 : (u : Rat) ≠ 0 := fun z => by have := Rat.intCast_eq_zero_iff.mp z; omega
  have hp : (a : Rat) * a + (b : Rat) * b = (h : Rat) * h := by rw [← Rat.intCast_mul, ← Rat.intCast_mul, ← Rat.intCast_mul, ← Rat.intCast_add, py]
  have hl : ((z.1 : Rat) - w.1) * ((z.1 : Rat) - w.1) + ((z.2 : Rat) - w.2) * ((z.2 : Rat) - w.2) = ((L : Int) : Rat) * ((L : Int) : Rat) := by
   rw [← Rat.intCast_sub, ← Rat.intCast_sub, ← Rat.intCast_mul, ← Rat.intCast_mul, ← Rat.intCast_mul, ← Rat.intCast_add, e]
  have k := b4h (k := Rat.divInt t (u * h)) hp hl x y
  unfold clF
  rw [a0p, a0p, a0p, a0p, Rat.intCast_sub, Rat.intCast_add, Rat.intCast_sub, Rat.intCast_add, Rat.intCast_mul, Rat.intCast_mul, Rat.intCast_mul, Rat.intCast_mul, Rat.intCast_mul, Rat.intCast_mul, Rat.intCast_mul, Rat.intCast_mul, k]
  have q : Rat.divInt t (u * h) * (h : Rat) * ((L : Int) : Rat) = Rat.divInt (t * L) u := by
   rw [a0p, Rat.divInt_eq_div, Rat.divInt_eq_div, Rat.intCast_mul]
   grind
  rw [q]
theorem a0L {a b h t u c : Int} (A : AbH a b h t u) (hc : c.natAbs ≤ 336) {x : Rat} (hx : Gr 46410 x) : Gr 10000000 (x + Rat.divInt (t * c) (u * h)) := by
 have : Gr 9000000 (Rat.divInt (t * c) (u * h)) := by
  refine Gr.div (Int.mul_pos A.u0 A.h0) A.dv ?_
  rw [Int.natAbs_mul]
  have := A.t0
  have := A.t1
  have : t.natAbs * c.natAbs ≤ 3 * 336 := Nat.mul_le_mul (by omega) hc
  omega
 exact (hx.add this).mono (by decide)
theorem a0X {a z : Int} (ha : a.natAbs ≤ 12) (hz : z.natAbs ≤ 14) : (z * a).natAbs ≤ 168 := by
 rw [Int.natAbs_mul]
 exact Nat.le_trans (Nat.mul_le_mul hz ha) (by decide)
theorem a5p {a b : Int} {z : Int × Int} (ha : a.natAbs ≤ 12) (hb : b.natAbs ≤ 12) (h1 : z.1.natAbs ≤ 14) (h2 : z.2.natAbs ≤ 14) : (z.1 * a - z.2 * b).natAbs ≤ 336 ∧ (z.1 * b + z.2 * a).natAbs ≤ 336 :=
 ⟨Nat.le_trans (Int.natAbs_sub_le ..) (Nat.add_le_add (a0X ha h1) (a0X hb h2)), Nat.le_trans (Int.natAbs_add_le ..) (Nat.add_le_add (a0X hb h1) (a0X ha h2))⟩
noncomputable abbrev WCl : DFn := a2l WSp WPl WPr WSt LDw
noncomputable abbrev lWC : DM := a0Y WSp WPl WPr WSt LDw
noncomputable abbrev clS (L : List D) (l : D) (k a b h t u : Int) (x y : Rat) (x10 x11 x12 x13 x14 : Sl) (f : FS) : DS :=
 ⟨[.val .feed, .own L, .val l, .val (.int k), .val (.int a), .val (.int b), .val (.int h), .val (.tup [.int t, .int u]), .val (fr x), .val (fr y), x10, x11, x12, x13, x14], some f⟩
theorem Q3 {i : Int} (h : i.natAbs ≤ 400) : u4 i = true := Bd.bits (k := 10) (show i.natAbs < 2 ^ 10 by omega) (by decide)
theorem b3V {a b h t u : Int} (A : AbH a b h t u) {x y : Rat} (hx : Gr 46410 x) (hy : Gr 46410 y) (L : List D) (l : D) (k : Int) {z : Int × Int} (h1 : z.1.natAbs ≤ 14) (h2 : z.2.natAbs ≤ 14) (acc : List D) (hl : acc.length ≤ 20) (x13 x14 : Sl) (f : FS) :
  ∃ y13 y14, lWC (clS L l k a b h t u x y (.own acc) (.val (.int z.1)) (.val (.int z.2)) x13 x14 f) = some (.next, clS L l k a b h t u x y (.own (acc ++ [pt (clF a b h t u x y z)])) (.val (.int z.1)) (.val (.int z.2)) y13 y14 f) := by
 obtain ⟨c1, c2⟩ := a5p (z := z) A.a1 A.b1 h1 h2
 have m1 := r8 (Q3 (Nat.le_trans h1 (by decide))) (Q3 (Nat.le_trans A.a1 (by decide)))
 have m2 := r8 (Q3 (Nat.le_trans h2 (by decide))) (Q3 (Nat.le_trans A.b1 (by decide)))
 have m3 := r8 (Q3 (Nat.le_trans h1 (by decide))) (Q3 (Nat.le_trans A.b1 (by decide)))
 have m4 := r8 (Q3 (Nat.le_trans h2 (by decide))) (Q3 (Nat.le_trans A.a1 (by decide)))
 have t0 := A.t0
 have t1 := A.t1
 have u0 := A.u0
 have u1 := A.u1
 have hh0 := A.h0
 have hh1 := A.h1
 have p1 := Y7 t u (z.1 * a - z.2 * b) h (some f) (by omega) (by omega) (k := 10) (l := 10) (show _ < _ by omega) (show _ < _ by omega) (show _ < _ by omega) (show _ < _ by omega) (by decide)
 have p2 := Y7 t u (z.1 * b + z.2 * a) h (some f) (by omega) (by omega) (k := 10) (l := 10) (show _ < _ by omega) (show _ < _ by omega) (show _ < _ by omega) (show _ < _ by omega) (by decide)
 have sd : ∀ c : Int, c.natAbs ≤ 336 → Sz 80 (Rat.divInt (t * c) (u * h)) := fun c hc => by
  have : (t * c).natAbs ≤ 3 * 336 := by rw [Int.natAbs_mul]; exact Nat.mul_le_mul (by omega) hc
  have : (u * h).natAbs ≤ 2 * 13 := by rw [Int.natAbs_mul]; exact Nat.mul_le_mul (by omega) (by omega)
  exact Sz.of_divInt (Int.mul_ne_zero (by omega) (by omega)) (by omega) (by omega)
 have s1 := X9 x _ (some f) (hx.sz (by decide)) (sd _ c1) (by decide)
 have s2 := X9 y _ (some f) (hy.sz (by decide)) (sd _ c2) (by decide)
 have sp := a3Q _ _ (some f) ((a0L A c1 hx).sz (by decide)) ((a0L A c2 hy).sz (by decide)) (by decide)
 refine ⟨.val (fr (Rat.divInt (t * (z.1 * a - z.2 * b)) (u * h))), .val (fr (Rat.divInt (t * (z.1 * b + z.2 * a)) (u * h))), ?_⟩
 unfold clF
 show a0Y WSp WPl WPr WSt LDw _ = _
 unfold a0Y
 rw [i8 (s1 := clS L l k a b h t u x y (.own acc) (.val (.int z.1)) (.val (.int z.2)) (.val (fr (Rat.divInt (t * (z.1 * a - z.2 * b)) (u * h)))) x14 f) (l6 (t9 (j8 rfl (j8 (u9 (c6 (c6 rfl rfl m1) (c6 rfl rfl m2) rfl) rfl) rfl)) p1) rfl),
  i8 (s1 := clS L l k a b h t u x y (.own acc) (.val (.int z.1)) (.val (.int z.2)) (.val (fr (Rat.divInt (t * (z.1 * a - z.2 * b)) (u * h)))) (.val (fr (Rat.divInt (t * (z.1 * b + z.2 * a)) (u * h)))) f) (l6 (t9 (j8 rfl (j8 (u9 (c6 (c6 rfl rfl m3) (c6 rfl rfl m4) rfl) rfl) rfl)) p2) rfl)]
 exact T5 rfl (t9 (j8 (t9 (j8 rfl (j8 rfl rfl)) s1) (j8 (t9 (j8 rfl (j8 rfl rfl)) s2) rfl)) sp) rfl (Nat.lt_of_le_of_lt hl (by decide))
theorem a6D {a b h t u : Int} (A : AbH a b h t u) {x y : Rat} (hx : Gr 46410 x) (hy : Gr 46410 y) (L : List D) (l : D) (k : Int) (f : FS) : ∀ (zs : List (Int × Int)) (acc : List D) (x11 x12 x13 x14 : Sl), (∀ z ∈ zs, z.1.natAbs ≤ 14 ∧ z.2.natAbs ≤ 14) → acc.length + zs.length ≤ 20 →
  ∃ y11 y12 y13 y14, A1 (u5 2 (m8 (e7 11) (m8 (e7 12) u6))) lWC (zs.map prI) (clS L l k a b h t u x y (.own acc) x11 x12 x13 x14 f) = some (.next, clS L l k a b h t u x y (.own (acc ++ zs.map fun z => pt (clF a b h t u x y z))) y11 y12 y13 y14 f)
 | [], acc, x11, x12, x13, x14, _, _ => ⟨x11, x12, x13, x14, by rw [List.map_nil, List.map_nil, List.append_nil]; rfl⟩
 | z :: r, acc, x11, x12, x13, x14, hz, hl => by
  rw [List.length_cons] at hl
  obtain ⟨b1, b2⟩ := hz z (List.mem_cons_self ..)
  obtain ⟨y13, y14, e⟩ := b3V A hx hy L l k b1 b2 acc (by omega) x13 x14 f
  obtain ⟨z11, z12, z13, z14, e2⟩ := a6D A hx hy L l k f r (acc ++ [pt (clF a b h t u x y z)]) (.val (.int z.1)) (.val (.int z.2)) y13 y14 (fun w hw => hz w (List.mem_cons_of_mem _ hw)) (by rw [List.length_append, List.length_singleton]; omega)
  refine ⟨z11, z12, z13, z14, ?_⟩
  rw [List.map_cons, X3 (s1 := clS L l k a b h t u x y (.own acc) (.val (.int z.1)) (.val (.int z.2)) x13 x14 f) rfl e, e2, List.append_assoc]
  rfl
noncomputable def a2g : List D := [.tup [.int 1, .int 0, .int 1], .tup [.int 0, .int 1, .int 1], .tup [.int 3, .int 4, .int 5], .tup [.int (-4), .int 3, .int 5], .tup [.int 5, .int 12, .int 13]]
noncomputable def a3V : List D := [.tup [.int 1, .int 1], .tup [.int 1, .int 2], .tup [.int 3, .int 1]]
noncomputable def okA (a b h t u : Int) : Bool := decide (a * a + b * b = h * h ∧ 0 < h ∧ h ≤ 13 ∧ a.natAbs ≤ 12 ∧ b.natAbs ≤ 12 ∧ 0 < t ∧ t ≤ 3 ∧ 0 < u ∧ u ≤ 2 ∧ (6630 : Int) % (u * h) = 0)
theorem b25 {a b h t u : Int} (e : okA a b h t u = true) : AbH a b h t u := by
 obtain ⟨h1, h2, h3, h4, h5, h6, h7, h8, h9, h10⟩ := of_decide_eq_true e
 exact ⟨h1, h2, h3, h4, h5, h6, h7, h8, h9, h10⟩
noncomputable def A5 : List (Int × Int × Int) := [(1, 0, 1), (0, 1, 1), (3, 4, 5), (-4, 3, 5), (5, 12, 13)]
noncomputable def B3 : List (Int × Int) := [(1, 1), (1, 2), (3, 1)]
theorem a8f : (A5.all fun x => B3.all fun y => okA x.1 x.2.1 x.2.2 y.1 y.2) = true := by decide
theorem b4c {r s : Int} (h0 : 0 ≤ r) (h1 : r < 5) (g0 : 0 ≤ s) (g1 : s < 3) : ∃ a b h t u, atI a2g r = some (.tup [.int a, .int b, .int h]) ∧ atI a3V s = some (.tup [.int t, .int u]) ∧ AbH a b h t u := by
 obtain ⟨x, hx, e⟩ := L0 (xs := a2g) h0 h1
 obtain ⟨y, hy, f⟩ := L0 (xs := a3V) g0 g1
 obtain ⟨z, hz, rfl⟩ := List.mem_map.mp (show x ∈ A5.map (fun z => D.tup [.int z.1, .int z.2.1, .int z.2.2]) from hx)
 obtain ⟨w, hw, rfl⟩ := List.mem_map.mp (show y ∈ B3.map (fun z => D.tup [.int z.1, .int z.2]) from hy)
 exact ⟨_, _, _, _, _, e, f, b25 (List.all_eq_true.mp (List.all_eq_true.mp a8f z hz) w hw)⟩
theorem a8j {as bs : List D} (h : as.length + bs.length ≤ 100) : n9 (.tup as) (.tup bs) = some (.tup (as ++ bs)) := if_pos (J2 h)
noncomputable abbrev a6b (m : DFn) : DE := a1h (dOp n9 (dSl (dL 2) (dAt (dL 3)) dNo) (dSl (dL 2) dNo (dAt (dL 3)))) (dOp v8 (dC (.int 1)) (dOp l4 (dC (.int 2)) (c9 m (a7 (dV 0) (a7 (dC (.int 2)) a8)))))
theorem b2q {k : Nat} {x1 : Sl} {ds : List D} {X : List Sl} {f f' : FS} {r : Int} (hk : k ≤ ds.length) (hl : ds.length ≤ 20) (e : LDw [.feed, .int 2] (some f) = some (.int r, some f')) (r0 : 0 ≤ r) (r1 : r < 2) :
  a6b LDw ⟨.val .feed :: x1 :: .val (.tup ds) :: .val (.int k) :: X, some f⟩ = some (.tup (if r = 1 then (ds.drop k ++ ds.take k).reverse else ds.drop k ++ ds.take k), ⟨.val .feed :: x1 :: .val (.tup ds) :: .val (.int k) :: X, some f'⟩) := by
 have c1 := a6Y ds k hk
 have c2 := a5D ds k hk
 have hz : (ds.drop k).length + (ds.take k).length ≤ 100 := by rw [List.length_drop, List.length_take]; omega
 have s1 : dSl (dL 2) (dAt (dL 3)) dNo ⟨.val .feed :: x1 :: .val (.tup ds) :: .val (.int k) :: X, some f⟩ = some (.tup (ds.drop k), ⟨.val .feed :: x1 :: .val (.tup ds) :: .val (.int k) :: X, some f⟩) := by rw [← c1]; rfl
 have s2 : dSl (dL 2) dNo (dAt (dL 3)) ⟨.val .feed :: x1 :: .val (.tup ds) :: .val (.int k) :: X, some f⟩ = some (.tup (ds.take k), ⟨.val .feed :: x1 :: .val (.tup ds) :: .val (.int k) :: X, some f⟩) := by rw [← c2]; rfl
 have a := c6 s1 s2 (a8j hz)
 have h : r = 0 ∨ r = 1 := by omega
 have m2 : l4 (.int 2) (.int r) = some (.int (2 * r)) := r8 (by decide) (Q3 (by omega))
 have st : dOp v8 (dC (.int 1)) (dOp l4 (dC (.int 2)) (c9 LDw (a7 (dV 0) (a7 (dC (.int 2)) a8)))) ⟨.val .feed :: x1 :: .val (.tup ds) :: .val (.int k) :: X, some f⟩ = some (.int (1 - 2 * r), ⟨.val .feed :: x1 :: .val (.tup ds) :: .val (.int k) :: X, some f'⟩) := c6 rfl (c6 rfl (t9 (j8 rfl (j8 rfl rfl)) e) m2) rfl
 unfold a6b a1h
 rw [a, Option.bind_some, st, Option.bind_some]
 rcases h with rfl | rfl
 ·rfl
 ·rfl
theorem b1f {a b h t u : Int} (x y : Rat) (zs : List (Int × Int)) : (zs.map fun z => pt (clF a b h t u x y z)) = (zs.map (clF a b h t u x y)).map pt := by rw [List.map_map]; rfl
theorem a9P (l : List (Int × Int)) (k : Nat) : (l.map prI).drop k ++ (l.map prI).take k = (l.drop k ++ l.take k).map prI := by rw [List.map_append, List.map_drop, List.map_take]
theorem a9p (l : List (Int × Int)) (k : Nat) (r : Int) : (if r = 1 then ((l.map prI).drop k ++ (l.map prI).take k).reverse else (l.map prI).drop k ++ (l.map prI).take k) = (if r = 1 then (l.drop k ++ l.take k).reverse else l.drop k ++ l.take k).map prI := by
 rw [a9P]
 split
 ·rw [List.map_reverse]
 ·rfl
theorem a72 {a b h t u : Int} (A : AbH a b h t u) {x y : Rat} (hx : Gr 46410 x) (hy : Gr 46410 y) {zs : List (Int × Int)} (hz : S5 zs = true) : ExS true (zs.map (clF a b h t u x y)) ∧ Tg true (zs.map (clF a b h t u x y)) := by
 obtain ⟨⟨l1, l2⟩, bd, ex⟩ := a5F hz
 have sz : ∀ p ∈ zs.map (clF a b h t u x y), PtS 80 p := fun p hp => by
  obtain ⟨z, hz, rfl⟩ := List.mem_map.mp hp
  obtain ⟨b1, b2⟩ := bd z hz
  obtain ⟨c1, c2⟩ := a5p (z := z) A.a1 A.b1 b1 b2
  exact ⟨(a0L A c1 hx).sz (by decide), (a0L A c2 hy).sz (by decide)⟩
 have xt : ∀ q ∈ nbs true (zs.map (clF a b h t u x y)), exT q.1 q.2 := fun q hq => by
  rw [Q1] at hq
  obtain ⟨z, hz, rfl⟩ := List.mem_map.mp hq
  obtain ⟨L, h1, h3, h2⟩ := ex z hz
  exact a9Y A x y h1 h3 h2
 exact ⟨⟨by rw [List.length_map]; exact l1, by rw [List.length_map]; omega, fun p hp => ⟨(sz p hp).1.mono (by decide), (sz p hp).2.mono (by decide)⟩, fun q hq => (xt q hq).exL, by have nf := a0o true (zs.map (clF a b h t u x y)); rw [List.length_map] at nf; simp at nf; omega⟩, xt, sz⟩
theorem a8c {n : Nat} {f : FS} (h : Fd3 n f) (hn : n < 2 ^ 26) : ∃ ps f', WCl [.feed] (some f) = some (.tup [.bl true, .tup (ps.map pt)], some f') ∧ ExS true ps ∧ Tg true ps ∧ Fd3 (n + 30) f' := by
 obtain ⟨r1, f1, e1, a1, a2, h1⟩ := C4 7 h
 obtain ⟨d1, m1, q1⟩ := L0 (xs := T7.map v4) a1 a2
 obtain ⟨l, hl, rfl⟩ := List.mem_map.mp m1
 have hl0 : 1 ≤ l.length ∧ l.length ≤ 8 := by
  have : (T7.all fun l => decide (1 ≤ l.length ∧ l.length ≤ 8)) = true := by decide
  exact of_decide_eq_true (List.all_eq_true.mp this l hl)
 obtain ⟨r2, f2, e2, b1, b2, h2⟩ := C4 ((l.map prI).length : Int) h1 (by rw [List.length_map]; omega) (by omega) (by rw [List.length_map]; omega)
 obtain ⟨k, rfl⟩ := Int.eq_ofNat_of_zero_le b1
 have hk : k < l.length := by rw [List.length_map] at b2; omega
 obtain ⟨r3, f3, e3, c1, c2, h3⟩ := C4 2 h2
 obtain ⟨r4, f4, e4, i1, i2, h4⟩ := C4 5 h3
 obtain ⟨r5, f5, e5, j1, j2, h5⟩ := C4 3 h4
 obtain ⟨a, b, hh, t, u, t1, t2, A⟩ := b4c i1 i2 j1 j2
 obtain ⟨x, y, f6, e6, gx, gy, h6⟩ := a7L h5 (by omega)
 obtain ⟨_, k1, k2⟩ := b0v hl hk
 have rt := b2q (x1 := .own (T7.map v4)) (X := [.no, .no, .no, .no, .no, .no, .no, .no, .no, .no, .no]) (ds := l.map prI) (k := k) (by rw [List.length_map]; omega) (by rw [List.length_map]; omega) e3 c1 c2
 rw [a9p] at rt
 have hz : S5 (if r3 = 1 then (l.drop k ++ l.take k).reverse else l.drop k ++ l.take k) = true := by
  split
  ·exact k2
  ·exact k1
 obtain ⟨⟨zl1, zl2⟩, bd, _⟩ := a5F hz
 obtain ⟨y11, y12, y13, y14, lp⟩ := a6D A gx gy (T7.map v4) (.tup (((if r3 = 1 then (l.drop k ++ l.take k).reverse else l.drop k ++ l.take k)).map prI)) k f6 ((if r3 = 1 then (l.drop k ++ l.take k).reverse else l.drop k ++ l.take k)) [] .no .no .no .no bd (by rw [List.length_nil]; omega)
 rw [List.nil_append, b1f] at lp
 refine ⟨((if r3 = 1 then (l.drop k ++ l.take k).reverse else l.drop k ++ l.take k)).map (clF a b hh t u x y), f6, m5 (s := clS (T7.map v4) (.tup (((if r3 = 1 then (l.drop k ++ l.take k).reverse else l.drop k ++ l.take k)).map prI)) k a b hh t u x y (.own ((((if r3 = 1 then (l.drop k ++ l.take k).reverse else l.drop k ++ l.take k)).map (clF a b hh t u x y)).map pt)) y11 y12 y13 y14 f6) ?_, (a72 A gx gy hz).1, (a72 A gx gy hz).2, h6.mono (by omega)⟩
 show a4j WSp WPl WPr WSt LDw ⟨[.val .feed, .no, .no, .no, .no, .no, .no, .no, .no, .no, .no, .no, .no, .no, .no], some f⟩ = _
 unfold a4j
 rw [i8 (s1 := ⟨[.val .feed, .own ((T7.take 3).map v4), .no, .no, .no, .no, .no, .no, .no, .no, .no, .no, .no, .no, .no], some f⟩) (D4 (s1 := ⟨[.val .feed, .no, .no, .no, .no, .no, .no, .no, .no, .no, .no, .no, .no, .no, .no], some f⟩) rfl (show 1 < 15 by decide)),
  i8 (s1 := ⟨[.val .feed, .own ((T7.take 5).map v4), .no, .no, .no, .no, .no, .no, .no, .no, .no, .no, .no, .no, .no], some f⟩) (D4 (s1 := ⟨[.val .feed, .own ((T7.take 3).map v4), .no, .no, .no, .no, .no, .no, .no, .no, .no, .no, .no, .no, .no], some f⟩) (W2 (x := .lst ((T7.take 3).map v4)) (y := .lst (((T7.drop 3).take 2).map v4)) (s1 := ⟨[.val .feed, .own ((T7.take 3).map v4), .no, .no, .no, .no, .no, .no, .no, .no, .no, .no, .no, .no, .no], some f⟩) rfl (A7 rfl) (a0c (by decide))) (show 1 < 15 by decide)),
  i8 (s1 := ⟨[.val .feed, .own ((T7.take 6).map v4), .no, .no, .no, .no, .no, .no, .no, .no, .no, .no, .no, .no, .no], some f⟩) (D4 (s1 := ⟨[.val .feed, .own ((T7.take 5).map v4), .no, .no, .no, .no, .no, .no, .no, .no, .no, .no, .no, .no, .no], some f⟩) (W2 (x := .lst ((T7.take 5).map v4)) (y := .lst (((T7.drop 5).take 1).map v4)) (s1 := ⟨[.val .feed, .own ((T7.take 5).map v4), .no, .no, .no, .no, .no, .no, .no, .no, .no, .no, .no, .no, .no], some f⟩) rfl (A7 rfl) (a0c (by decide))) (show 1 < 15 by decide)),
  i8 (s1 := ⟨[.val .feed, .own (T7.map v4), .no, .no, .no, .no, .no, .no, .no, .no, .no, .no, .no, .no, .no], some f⟩) (D4 (s1 := ⟨[.val .feed, .own ((T7.take 6).map v4), .no, .no, .no, .no, .no, .no, .no, .no, .no, .no, .no, .no, .no], some f⟩) (W2 (x := .lst ((T7.take 6).map v4)) (y := .lst ((T7.drop 6).map v4)) (s1 := ⟨[.val .feed, .own ((T7.take 6).map v4), .no, .no, .no, .no, .no, .no, .no, .no, .no, .no, .no, .no, .no], some f⟩) rfl (A7 rfl) (a0c (by decide))) (show 1 < 15 by decide))]
 rw [i8 (s1 := ⟨[.val .feed, .own (T7.map v4), .val (v4 l), .no, .no, .no, .no, .no, .no, .no, .no, .no, .no, .no, .no], some f1⟩) (l6 (c6 rfl (t9 rfl e1) (B4 q1)) rfl),
  i8 (s1 := ⟨[.val .feed, .own (T7.map v4), .val (v4 l), .val (.int k), .no, .no, .no, .no, .no, .no, .no, .no, .no, .no, .no], some f2⟩) (l6 (t9 (j8 rfl (j8 (C5 (p := u3) rfl rfl) rfl)) e2) rfl),
  i8 (s1 := ⟨[.val .feed, .own (T7.map v4), .val (.tup (((if r3 = 1 then (l.drop k ++ l.take k).reverse else l.drop k ++ l.take k)).map prI)), .val (.int k), .no, .no, .no, .no, .no, .no, .no, .no, .no, .no, .no], some f3⟩) (l6 rt rfl),
  i8 (s1 := ⟨[.val .feed, .own (T7.map v4), .val (.tup (((if r3 = 1 then (l.drop k ++ l.take k).reverse else l.drop k ++ l.take k)).map prI)), .val (.int k), .val (.int a), .val (.int b), .val (.int hh), .no, .no, .no, .no, .no, .no, .no, .no], some f4⟩) (l6 (c6 (x := .lst a2g) (s1 := ⟨[.val .feed, .own (T7.map v4), .val (.tup (((if r3 = 1 then (l.drop k ++ l.take k).reverse else l.drop k ++ l.take k)).map prI)), .val (.int k), .no, .no, .no, .no, .no, .no, .no, .no, .no, .no, .no], some f3⟩) (A7 rfl) (t9 rfl e4) (B4 t1)) rfl),
  i8 (s1 := ⟨[.val .feed, .own (T7.map v4), .val (.tup (((if r3 = 1 then (l.drop k ++ l.take k).reverse else l.drop k ++ l.take k)).map prI)), .val (.int k), .val (.int a), .val (.int b), .val (.int hh), .val (.tup [.int t, .int u]), .no, .no, .no, .no, .no, .no, .no], some f5⟩) (l6 (c6 (x := .lst a3V) (s1 := ⟨[.val .feed, .own (T7.map v4), .val (.tup (((if r3 = 1 then (l.drop k ++ l.take k).reverse else l.drop k ++ l.take k)).map prI)), .val (.int k), .val (.int a), .val (.int b), .val (.int hh), .no, .no, .no, .no, .no, .no, .no, .no], some f4⟩) (A7 rfl) (t9 rfl e5) (B4 t2)) rfl),
  i8 (s1 := ⟨[.val .feed, .own (T7.map v4), .val (.tup (((if r3 = 1 then (l.drop k ++ l.take k).reverse else l.drop k ++ l.take k)).map prI)), .val (.int k), .val (.int a), .val (.int b), .val (.int hh), .val (.tup [.int t, .int u]), .val (fr x), .val (fr y), .no, .no, .no, .no, .no], some f6⟩) (l6 (t9 rfl e6) rfl),
  i8 (s1 := clS (T7.map v4) (.tup (((if r3 = 1 then (l.drop k ++ l.take k).reverse else l.drop k ++ l.take k)).map prI)) k a b hh t u x y (.own []) .no .no .no .no f6) (D4 (s1 := ⟨[.val .feed, .own (T7.map v4), .val (.tup (((if r3 = 1 then (l.drop k ++ l.take k).reverse else l.drop k ++ l.take k)).map prI)), .val (.int k), .val (.int a), .val (.int b), .val (.int hh), .val (.tup [.int t, .int u]), .val (fr x), .val (fr y), .no, .no, .no, .no, .no], some f6⟩) rfl (show 10 < 15 by decide)),
  i8 ((a0z (ds := ((if r3 = 1 then (l.drop k ++ l.take k).reverse else l.drop k ++ l.take k)).map prI) (s1 := clS (T7.map v4) (.tup (((if r3 = 1 then (l.drop k ++ l.take k).reverse else l.drop k ++ l.take k)).map prI)) k a b hh t u x y (.own []) .no .no .no .no f6) rfl).trans lp)]
 exact o6 (u9 rfl (C5 rfl rfl))
noncomputable abbrev WEx : DFn := a2K LDw WCl WOp
theorem a89 {n : Nat} {f : FS} (most : Int) (hm : 2 ≤ most ∧ most ≤ 9) (h : Fd3 n f) (hn : n < 2 ^ 25) : ∃ c ps f', WEx [.feed, .int most] (some f) = some (.tup [.bl c, .tup (ps.map pt)], some f') ∧ ExS c ps ∧ Tg c ps ∧ Fd3 (n + 31) f' := by
 obtain ⟨r, f1, e1, a1, a2, h1⟩ := C4 3 h
 by_cases hr : r = 0
 ·subst hr
  obtain ⟨ps, f2, e2, x, tx, h2⟩ := a8c h1 (by omega)
  refine ⟨true, ps, f2, m5 (s := ⟨[.val .feed, .val (.int most)], some f2⟩) (o6 ?_), x, tx, h2.mono (by omega)⟩
  exact (a0W (y8 (c6 (t9 rfl e1) rfl (L9 0 0)))).trans (t9 rfl e2)
 ·obtain ⟨ps, f2, e2, x, tx, h2⟩ := b0G most hm h1 (by omega)
  refine ⟨false, ps, f2, m5 (s := ⟨[.val .feed, .val (.int most)], some f2⟩) (o6 ?_), x, tx, h2.mono (by omega)⟩
  exact (a07 (y8 (c6 (t9 rfl e1) rfl ((L9 r 0).trans (by rw [decide_eq_false hr]))))).trans (t9 rfl e2)
end T
namespace T
open PySem L2 DL
open Classical in
noncomputable def lnR (q : Pt × Pt) : Rat := if h : exL q.1 q.2 then h.choose else 0
theorem W3 {q : Pt × Pt} (h : exL q.1 q.2) : 0 ≤ lnR q ∧ Sz 90 (lnR q) ∧ dsq q.1 q.2 = lnR q * lnR q := by
 unfold lnR
 rw [dif_pos h]
 obtain ⟨h1, h2, h3, _⟩ := h.choose_spec
 exact ⟨h1, h2, h3⟩
theorem a5g {q : Pt × Pt} (h : exL q.1 q.2) : 0 < lnR q ∧ Gf E4 (lnR q) := by
 unfold lnR
 rw [dif_pos h]
 exact h.choose_spec.2.2.2
theorem b2R {c : Bool} {ps : List Pt} (h : ∀ q ∈ nbs c ps, exL q.1 q.2) : a0D c ps = ((nbs c ps).map lnR).map fr := by
 unfold a0D
 rw [List.map_map]
 refine List.map_congr_left fun q hq => ?_
 obtain ⟨h1, _, h3⟩ := W3 (h q hq)
 rw [h3, b1s h1]
 rfl
theorem a47 {T : List Rat} {S : Rat} (h : T[T.length - 1]? = some S) : atI (T.map fr) (-1) = some (fr S) := a0v (by rw [List.length_map, List.getElem?_map, h]; rfl)
theorem b2T (T : List Rat) (S : Rat) : (T ++ [S])[(T ++ [S]).length - 1]? = some S := by
 rw [List.length_append, List.length_singleton, Nat.add_sub_cancel, List.getElem?_append_right (Nat.le_refl _), Nat.sub_self]
 rfl
theorem a6f {T : List Rat} (h : T.length ≤ 50) : (T.map fr).length < sizeLine := Nat.lt_of_le_of_lt (by rw [List.length_map]; exact h) (show 50 < sizeLine by decide)
noncomputable abbrev FSt : DFn := S8 FP FLg
noncomputable abbrev FLl : DFn := a0l FSt
theorem a5e {α : Type} (l : List α) (a z : α) (h1 : l[0]? = some a) (h2 : l[l.length - 1]? = some z) : nbs true l = nbs false l ++ [(z, a)] := by
 unfold nbs
 have hz : l = l.dropLast ++ [z] := by
  have hn : l ≠ [] := fun e => by subst e; simp at h1
  have : l.getLast hn = z := by
   rw [List.getLast_eq_getElem]
   rw [List.getElem?_eq_getElem (by have := List.length_pos_iff.mpr hn; omega)] at h2
   exact Option.some.inj h2
  rw [← this]
  exact (List.dropLast_concat_getLast hn).symm
 have ha : l.take 1 = [a] := by
  cases l with
  | nil => simp at h1
  | cons x r => simp at h1; subst h1; rfl
 simp only [if_true, ha, if_neg Bool.false_ne_true]
 have hl : l.dropLast.length = (l.drop 1).length := by rw [List.length_dropLast, List.length_drop]
 have e1 : l.zip (l.drop 1 ++ [a]) = l.dropLast.zip (l.drop 1) ++ [(z, a)] := by
  conv => lhs; arg 1; rw [hz]
  rw [List.zip_append hl]
  rfl
 have e2 : l.zip (l.drop 1) = l.dropLast.zip (l.drop 1) := by
  conv => lhs; arg 1; rw [hz]
  conv => lhs; arg 2; rw [← List.append_nil (l.drop 1)]
  rw [List.zip_append hl]
  simp
 rw [e1, e2]
theorem b0Q (ds : List D) (c : Bool) (fs : Option FS) (h1 : 1 ≤ ds.length) (hl : ds.length ≤ 9) : X2 [.tup [.bl c, .tup ds]] fs = some (.lst ((nbs c ds).map pr2), fs) := by
 obtain ⟨m, hm⟩ : ∃ m : Nat, ds.length = m + 1 := ⟨ds.length - 1, by omega⟩
 obtain ⟨a, ha⟩ : ∃ a, ds[0]? = some a := ⟨_, List.getElem?_eq_getElem h1⟩
 obtain ⟨z, hz⟩ : ∃ z, ds[ds.length - 1]? = some z := ⟨_, List.getElem?_eq_getElem (by omega)⟩
 have nf := a0o false ds
 have nl : (nbs false ds).length = m := by simp at nf; omega
 have pl := a9H false ds h1 (pcG ds) (fun i => by simp only [pcG, Int.toNat_natCast, Bool.false_eq_true, if_false, List.take_zero, List.append_nil])
 rw [nl] at pl
 have cm := a7k (idx := [2]) (g := pcG ds) [.val (.tup ds)] fs (ups 0 m) (b0p ds fs m hm)
 rw [pl] at cm
 have la : atI ds (-1) = some z := a0v hz
 have l0 : atI ds 0 = some a := atN (i := 0) ha
 have last : e8 (a7 (dOp pIx (dL 2) (dUn t7 (dC (.int 1)))) (a7 (dOp pIx (dL 2) (dC (.int 0))) a8)) ⟨[.val (.tup [.bl c, .tup ds]), .val (.bl c), .val (.tup ds), .own ((nbs false ds).map pr2)], fs⟩ = some (.tup [z, a], ⟨[.val (.tup [.bl c, .tup ds]), .val (.bl c), .val (.tup ds), .own ((nbs false ds).map pr2)], fs⟩) :=
  u9 (c6 rfl rfl ((ixT ds (-1)).trans la)) (c6 rfl rfl ((ixT ds 0).trans l0))
 have rg : R7 (a7 (dOp v8 (dCB (one u3) (a7 (dL 2) a8)) (dC (.int 1))) a8) ⟨[.val (.tup [.bl c, .tup ds]), .val (.bl c), .val (.tup ds), .no], fs⟩ = some (ups 0 m, ⟨[.val (.tup [.bl c, .tup ds]), .val (.bl c), .val (.tup ds), .no], fs⟩) := by
  have ln : (ds.length : Int) - 1 = (m : Int) := by omega
  have e : a7 (dOp v8 (dCB (one u3) (a7 (dL 2) a8)) (dC (.int 1))) a8 ⟨[.val (.tup [.bl c, .tup ds]), .val (.bl c), .val (.tup ds), .no], fs⟩ = some ([.int (m : Int)], ⟨[.val (.tup [.bl c, .tup ds]), .val (.bl c), .val (.tup ds), .no], fs⟩) := by
   rw [← ln]
   exact j8 (c6 (C5 (p := u3) rfl rfl) rfl rfl) rfl
  unfold R7
  rw [e, Option.bind_some]
  show (S3 [.int (m : Int)]).map _ = _
  rw [a1B (by omega)]
  rfl
 have R : ∃ Q : List D, a0J (.lst [.tup [z, a]]) (.int (if c then 1 else 0)) = some Q ∧ (nbs false ds).map pr2 ++ Q = (nbs c ds).map pr2 ∧ Q.length ≤ 1 := by
  cases c with
  | true => exact ⟨[.tup [z, a]], rfl, by rw [a5e ds a z ha hz, List.map_append]; rfl, Nat.le_refl 1⟩
  | false => exact ⟨[], rfl, by rw [List.append_nil], by decide⟩
 obtain ⟨Q, q1, q2, q3⟩ := R
 have lh : ((nbs false ds).map pr2).length ≤ 9 := by rw [List.length_map]; omega
 refine m5 (s := ⟨[.val (.tup [.bl c, .tup ds]), .val (.bl c), .val (.tup ds), .own ((nbs false ds).map pr2)], fs⟩) ?_
 show a1R ⟨[.val (.tup [.bl c, .tup ds]), .no, .no, .no], fs⟩ = _
 unfold a1R
 rw [i8 (s1 := ⟨[.val (.tup [.bl c, .tup ds]), .val (.bl c), .val (.tup ds), .no], fs⟩) (l6 rfl rfl),
  i8 (s1 := ⟨[.val (.tup [.bl c, .tup ds]), .val (.bl c), .val (.tup ds), .own ((nbs false ds).map pr2)], fs⟩) (D4 (s1 := ⟨[.val (.tup [.bl c, .tup ds]), .val (.bl c), .val (.tup ds), .no], fs⟩) (U2 (idx := [2]) (ds := ups 0 m) (R := ((nbs false ds).map pr2)) (s1 := ⟨[.val (.tup [.bl c, .tup ds]), .val (.bl c), .val (.tup ds), .no], fs⟩) rg (J2 (by rw [O5]; omega)) cm) (show 3 < 4 by decide))]
 rw [← q2]
 exact o6 (A7 (W2 rfl (A7 (W2 (A7 (a4C last)) (C5 (p := a4u) rfl rfl) q1)) (a0c (by omega))))
noncomputable abbrev WSu : DFn := a3K WPl WSz X2
end T
namespace T
open PySem L2 DL
noncomputable def K5 (a b : Pt) (s : Rat) : Pt := (a.1 + s * (b.1 - a.1), a.2 + s * (b.2 - a.2))
theorem a4g {k l : Nat} {a b : Pt} {s : Rat} (ha : PtS k a) (hb : PtS k b) (hs : Sz l s) : PtS (k + (l + (k + k + 1)) + 1) (K5 a b s) :=
 ⟨ha.1.add (hs.mul (hb.1.sub ha.1)), ha.2.add (hs.mul (hb.2.sub ha.2))⟩
theorem a1d {x y z : Rat} (hy : y ≠ 0) (h : x = z * y) : x / y = z := by rw [h, Rat.mul_div_cancel hy]
theorem a3Z {p q : Rat} (hq : q ≠ 0) : (p.den : Int) * q.num ≠ 0 := Int.mul_ne_zero (D1 p) (fun z => hq (Rat.num_eq_zero.mp z))
theorem a44 {p q : Rat} (hq : q ≠ 0) : Rat.divInt (p.num * q.den) (p.den * q.num) = p / q := by
 have hz : (((p.den : Int) * q.num : Int) : Rat) ≠ 0 := fun z => a3Z hq (Rat.intCast_eq_zero_iff.mp z)
 rw [Rat.divInt_eq_div]
 refine a1d hz ?_
 rw [Rat.intCast_mul, Rat.intCast_mul, Q6 p, Q6 q]
 grind
theorem a88 {k l : Nat} {p q : Rat} (hq : q ≠ 0) (h1 : Sz k p) (h2 : Sz l q) : Sz (k + l) (p / q) := by
 rw [← a44 hq]
 exact Sz.of_divInt (a3Z hq) (Bd.mul h1.num h2.den) (Bd.mul h1.den h2.num)
noncomputable abbrev FBt : DFn := a1m FL
theorem a6X {a1 b1 s A B d : Rat} (hA : A ≠ 0) (hB : B ≠ 0) (hd : d ≠ 0) : (a1 * A * (B * (d - s * d)) + b1 * B * (A * (s * d))) / (A * B * d) = a1 + s * (b1 - a1) := by
 refine a1d ?_ ?_
 ·exact fun z => by
   rcases Rat.mul_eq_zero.mp z with z | z
   ·rcases Rat.mul_eq_zero.mp z with z | z
    ·exact hA z
    ·exact hB z
   ·exact hd z
 ·grind
theorem a1z (p : Rat) : ((p.den : Int) : Rat) ≠ 0 := fun h => D1 p (Rat.intCast_eq_zero_iff.mp h)
theorem b0q {l : Nat} (a b : Pt) (s : Rat) (fs : Option FS) (ha : PtS 200 a) (hb : PtS 200 b) (hs : Sz l s) (hl : l ≤ 500) : FBt [pt a, pt b, fr s] fs = some (pt (K5 a b s), fs) := by
 have pa := Ps.of ha.1 ha.2
 have pb := Ps.of hb.1 hb.2
 have b1 := pb.l.bits (by decide)
 have b2 := (hs.den.sub hs.num).bits (by omega)
 have b3 := pa.l.bits (by decide)
 have b4 := hs.num.bits (by omega)
 have ax := pa.x.bits (by decide)
 have ay := pa.y.bits (by decide)
 have bx := pb.x.bits (by decide)
 have by_ := pb.y.bits (by decide)
 have u := (pb.l.mul (hs.den.sub hs.num)).bits (by omega)
 have v := (pa.l.mul hs.num).bits (by omega)
 have w := (pa.l.mul pb.l).bits (by decide)
 have dn := hs.den.bits (by omega)
 have e := a4m (pX a * (pL b * (s.den - s.num)) + pX b * (pL a * s.num)) (pY a * (pL b * (s.den - s.num)) + pY b * (pL a * s.num)) (pL a * pL b * s.den) fs (Int.mul_ne_zero (Int.mul_ne_zero (K6 a) (K6 b)) (D1 s)) ((pa.l.mul pb.l).mul hs.den) (by omega)
 have q1 : Rat.divInt (pX a * (pL b * (s.den - s.num)) + pX b * (pL a * s.num)) (pL a * pL b * s.den) = a.1 + s * (b.1 - a.1) := by
  rw [Rat.divInt_eq_div]
  simp only [Rat.intCast_add, Rat.intCast_mul, Rat.intCast_sub]
  rw [X0, X0, Q6 s]
  exact a6X (M6 a) (M6 b) (a1z s)
 have q2 : Rat.divInt (pY a * (pL b * (s.den - s.num)) + pY b * (pL a * s.num)) (pL a * pL b * s.den) = a.2 + s * (b.2 - a.2) := by
  rw [Rat.divInt_eq_div]
  simp only [Rat.intCast_add, Rat.intCast_mul, Rat.intCast_sub]
  rw [V3, V3, Q6 s]
  exact a6X (M6 a) (M6 b) (a1z s)
 rw [q1, q2] at e
 unfold K5
 refine m5 (s := ⟨[.val (pt a), .val (pt b), .val (fr s), .val (.int (pL b * (s.den - s.num))), .val (.int (pL a * s.num))], fs⟩) ?_
 show a1L FL ⟨[.val (pt a), .val (pt b), .val (fr s), .no, .no], fs⟩ = _
 unfold a1L
 rw [i8 (s1 := ⟨[.val (pt a), .val (pt b), .val (fr s), .val (.int (pL b * (s.den - s.num))), .no], fs⟩) (l6 (c6 (c6 rfl rfl (J6 b)) (c6 (c6 rfl rfl (C2 s)) (c6 rfl rfl (E3 s)) rfl) (r8 b1 b2)) rfl),
  i8 (s1 := ⟨[.val (pt a), .val (pt b), .val (fr s), .val (.int (pL b * (s.den - s.num))), .val (.int (pL a * s.num))], fs⟩) (l6 (c6 (c6 rfl rfl (J6 a)) (c6 rfl rfl (E3 s)) (r8 b3 b4)) rfl)]
 exact o6 (k9 (j8 (V2 (c6 (c6 (c6 rfl rfl (P9 a)) rfl (r8 ax u)) (c6 (c6 rfl rfl (P9 b)) rfl (r8 bx v)) rfl) (c6 (c6 (c6 rfl rfl (N9 a)) rfl (r8 ay u)) (c6 (c6 rfl rfl (N9 b)) rfl (r8 by_ v)) rfl) (c6 (c6 (c6 rfl rfl (J6 a)) (c6 rfl rfl (J6 b)) (r8 b3 b1)) (c6 rfl rfl (C2 s)) (r8 w dn))) rfl) e)
noncomputable def scn : Rat → List Rat → List Rat
 | S, [] => [S]
 | S, r :: l => S :: scn (S + r) l
theorem a6y : ∀ (l : List Rat) (S : Rat), (scn S l).length = l.length + 1
 | [], _ => rfl
 | r :: l, S => by rw [scn, List.length_cons, a6y l, List.length_cons]
theorem a6O : ∀ (l : List Rat) (S : Rat) (i : Nat), i ≤ l.length → (scn S l)[i]? = some ((l.take i).foldl (· + ·) S)
 | [], S, i, h => by
  rw [List.length_nil] at h
  have : i = 0 := by omega
  subst this
  rfl
 | r :: l, S, 0, _ => rfl
 | r :: l, S, i + 1, h => by
  rw [List.length_cons] at h
  rw [scn, List.getElem?_cons_succ, a6O l (S + r) i (by omega)]
  rfl
theorem a4Z (T0 : List Rat) (S r : Rat) : (T0 ++ [S]).map fr ++ [fr (S + r)] = ((T0 ++ [S]) ++ [S + r]).map fr := by simp
theorem a6F (T0 : List Rat) (S : Rat) : atI ((T0 ++ [S]).map fr) (-1) = some (fr S) := a47 (b2T T0 S)
theorem a7C (l0 : Sl) (fs : Option FS) : ∀ (ls T0 : List Rat) (S : Rat) (k : Nat) (x2 : Sl), Sz k S → (∀ r ∈ ls, Sz 90 r) → k + 91 * ls.length ≤ 1000 → T0.length + 1 + ls.length ≤ 50 →
  ∃ y2 : Sl, A1 (e7 2) (a6t FP FLg) (ls.map fr) ⟨[l0, .own ((T0 ++ [S]).map fr), x2], fs⟩ = some (.next, ⟨[l0, .own ((T0 ++ scn S ls).map fr), y2], fs⟩)
 | [], T0, S, k, x2, _, _, _, _ => ⟨x2, rfl⟩
 | r :: l, T0, S, k, x2, hs, hl, hk, ht => by
  rw [List.length_cons] at hk ht
  have hr := hl r (List.mem_cons_self ..)
  obtain ⟨y2, e⟩ := a7C l0 fs l (T0 ++ [S]) (S + r) (k + 90 + 1) (.val (fr r)) (hs.add hr) (fun x hx => hl x (List.mem_cons_of_mem _ hx)) (by omega) (by rw [List.length_append, List.length_singleton]; omega)
  refine ⟨y2, ?_⟩
  have p := W8 S r fs hs hr (by omega)
  have la := a6F T0 S
  have ll : ((T0 ++ [S]).map fr).length < sizeLine := a6f (by rw [List.length_append, List.length_singleton]; omega)
  rw [← a4Z, List.append_assoc] at e
  rw [List.map_cons, X3 (s1 := ⟨[l0, .own ((T0 ++ [S]).map fr), .val (fr r)], fs⟩) rfl (T5 rfl (k9 (j8 (c6 rfl rfl (B4 la)) (j8 rfl rfl)) p) rfl ll)]
  exact e
theorem a6m {c : Bool} {ps : List Pt} (h : ExS c ps) (fs : Option FS) : FSt [.tup [.bl c, .tup (ps.map pt)]] fs = some (.lst ((scn 0 ((nbs c ps).map lnR)).map fr), fs) := by
 have e := b16 ps c fs h.sz h.hi
 rw [b2R h.ex] at e
 have nl := a0u c ps
 have hi := h.hi
 obtain ⟨y2, lp⟩ := a7C (.val (.tup [.bl c, .tup (ps.map pt)])) fs ((nbs c ps).map lnR) [] 0 1 .no (Sz.lit (by decide)) (fun r hr => by
  obtain ⟨z, hz, rfl⟩ := List.mem_map.mp hr
  exact (W3 (h.ex z hz)).2.1) (by rw [List.length_map]; omega) (by rw [List.length_map, List.length_nil]; omega)
 rw [List.nil_append, List.nil_append] at lp
 refine m5 (s := ⟨[.val (.tup [.bl c, .tup (ps.map pt)]), .val (.lst ((scn 0 ((nbs c ps).map lnR)).map fr)), y2], fs⟩) ?_
 show a2j FP FLg ⟨[.val (.tup [.bl c, .tup (ps.map pt)]), .no, .no], fs⟩ = _
 unfold a2j
 rw [i8 (s1 := ⟨[.val (.tup [.bl c, .tup (ps.map pt)]), .own ([(0 : Rat)].map fr), .no], fs⟩) (D4 (s1 := ⟨[.val (.tup [.bl c, .tup (ps.map pt)]), .no, .no], fs⟩) rfl (show 1 < 3 by decide)),
  i8 ((a0z (ds := (((nbs c ps).map lnR).map fr)) (s1 := ⟨[.val (.tup [.bl c, .tup (ps.map pt)]), .own ([(0 : Rat)].map fr), .no], fs⟩) (k9 rfl e)).trans lp)]
 exact o6 rfl
theorem a67 (l0 : Sl) (fs : Option FS) : ∀ (qs : List (Pt × Pt)) (T0 : List Rat) (S : Rat) (k : Nat) (x2 x3 : Sl), Sz k S → (∀ q ∈ qs, exL q.1 q.2 ∧ PtS 200 q.1 ∧ PtS 200 q.2) → k + 91 * qs.length ≤ 1000 → T0.length + 1 + qs.length ≤ 50 →
  ∃ (y2 y3 : Sl), A1 (u5 2 (m8 (e7 2) (m8 (e7 3) u6))) (a7g WPl WSz X2) (qs.map prP) ⟨[l0, .own ((T0 ++ [S]).map fr), x2, x3], fs⟩ = some (.next, ⟨[l0, .own ((T0 ++ scn S (qs.map lnR)).map fr), y2, y3], fs⟩)
 | [], T0, S, k, x2, x3, _, _, _, _ => ⟨x2, x3, rfl⟩
 | q :: l, T0, S, k, x2, x3, hs, hl, hk, ht => by
  rw [List.length_cons] at hk ht
  obtain ⟨hx, s1, s2⟩ := hl q (List.mem_cons_self ..)
  obtain ⟨r1, r2, r3⟩ := W3 hx
  obtain ⟨y2, y3, e⟩ := a67 l0 fs l (T0 ++ [S]) (S + lnR q) (k + 90 + 1) (.val (pt q.1)) (.val (pt q.2)) (hs.add r2) (fun x hx => hl x (List.mem_cons_of_mem _ hx)) (by omega) (by rw [List.length_append, List.length_singleton]; omega)
  refine ⟨y2, y3, ?_⟩
  have z := b3h q.1 q.2 (lnR q) fs s1 s2 r1 r3
  have p := X9 S (lnR q) fs hs r2 (by omega)
  have la := a6F T0 S
  have ll : ((T0 ++ [S]).map fr).length < sizeLine := a6f (by rw [List.length_append, List.length_singleton]; omega)
  rw [← a4Z, List.append_assoc] at e
  rw [List.map_cons, X3 (s1 := ⟨[l0, .own ((T0 ++ [S]).map fr), .val (pt q.1), .val (pt q.2)], fs⟩) rfl (T5 rfl (k9 (j8 (c6 rfl rfl (B4 la)) (j8 (k9 rfl z) rfl)) p) rfl ll)]
  exact e
theorem b14 {c : Bool} {ps : List Pt} (h : ExS c ps) (fs : Option FS) : WSu [.tup [.bl c, .tup (ps.map pt)]] fs = some (.lst ((scn 0 ((nbs c ps).map lnR)).map fr), fs) := by
 have hi := h.hi
 have lo := h.lo
 have e := b0Q (ps.map pt) c fs (by rw [List.length_map]; exact lo) (by rw [List.length_map]; exact hi)
 rw [a6K] at e
 have nl := a0u c ps
 obtain ⟨y2, y3, lp⟩ := a67 (.val (.tup [.bl c, .tup (ps.map pt)])) fs (nbs c ps) [] 0 1 .no .no (Sz.lit (by decide)) (fun r hr => by
  obtain ⟨m1, m2⟩ := a4l hr
  exact ⟨h.ex r hr, h.sz _ m1, h.sz _ m2⟩) (by omega) (by rw [List.length_nil]; omega)
 rw [List.nil_append, List.nil_append] at lp
 refine m5 (s := ⟨[.val (.tup [.bl c, .tup (ps.map pt)]), .val (.lst ((scn 0 ((nbs c ps).map lnR)).map fr)), y2, y3], fs⟩) ?_
 show a2A WPl WSz X2 ⟨[.val (.tup [.bl c, .tup (ps.map pt)]), .no, .no, .no], fs⟩ = _
 unfold a2A
 rw [i8 (s1 := ⟨[.val (.tup [.bl c, .tup (ps.map pt)]), .own ([(0 : Rat)].map fr), .no, .no], fs⟩) (D4 (s1 := ⟨[.val (.tup [.bl c, .tup (ps.map pt)]), .no, .no, .no], fs⟩) rfl (show 1 < 4 by decide)),
  i8 ((a2E (ds := ((nbs c ps).map prP)) (s1 := ⟨[.val (.tup [.bl c, .tup (ps.map pt)]), .own ([(0 : Rat)].map fr), .no, .no], fs⟩) (k9 rfl e)).trans lp)]
 exact o6 rfl
structure Lay (c : Bool) (ps : List Pt) (m : Nat) (S : Nat → Rat) (Q : Nat → Pt × Pt) (T : List Rat) : Prop where
 m1 : 1 ≤ m
 m9 : m ≤ 9
 nl : (nbs c ps).length = m
 len : T.length = m + 1
 at_ : ∀ i, i ≤ m → T[i]? = some (S i)
 q : ∀ i, i < m → (nbs c ps)[i]? = some (Q i)
 z : S 0 = 0
 up : ∀ i, i < m → S i < S (i + 1)
 sz : ∀ i, i ≤ m → Sz 81 (S i)
 df : ∀ i, i < m → Sz 90 (S (i + 1) - S i)
 pz : ∀ i, i < m → PtS 200 (Q i).1 ∧ PtS 200 (Q i).2
 fst : ps[0]? = some (Q 0).1
 lst : c = true → ps[0]? = some (Q (m - 1)).2
theorem b2x : ∀ (i : Nat) (ls : List Rat), (∀ r ∈ ls, Gf E4 r) → ls.length ≤ i → Gf (i * E4) (ls.foldl (· + ·) 0) := by
 have gen : ∀ (ls : List Rat) (S : Rat) (k : Nat), Gf k S → (∀ r ∈ ls, Gf E4 r) → Gf (k + ls.length * E4) (ls.foldl (· + ·) S) := by
  intro ls
  induction ls with
  | nil => intro S k h _; exact h.mono (by omega)
  | cons r l ih =>
   intro S k h hl
   have := ih (S + r) (k + E4) (h.add (hl r (List.mem_cons_self ..))) fun x hx => hl x (List.mem_cons_of_mem _ hx)
   rw [List.foldl_cons, List.length_cons]
   exact this.mono (by rw [Nat.add_mul]; omega)
 intro i ls h hi
 refine (gen ls 0 0 ⟨0, by decide, by decide +kernel⟩ h).mono ?_
 rw [Nat.zero_add]
 exact Nat.mul_le_mul_right _ hi
theorem b2L {α : Type} {c : Bool} {l : List α} {p : α × α} (h : (nbs c l)[0]? = some p) : l[0]? = some p.1 := by
 unfold nbs at h
 cases c
 ·exact (List.getElem?_zip_eq_some.mp h).1
 ·exact (List.getElem?_zip_eq_some.mp h).1
theorem a7b {c : Bool} {ps : List Pt} (h : ExS c ps) : ∃ m S Q, Lay c ps m S Q (scn 0 ((nbs c ps).map lnR)) := by
 have hi := h.hi
 have lo := h.lo
 have nl := a0u c ps
 have ne := h.ne
 have hq : ∀ i, i < (nbs c ps).length → (nbs c ps)[i]? = some ((nbs c ps).getD i ((0, 0), (0, 0))) := fun i hi => by
  rw [List.getD_eq_getElem?_getD, List.getElem?_eq_getElem hi]
  rfl
 have hl : ∀ i, i < (nbs c ps).length → exL ((nbs c ps).getD i ((0, 0), (0, 0))).1 ((nbs c ps).getD i ((0, 0), (0, 0))).2 := fun i hi => h.ex _ (List.mem_of_getElem? (hq i hi))
 have hs : ∀ i, i < (nbs c ps).length → ((((nbs c ps).map lnR).take (i + 1)).foldl (· + ·) 0 : Rat) = (((nbs c ps).map lnR).take i).foldl (· + ·) 0 + lnR ((nbs c ps).getD i ((0, 0), (0, 0))) := fun i hi => by
  rw [List.take_add_one, List.foldl_append, List.getElem?_map, hq i hi]
  rfl
 refine ⟨(nbs c ps).length, fun i => (((nbs c ps).map lnR).take i).foldl (· + ·) 0, fun i => (nbs c ps).getD i ((0, 0), (0, 0)), ne, by omega, rfl, ?_, ?_, hq, rfl, ?_, ?_, ?_, ?_, ?_, ?_⟩
 ·rw [a6y, List.length_map]
 ·intro i hi
  exact a6O _ 0 i (by rw [List.length_map]; exact hi)
 ·intro i hi
  rw [hs i hi]
  have := (a5g (hl i hi)).1
  grind
 ·intro i hi
  refine (b2x 9 (((nbs c ps).map lnR).take i) (fun r hr => ?_) (by rw [List.length_take]; omega)).sz (by unfold E4 C6; decide)
  obtain ⟨z, hz, rfl⟩ := List.mem_map.mp (List.mem_of_mem_take hr)
  exact (a5g (h.ex z hz)).2
 ·intro i hi
  have e := hs i hi
  have e2 : ((((nbs c ps).map lnR).take (i + 1)).foldl (· + ·) 0 : Rat) - (((nbs c ps).map lnR).take i).foldl (· + ·) 0 = lnR ((nbs c ps).getD i ((0, 0), (0, 0))) := by rw [e]; grind
  rw [e2]
  exact (W3 (hl i hi)).2.1
 ·intro i hi
  obtain ⟨a, b⟩ := a4l (List.mem_of_getElem? (hq i hi))
  exact ⟨h.sz _ a, h.sz _ b⟩
 ·exact b2L (hq 0 ne)
 ·intro hc
  subst hc
  obtain ⟨a, ha⟩ : ∃ a, ps[0]? = some a := ⟨_, List.getElem?_eq_getElem lo⟩
  obtain ⟨z, hz⟩ : ∃ z, ps[ps.length - 1]? = some z := ⟨_, List.getElem?_eq_getElem (by omega)⟩
  have e := a5e ps a z ha hz
  rw [ha, e, List.length_append, List.length_singleton, Nat.add_sub_cancel, List.getD_eq_getElem?_getD, List.getElem?_append_right (Nat.le_refl _), Nat.sub_self]
  rfl
variable {c : Bool} {ps : List Pt} {m : Nat} {S : Nat → Rat} {Q : Nat → Pt × Pt} {T : List Rat}
theorem Lay.mono (L : Lay c ps m S Q T) : ∀ (j i : Nat), i ≤ j → j ≤ m → S i ≤ S j
 | 0, i, h, _ => by
  have : i = 0 := by omega
  subst this
  exact Rat.le_refl
 | j + 1, i, h, hj => by
  by_cases e : i = j + 1
  ·subst e
   exact Rat.le_refl
  ·exact Rat.le_trans (L.mono j i (by omega) (by omega)) (Rat.le_of_lt (L.up j (by omega)))
noncomputable def onL (S : Nat → Rat) (Q : Nat → Pt × Pt) (len : Rat) (n : Nat) : Pt := K5 (Q n).1 (Q n).2 ((len - S n) / (S (n + 1) - S n))
noncomputable def G4 (S : Nat → Rat) (Q : Nat → Pt × Pt) (len : Rat) (p0 : Pt) : Nat → Pt
 | 0 => p0
 | i + 1 => if S i < len then onL S Q len i else G4 S Q len p0 i
theorem b0a (a b : Pt) : K5 a b 0 = a := by
 unfold K5
 rw [Rat.zero_mul, Rat.zero_mul, Rat.add_zero, Rat.add_zero]
theorem Lay.df_ne (L : Lay c ps m S Q T) {n : Nat} (hn : n < m) : S (n + 1) - S n ≠ 0 := fun z => by
 have := L.up n hn
 grind
theorem a1I (L : Lay c ps m S Q T) {len : Rat} {n : Nat} (hn : n < m) (h : n = 0 ∨ S n < len) (h0 : 0 ≤ len) (h2 : len ≤ S (n + 1)) : G4 S Q len (Q 0).1 m = onL S Q len n := by
 by_cases h3 : S n < len
 ·have g : ∀ i, n < i → i ≤ m → G4 S Q len (Q 0).1 i = onL S Q len n := by
   intro i
   induction i with
   | zero => intro z; omega
   | succ i ih =>
    intro h4 h5
    rw [G4]
    by_cases e : i = n
    ·subst e
     rw [if_pos h3]
    ·have := L.mono i (n + 1) (by omega) (by omega)
     rw [if_neg (fun z => by grind), ih (by omega) (by omega)]
  exact g m hn (Nat.le_refl _)
 ·have hz : n = 0 := by
   rcases h with h | h
   ·exact h
   ·exact absurd h h3
  subst hz
  have e0 : len = 0 := by have := L.z; grind
  have g : ∀ i, i ≤ m → G4 S Q len (Q 0).1 i = (Q 0).1 := by
   intro i
   induction i with
   | zero => intro _; rfl
   | succ i ih =>
    intro h5
    have := L.mono i 0 (by omega) (by omega)
    have := L.z
    rw [G4, if_neg (fun z => by grind), ih (by omega)]
  rw [g m (Nat.le_refl _)]
  unfold onL
  have e1 : len - S 0 = 0 := by have := L.z; grind
  have e2 : (0 : Rat) / (S (0 + 1) - S 0) = 0 := by rw [Rat.div_def, Rat.zero_mul]
  rw [e1, e2, b0a]
theorem Lay.sh_sz (L : Lay c ps m S Q T) {len : Rat} (hs : Sz 90 len) {n : Nat} (hn : n < m) : Sz 262 ((len - S n) / (S (n + 1) - S n)) := a88 (L.df_ne hn) (hs.sub (L.sz n (by omega))) (L.df n hn)
theorem Lay.on_ps (L : Lay c ps m S Q T) {len : Rat} (hs : Sz 90 len) {n : Nat} (hn : n < m) : Ok 1 3 (pt (onL S Q len n)) := by
 obtain ⟨a, b⟩ := L.pz n hn
 have h := a4g a b (L.sh_sz hs hn)
 exact Ok.pt (Ps.of h.1 h.2)
theorem Lay.fr_at (L : Lay c ps m S Q T) {i : Nat} (hi : i ≤ m) : atI (T.map fr) (i : Int) = some (fr (S i)) := atN (by rw [List.getElem?_map, L.at_ i hi]; rfl)
theorem Lay.fr_at1 (L : Lay c ps m S Q T) {i : Nat} (hi : i < m) : atI (T.map fr) ((i : Int) + 1) = some (fr (S (i + 1))) := by
 rw [← Int.natCast_succ]
 exact L.fr_at hi
theorem Lay.pc_at (L : Lay c ps m S Q T) {i : Nat} (hi : i < m) : ((nbs c ps).map prP)[i]? = some (prP (Q i)) := by rw [List.getElem?_map, L.q i hi]; rfl
noncomputable abbrev L7 : DFn := a0M FBt FF FX FPc w6 FSt
noncomputable abbrev plT : DT := dTr (c9 w6 (a7 (dOp pIx (dL 2) (dOp n9 (dL 3) (dC (.int 1)))) (a7 (dV 1) a8)))
noncomputable abbrev plS (Ln : D) (len : Rat) (TL : List D) (n : Nat) (fs : Option FS) : DS := ⟨[.val Ln, .val (fr len), .val (.lst TL), .val (.int (n : Int)), .no, .no, .no], fs⟩
theorem a7m (L : Lay c ps m S Q T) (Ln : D) {len : Rat} (hs : Sz 90 len) (h1 : len ≤ S m) (fs : Option FS) : ∀ (k n : Nat), m - n = k → n < m → (n = 0 ∨ S n < len) →
  ∃ n', n' < m ∧ (n' = 0 ∨ S n' < len) ∧ len ≤ S (n' + 1) ∧ A8 plT (a6a FBt FF FX FPc w6 FSt) (plS Ln len (T.map fr) n fs) = some (.next, plS Ln len (T.map fr) n' fs)
 | 0, n, hk, hn, _ => by omega
 | k + 1, n, hk, hn, h => by
  have b := U9 (S (n + 1)) len fs (L.sz (n + 1) hn) hs (by decide)
  have a := L.fr_at1 hn
  have t : plT (plS Ln len (T.map fr) n fs) = some (decide (S (n + 1) < len), plS Ln len (T.map fr) n fs) := M3 (k9 (j8 (c6 rfl (c6 rfl rfl rfl) (B4 a)) (j8 rfl rfl)) b)
  by_cases q : S (n + 1) < len
  ·rw [decide_eq_true q] at t
   have hm : n + 1 < m := by
    by_cases z : n + 1 = m
    ·rw [z] at q
     have : len < len := by grind
     exact absurd this Rat.lt_irrefl
    ·omega
   obtain ⟨n', e1, e2, e3, e⟩ := a7m L Ln hs h1 fs k (n + 1) (by omega) hm (.inr q)
   exact ⟨n', e1, e2, e3, P6 t (l6 (c6 rfl rfl rfl) rfl) e⟩
  ·rw [decide_eq_false q] at t
   exact ⟨n, hn, h, Rat.not_lt.mp q, O8 t⟩
theorem a1i (L : Lay c ps m S Q T) (hl : ps.length ≤ 9) (fs : Option FS) (e : FSt [.tup [.bl c, .tup (ps.map pt)]] fs = some (.lst (T.map fr), fs)) {len : Rat} (hs : Sz 90 len) (h1 : len ≤ S m) :
  ∃ n, n < m ∧ (n = 0 ∨ S n < len) ∧ len ≤ S (n + 1) ∧ L7 [.tup [.bl c, .tup (ps.map pt)], fr len] fs = some (pt (onL S Q len n), fs) := by
 obtain ⟨n, hn, g1, g2, w⟩ := a7m L (.tup [.bl c, .tup (ps.map pt)]) hs h1 fs m 0 rfl L.m1 (.inl rfl)
 refine ⟨n, hn, g1, g2, ?_⟩
 have e2 := a46 (ps.map pt) c fs (by rw [List.length_map]; exact Nat.le_trans (by omega : ps.length + 1 ≤ 100) (by decide))
 rw [a6K] at e2
 have i1 := L.fr_at (i := n) (by omega)
 have i2 := L.fr_at1 hn
 have i3 : atI ((nbs c ps).map prP) (n : Int) = some (prP (Q n)) := atN (L.pc_at hn)
 obtain ⟨z1, z2⟩ := L.pz n hn
 have s1 := hs.sub (L.sz n (by omega))
 have s2 := L.df n hn
 have m1 := a2D len (S n) fs hs (L.sz n (by omega)) (by decide)
 have m2 := a2D (S (n + 1)) (S n) fs (L.sz (n + 1) hn) (L.sz n (by omega)) (by decide)
 have q0 := L.df_ne hn
 have q1 := a44 (p := len - S n) q0
 have q2 := a3Z (p := len - S n) q0
 have sh := L.sh_sz hs hn
 have bt := b0q (Q n).1 (Q n).2 _ fs z1 z2 sh (by decide)
 unfold onL
 have f1 := Z9 ((len - S n).num * (S (n + 1) - S n).den) ((len - S n).den * (S (n + 1) - S n).num) fs q2 (Bd.mul s1.den s2.num) (by decide)
 rw [q1] at f1
 have b1 := s1.num.bits (by decide)
 have b2 := s1.den.bits (by decide)
 have b3 := s2.num.bits (by decide)
 have b4 := s2.den.bits (by decide)
 refine m5 (s := ⟨[.val (D.tup [.bl c, .tup (ps.map pt)]), .val (fr len), .val (.lst (T.map fr)), .val (.int (n : Int)), .val (prP (Q n)), .val (fr (len - S n)), .val (fr (S (n + 1) - S n))], fs⟩) ?_
 show a1S FBt FF FX FPc w6 FSt ⟨[.val (D.tup [.bl c, .tup (ps.map pt)]), .val (fr len), .no, .no, .no, .no, .no], fs⟩ = _
 unfold a1S
 rw [i8 (s1 := ⟨[.val (D.tup [.bl c, .tup (ps.map pt)]), .val (fr len), .val (.lst (T.map fr)), .no, .no, .no, .no], fs⟩) (l6 (k9 rfl e) rfl),
  i8 (s1 := plS (D.tup [.bl c, .tup (ps.map pt)]) len (T.map fr) 0 fs) (l6 rfl rfl),
  i8 w,
  i8 (s1 := ⟨[.val (D.tup [.bl c, .tup (ps.map pt)]), .val (fr len), .val (.lst (T.map fr)), .val (.int (n : Int)), .val (prP (Q n)), .no, .no], fs⟩) (l6 (c6 (k9 rfl e2) rfl ((ixT ((nbs c ps).map prP) n).trans i3)) rfl),
  i8 (s1 := ⟨[.val (D.tup [.bl c, .tup (ps.map pt)]), .val (fr len), .val (.lst (T.map fr)), .val (.int (n : Int)), .val (prP (Q n)), .val (fr (len - S n)), .no], fs⟩) (l6 (k9 (j8 rfl (j8 (c6 rfl rfl (B4 i1)) rfl)) m1) rfl),
  i8 (s1 := ⟨[.val (D.tup [.bl c, .tup (ps.map pt)]), .val (fr len), .val (.lst (T.map fr)), .val (.int (n : Int)), .val (prP (Q n)), .val (fr (len - S n)), .val (fr (S (n + 1) - S n))], fs⟩) (l6 (k9 (j8 (c6 rfl (c6 rfl rfl rfl) (B4 i2)) (j8 (c6 rfl rfl (B4 i1)) rfl)) m2) rfl)]
 exact o6 (k9 (j8 (c6 rfl rfl rfl) (j8 (c6 rfl rfl rfl) (j8 (k9 (j8 (c6 (c6 rfl rfl (E3 (len - S n))) (c6 rfl rfl (C2 (S (n + 1) - S n))) (r8 b1 b4)) (j8 (c6 (c6 rfl rfl (C2 (len - S n))) (c6 rfl rfl (E3 (S (n + 1) - S n))) (r8 b2 b3)) rfl)) f1) rfl))) bt)
end T
namespace T
open PySem L2 DL
structure In (M x : Rat) : Prop where
 lo : 0 ≤ x
 hi : x ≤ M
 sz : Sz 90 x
variable {c : Bool} {ps : List Pt} {m : Nat} {S : Nat → Rat} {Q : Nat → Pt × Pt} {T : List Rat}
theorem Lay.lst_at (L : Lay c ps m S Q T) : atI (T.map fr) (-1) = some (fr (S m)) := a47 (by rw [L.len, Nat.add_sub_cancel]; exact L.at_ m (Nat.le_refl _))
end T
namespace T
open PySem L2 DL
variable {c : Bool} {ps : List Pt} {m : Nat} {S : Nat → Rat} {Q : Nat → Pt × Pt} {T : List Rat}
noncomputable abbrev atL (S : Nat → Rat) (Q : Nat → Pt × Pt) (m : Nat) (len : Rat) : Pt := G4 S Q len (Q 0).1 m
theorem a0R (L : Lay c ps m S Q T) (hl : ps.length ≤ 9) (fs : Option FS) (e : FSt [.tup [.bl c, .tup (ps.map pt)]] fs = some (.lst (T.map fr), fs)) {len : Rat} (h : In (S m) len) : L7 [.tup [.bl c, .tup (ps.map pt)], fr len] fs = some (pt (atL S Q m len), fs) := by
 obtain ⟨n, hn, g1, g2, q⟩ := a1i L hl fs e h.sz h.hi
 rw [← a1I L hn g1 h.lo g2] at q
 exact q
theorem a5X (L : Lay c ps m S Q T) (hl : ps.length ≤ 9) (e : FSt [.tup [.bl c, .tup (ps.map pt)]] none = some (.lst (T.map fr), none)) {len : Rat} (h : In (S m) len) : Ok 1 3 (pt (atL S Q m len)) := by
 obtain ⟨n, hn, g1, g2, q⟩ := a1i L hl none e h.sz h.hi
 show Ok 1 3 (pt (G4 S Q len (Q 0).1 m))
 rw [a1I L hn g1 h.lo g2]
 exact L.on_ps h.sz hn
noncomputable def P2 (b e : Rat) (z : Pt × Rat) : Bool := decide (b < z.2) && decide (z.2 < e)
noncomputable def v0 (b e : Rat) (Z : List (Pt × Rat)) : List Pt := (Z.filter (P2 b e)).map (·.1)
theorem b2Z (b e : Rat) (Z : List (Pt × Rat)) (z : Pt × Rat) : v0 b e (Z ++ [z]) = v0 b e Z ++ (if P2 b e z then [z.1] else []) := by
 unfold v0
 rw [List.filter_append, List.map_append]
 cases h : P2 b e z
 ·rw [List.filter_cons_of_neg (by rw [h]; decide)]; simp
 ·rw [List.filter_cons_of_pos h]; simp
theorem b2W {b e : Rat} {Z : List (Pt × Rat)} {i : Nat} {z : Pt × Rat} (h : Z[i]? = some z) : v0 b e (Z.take (i + 1)) = v0 b e (Z.take i) ++ (if P2 b e z then [z.1] else []) := by
 rw [List.take_add_one, h]
 exact b2Z ..
theorem a1g (b e : Rat) (Z : List (Pt × Rat)) : (v0 b e Z).length ≤ Z.length := by
 unfold v0
 rw [List.length_map]
 exact List.length_filter_le ..
theorem a5q {b e : Rat} {Z : List (Pt × Rat)} {p : Pt} (h : p ∈ v0 b e Z) : ∃ z ∈ Z, z.1 = p := by
 unfold v0 at h
 obtain ⟨z, hz, rfl⟩ := List.mem_map.mp h
 exact ⟨z, (List.mem_filter.mp hz).1, rfl⟩
theorem b1A {A : List Pt} {b e : Rat} {Z : List (Pt × Rat)} {i : Nat} {z : Pt × Rat} (h : Z[i]? = some z) : (A ++ v0 b e (Z.take (i + 1))).map pt = (A ++ v0 b e (Z.take i)).map pt ++ (if P2 b e z then [pt z.1] else []) := by
 rw [b2W h]
 cases P2 b e z <;> simp
noncomputable abbrev FPo : DFn := a2w L7 w6 FSt
noncomputable abbrev poS (Ln : D) (b e : Rat) (A : List Pt) (x4 x5 : Sl) (fs : Option FS) : DS := ⟨[.val Ln, .val (fr b), .val (fr e), .own (A.map pt), x4, x5], fs⟩
theorem a8N (Ln : D) {b e : Rat} (hb : Sz 90 b) (he : Sz 90 e) (A : List Pt) {Z : List (Pt × Rat)} {i : Nat} {z : Pt × Rat} (h : Z[i]? = some z) (hz : Sz 81 z.2) (hl : (A ++ v0 b e (Z.take i)).length ≤ 50) (fs : Option FS) :
  a0P L7 w6 FSt (poS Ln b e (A ++ v0 b e (Z.take i)) (.val (pt z.1)) (.val (fr z.2)) fs) = some (.next, poS Ln b e (A ++ v0 b e (Z.take (i + 1))) (.val (pt z.1)) (.val (fr z.2)) fs) := by
 have b1 := U9 b z.2 fs hb hz (by decide)
 have b2 := U9 z.2 e fs hz he (by decide)
 have ap := b1A (A := A) (b := b) (e := e) h
 have ll : ((A ++ v0 b e (Z.take i)).map pt).length < sizeLine := Nat.lt_of_le_of_lt (by rw [List.length_map]; exact hl) (show 50 < sizeLine by decide)
 unfold poS
 rw [ap]
 unfold a0P
 have t1 : dTr (c9 w6 (a7 (dV 1) (a7 (dV 5) a8))) ⟨[.val Ln, .val (fr b), .val (fr e), .own ((A ++ v0 b e (Z.take i)).map pt), .val (pt z.1), .val (fr z.2)], fs⟩ = some (decide (b < z.2), ⟨[.val Ln, .val (fr b), .val (fr e), .own ((A ++ v0 b e (Z.take i)).map pt), .val (pt z.1), .val (fr z.2)], fs⟩) := M3 (k9 rfl b1)
 have t2 : dTr (c9 w6 (a7 (dV 5) (a7 (dV 2) a8))) ⟨[.val Ln, .val (fr b), .val (fr e), .own ((A ++ v0 b e (Z.take i)).map pt), .val (pt z.1), .val (fr z.2)], fs⟩ = some (decide (z.2 < e), ⟨[.val Ln, .val (fr b), .val (fr e), .own ((A ++ v0 b e (Z.take i)).map pt), .val (pt z.1), .val (fr z.2)], fs⟩) := M3 (k9 rfl b2)
 unfold P2
 cases q1 : decide (b < z.2) with
 | false =>
  rw [q1] at t1
  rw [D8 (a4i t1)]
  simp
 | true =>
  rw [q1] at t1
  cases q2 : decide (z.2 < e) with
  | false =>
   rw [q2] at t2
   rw [D8 (a0E t1 t2)]
   simp
  | true =>
   rw [q2] at t2
   rw [K2 (a0E t1 t2)]
   exact T5 (s1 := ⟨[.val Ln, .val (fr b), .val (fr e), .own ((A ++ v0 b e (Z.take i)).map pt), .val (pt z.1), .val (fr z.2)], fs⟩) (ds := ((A ++ v0 b e (Z.take i)).map pt)) (ds0 := ((A ++ v0 b e (Z.take i)).map pt)) (d := pt z.1) rfl rfl rfl ll
theorem b2e {f : DA} {t : D → DS → Option DS} {b : DM} {s s1 : DS} {xs ys : List D} (h : f s = some ([.tup xs, .lst ys], s1)) : a0x f t b s = A1 t b (List.zipWith F3 xs ys) s1 := by
 unfold a0x
 rw [h]
 rfl
theorem a1E : ∀ (ps : List Pt) (T : List Rat), List.zipWith F3 (ps.map pt) (T.map fr) = (ps.zip T).map fun z => .tup [pt z.1, fr z.2]
 | [], _ => rfl
 | _ :: _, [] => rfl
 | p :: r, s :: l => by
  rw [List.map_cons, List.map_cons, List.zipWith_cons_cons, a1E r l, List.zip_cons_cons, List.map_cons]
  rfl
noncomputable abbrev a0g (A : List Pt) : D := .tup [.bl false, .tup (A.map pt)]
noncomputable abbrev J5 (S : Nat → Rat) (Q : Nat → Pt × Pt) (m : Nat) (Z : List (Pt × Rat)) (b e : Rat) : List Pt := ([atL S Q m b] ++ v0 b e Z) ++ [atL S Q m e]
theorem a23 (L : Lay c ps m S Q T) {i : Nat} {z : Pt × Rat} (h : (ps.zip T)[i]? = some z) : ps[i]? = some z.1 ∧ i ≤ m ∧ z.2 = S i := by
 obtain ⟨h1, h2⟩ := List.getElem?_zip_eq_some.mp h
 have hi : i ≤ m := by
  have := (List.getElem?_eq_some_iff.mp h2).1
  rw [L.len] at this
  omega
 rw [L.at_ i hi] at h2
 exact ⟨h1, hi, (Option.some.inj h2).symm⟩
theorem a9o (A : List Pt) (p : Pt) : (A ++ [p]).map pt = A.map pt ++ [pt p] := by simp
theorem a8F (L : Lay c ps m S Q T) (hl : ps.length ≤ 9) (fs : Option FS) (e0 : FSt [.tup [.bl c, .tup (ps.map pt)]] fs = some (.lst (T.map fr), fs)) {b e : Rat} (hb : In (S m) b) (he : In (S m) e) :
  FPo [.tup [.bl c, .tup (ps.map pt)], fr b, fr e] fs = some (a0g (J5 S Q m (ps.zip T) b e), fs) := by
 have p1 := a0R L hl fs e0 hb
 have p2 := a0R L hl fs e0 he
 have zl : (ps.zip T).length ≤ 9 := by rw [List.length_zip]; omega
 obtain ⟨s', lp, x4, x5, rfl⟩ := a0B (t := u5 2 (m8 (e7 4) (m8 (e7 5) u6))) (b := a0P L7 w6 FSt) (fun i s => ∃ x4 x5, s = poS (.tup [.bl c, .tup (ps.map pt)]) b e ([atL S Q m b] ++ v0 b e ((ps.zip T).take i)) x4 x5 fs) (List.zipWith F3 (ps.map pt) (T.map fr)) 0 (poS (.tup [.bl c, .tup (ps.map pt)]) b e ([atL S Q m b] ++ v0 b e ((ps.zip T).take 0)) .no .no fs) ⟨.no, .no, rfl⟩ (by
  rintro i d s hd ⟨x4, x5, rfl⟩
  rw [Nat.zero_add] at *
  rw [a1E, List.getElem?_map] at hd
  obtain ⟨z, hz, rfl⟩ := Option.map_eq_some_iff.mp hd
  obtain ⟨_, hi, zz⟩ := a23 L hz
  have sl := a1g b e ((ps.zip T).take i)
  have e := a8N (.tup [.bl c, .tup (ps.map pt)]) hb.sz he.sz [atL S Q m b] hz (by rw [zz]; exact L.sz i hi) (by rw [List.length_append, List.length_singleton]; rw [List.length_take] at sl; omega) fs
  exact ⟨_, _, rfl, .inl e, _, _, rfl⟩)
 rw [Nat.zero_add, a1E, List.length_map, List.take_of_length_le (Nat.le_refl _), ← a1E] at lp
 have sl := a1g b e (ps.zip T)
 have ll : (([atL S Q m b] ++ v0 b e (ps.zip T)).map pt).length < sizeLine := Nat.lt_of_le_of_lt (by rw [List.length_map, List.length_append, List.length_singleton]; omega) (show 50 < sizeLine by decide)
 have i0 : B5 3 (p9 (a7 (c9 L7 (a7 (dV 0) (a7 (dV 1) a8))) a8)) ⟨[.val (.tup [.bl c, .tup (ps.map pt)]), .val (fr b), .val (fr e), .no, .no, .no], fs⟩ = some (.next, poS (.tup [.bl c, .tup (ps.map pt)]) b e ([atL S Q m b] ++ v0 b e ((ps.zip T).take 0)) .no .no fs) :=
  D4 (s1 := ⟨[.val (.tup [.bl c, .tup (ps.map pt)]), .val (fr b), .val (fr e), .no, .no, .no], fs⟩) (a4C (k9 rfl p1)) (show 3 < 6 by decide)
 unfold a0g J5
 rw [a9o]
 unfold poS at lp
 refine m5 (s := ⟨[.val (.tup [.bl c, .tup (ps.map pt)]), .val (fr b), .val (fr e), .own ((([atL S Q m b] ++ v0 b e (ps.zip T)).map pt) ++ [pt (atL S Q m e)]), x4, x5], fs⟩) ?_
 show a3g L7 w6 FSt ⟨[.val (.tup [.bl c, .tup (ps.map pt)]), .val (fr b), .val (fr e), .no, .no, .no], fs⟩ = _
 unfold a3g
 rw [i8 i0, i8 ((b2e (xs := ps.map pt) (ys := T.map fr) (s1 := poS (.tup [.bl c, .tup (ps.map pt)]) b e ([atL S Q m b] ++ v0 b e ((ps.zip T).take 0)) .no .no fs) (j8 (c6 rfl rfl rfl) (j8 (k9 rfl e0) rfl))).trans lp),
  i8 (s1 := ⟨[.val (.tup [.bl c, .tup (ps.map pt)]), .val (fr b), .val (fr e), .own ((([atL S Q m b] ++ v0 b e (ps.zip T)).map pt) ++ [pt (atL S Q m e)]), x4, x5], fs⟩) (T5 (s1 := ⟨[.val (.tup [.bl c, .tup (ps.map pt)]), .val (fr b), .val (fr e), .own (([atL S Q m b] ++ v0 b e (ps.zip T)).map pt), x4, x5], fs⟩) rfl (k9 rfl p2) rfl ll)]
 exact o6 (u9 rfl (C5 (p := D5) rfl rfl))
theorem b4l (L : Lay c ps m S Q T) (hx : ExS c ps) (e0 : FSt [.tup [.bl c, .tup (ps.map pt)]] none = some (.lst (T.map fr), none)) {b e : Rat} (hb : In (S m) b) (he : In (S m) e) : Ok 3 100 (a0g (J5 S Q m (ps.zip T) b e)) := by
 have o1 := a5X L hx.hi e0 hb
 have o2 := a5X L hx.hi e0 he
 have sl := a1g b e (ps.zip T)
 have hi := hx.hi
 have zl : (ps.zip T).length ≤ 9 := by rw [List.length_zip]; omega
 have h1 := Ok.tup (OkL.all (k := 1) (n := 3) (ds := (J5 S Q m (ps.zip T) b e).map pt) fun d hd => by
  obtain ⟨p, hp, rfl⟩ := List.mem_map.mp hd
  rcases List.mem_append.mp hp with hp | hp
  ·rcases List.mem_append.mp hp with hp | hp
   ·rw [List.mem_singleton.mp hp]
    exact o1
   ·obtain ⟨z, hz, rfl⟩ := a5q hp
    obtain ⟨i, hi⟩ := List.getElem?_of_mem hz
    have := hx.sz _ (List.mem_of_getElem? (a23 L hi).1)
    exact Ok.pt (Ps.of this.1 this.2) (by decide)
  ·rw [List.mem_singleton.mp hp]
   exact o2)
 have h2 : Ok 2 60 (.tup ((J5 S Q m (ps.zip T) b e).map pt)) := h1.mono (by decide) (by
  rw [List.length_map, List.length_append, List.length_append, List.length_singleton, List.length_singleton]
  omega)
 exact (Ok.tup (OkL.cons (Ok.bl false) (OkL.cons h2 OkL.nil))).mono (by decide) (by decide)
end T
namespace T
open PySem L2 DL
variable {c : Bool} {ps : List Pt} {m : Nat} {S : Nat → Rat} {Q : Nat → Pt × Pt} {T : List Rat}
theorem pll (L : Lay c ps m S Q T) (fs : Option FS) (e : FSt [.tup [.bl c, .tup (ps.map pt)]] fs = some (.lst (T.map fr), fs)) : FLl [.tup [.bl c, .tup (ps.map pt)]] fs = some (fr (S m), fs) :=
 m5 (s := ⟨[.val (.tup [.bl c, .tup (ps.map pt)])], fs⟩) (o6 (c6 (k9 rfl e) rfl (B4 L.lst_at)))
end T
namespace T
open PySem L2 DL
variable {m : Nat} {S : Nat → Rat} {p D : Nat → Pt} {X : List Rat}
theorem a56 {a b : Rat} (ha : 0 ≤ a) (hb : 0 ≤ b) (h : a * a = b * b) : a = b := by
 have e : (a - b) * (a + b) = 0 := by grind
 rcases Rat.mul_eq_zero.mp e with z | z <;> grind
end T
namespace T
open PySem L2 DL
noncomputable abbrev FCp : DFn := a1q FL (P0 FL) FP (P5 FF) (N8 FF)
structure Chg (cD : D) (φ : Pt → Pt) (q : Rat) : Prop where
 pl : ∀ (k : Nat) (a : Pt) (fs : Option FS), PtS k a → k ≤ 1500 → FCp [cD, pt a] fs = some (pt (φ a), fs)
 sz : ∀ (k : Nat) (a : Pt), PtS k a → PtS (k + 10) (φ a)
 bt : ∀ (a b : Pt) (s : Rat), φ (K5 a b s) = K5 (φ a) (φ b) s
 dq : ∀ (a b : Pt), dsq (φ a) (φ b) = (q * q) * dsq a b
 q0 : 0 < q
 qz : Sz 5 q
 qg : ∀ x : Rat, Gr K8 x → Gf E4 (q * x)
 qe : ∀ (s : DS), s.sl[2]? = some (.val cD) → dIf (dB (dOp pEq (dOp pIx (dL 2) (dC (.int 0))) (dC (.str "scale")))) (dOp pIx (dL 2) (dC (.int 1))) (e8 (a7 (dC (.int 1)) (a7 (dC (.int 1)) a8))) s = some (fr q, s)
theorem a65 (x y : Str) : pEq (.str x) (.str y) = some (.bl (decide (x = y))) := rfl
theorem a7Z {x y : Str} (h : x = y) : pEq (.str x) (.str y) = some (.bl true) := by rw [a65, decide_eq_true h]
theorem a5R {x y : Str} (h : x ≠ y) : pEq (.str x) (.str y) = some (.bl false) := by rw [a65, decide_eq_false h]
theorem a1H (d : D) (r : List D) : pIx (.tup (d :: r)) (.int 0) = some d := (ixT (d :: r) 0).trans (atN (i := 0) rfl)
theorem a3m {i : Nat} {s : DS} {d : D} (h : s.sl[i]? = some (.val d)) : dL i s = some (d, s) := by
 unfold dL
 rw [h]
theorem a7A {g : D → Option D} {f : DE} {s s1 : DS} {x y : D} (h : f s = some (x, s1)) (hg : g x = some y) : dUn g f s = some (y, s1) := by
 unfold dUn
 rw [h, Option.bind_some]
 show (g x).map _ = _
 rw [hg]
 rfl
theorem a4n {cD : D} {w : Str} {r : List D} (hc : cD = .tup (.str w :: r)) (hw : w ≠ "scale") (s : DS) (h : s.sl[2]? = some (.val cD)) : dIf (dB (dOp pEq (dOp pIx (dL 2) (dC (.int 0))) (dC (.str "scale")))) (dOp pIx (dL 2) (dC (.int 1))) (e8 (a7 (dC (.int 1)) (a7 (dC (.int 1)) a8))) s = some (fr 1, s) := by
 subst hc
 exact (a07 (y8 (c6 (c6 (a3m h) rfl (a1H _ _)) rfl (a5R hw)))).trans (u9 rfl rfl)
theorem a13 {x : Rat} (h : Gr K8 x) : Gf E4 (1 * x) := by
 rw [Rat.one_mul]
 exact h.fine.mono (by unfold K8 E4 C6; decide)
noncomputable abbrev cpS (cD : D) (a : Pt) (x2 : Sl) (fs : Option FS) : DS := ⟨[.val cD, .val (pt a), x2], fs⟩
theorem V6 {cD : D} {w u : Str} {r : List D} (hc : cD = .tup (.str w :: r)) (hw : w ≠ u) (a : Pt) (X : DM) (fs : Option FS) : n0 (dB (dOp pEq (dOp pIx (dL 0) (dC (.int 0))) (dC (.str u)))) X o8 (cpS cD a .no fs) = some (.next, cpS cD a .no fs) := by
 subst hc
 exact D8 (y8 (c6 (c6 rfl rfl (a1H _ _)) rfl (a5R hw)))
theorem a3x {cD : D} {w u : Str} {r : List D} (hc : cD = .tup (.str w :: r)) (hw : w = u) (a : Pt) (X : DM) (fs : Option FS) : n0 (dB (dOp pEq (dOp pIx (dL 0) (dC (.int 0))) (dC (.str u)))) X o8 (cpS cD a .no fs) = X (cpS cD a .no fs) := by
 subst hc
 exact K2 (y8 (c6 (c6 rfl rfl (a1H _ _)) rfl (a7Z hw)))
theorem b1r {x y : Rat} (hx : Sz 5 x) (hy : Sz 5 y) : Chg (.tup [.str "move", fr x, fr y]) (fun a => (a.1 + x, a.2 + y)) 1 := by
 refine ⟨?_, ?_, ?_, ?_, by decide, Sz.lit (by decide), fun _ => a13, a4n rfl (by decide)⟩
 ·intro k a fs ha hk
  have ps := Ps.of ha.1 ha.2
  have e1 := b3u a fs ps (by omega)
  have e2 := pup a fs ps (by omega)
  have p1 := W8 a.1 x fs ha.1 hx (by omega)
  have p2 := W8 a.2 y fs ha.2 hy (by omega)
  have e3 := a77 (a.1 + x) (a.2 + y) fs (ha.1.add hx) (ha.2.add hy) (by omega)
  refine m5 (s := cpS (.tup [.str "move", fr x, fr y]) a .no fs) ?_
  show O7 FL (P0 FL) FP (P5 FF) (N8 FF) (cpS (.tup [.str "move", fr x, fr y]) a .no fs) = _
  unfold O7
  refine L4 ?_
  rw [a3x rfl rfl]
  exact o6 (k9 (j8 (k9 (j8 (k9 rfl e1) (j8 (c6 rfl rfl ((ixT [.str "move", fr x, fr y] 1).trans (atN (i := 1) rfl))) rfl)) p1) (j8 (k9 (j8 (k9 rfl e2) (j8 (c6 rfl rfl ((ixT [.str "move", fr x, fr y] 2).trans (atN (i := 2) rfl))) rfl)) p2) rfl)) e3)
 ·intro k a ha
  exact ⟨(ha.1.add hx).mono (by omega), (ha.2.add hy).mono (by omega)⟩
 ·intro a b s
  unfold K5
  exact Prod.ext (by grind) (by grind)
 ·intro a b
  unfold dsq
  grind
theorem b21 : Chg (.tup [.str "quarter"]) (fun a => (-a.2, a.1)) 1 := by
 refine ⟨?_, ?_, ?_, ?_, by decide, Sz.lit (by decide), fun _ => a13, a4n rfl (by decide)⟩
 ·intro k a fs ha hk
  refine m5 (s := cpS (.tup [.str "quarter"]) a .no fs) ?_
  show O7 FL (P0 FL) FP (P5 FF) (N8 FF) (cpS (.tup [.str "quarter"]) a .no fs) = _
  unfold O7
  rw [i8 (V6 rfl (by decide) ..)]
  refine L4 ?_
  rw [a3x rfl rfl]
  have e : pt (-a.2, a.1) = .tup [.int (-(pY a)), .int (pX a), .int (pL a)] := by
   unfold pt pX pY pL
   simp only [Rat.neg_num, Rat.neg_den, Nat.lcm_comm a.2.den a.1.den, Int.neg_mul]
  rw [e]
  exact o6 (V2 (a7A (c6 rfl rfl (N9 a)) rfl) (c6 rfl rfl (P9 a)) (c6 rfl rfl (J6 a)))
 ·intro k a ha
  exact ⟨ha.2.neg.mono (by omega), ha.1.mono (by omega)⟩
 ·intro a b s
  unfold K5
  exact Prod.ext (by grind) (by grind)
 ·intro a b
  unfold dsq
  grind
theorem a9Q : Chg (.tup [.str "mirror"]) (fun a => (-a.1, a.2)) 1 := by
 refine ⟨?_, ?_, ?_, ?_, by decide, Sz.lit (by decide), fun _ => a13, a4n rfl (by decide)⟩
 ·intro k a fs ha hk
  refine m5 (s := cpS (.tup [.str "mirror"]) a .no fs) ?_
  show O7 FL (P0 FL) FP (P5 FF) (N8 FF) (cpS (.tup [.str "mirror"]) a .no fs) = _
  unfold O7
  rw [i8 (V6 rfl (by decide) ..), i8 (V6 rfl (by decide) ..)]
  refine L4 ?_
  rw [a3x rfl rfl]
  have e : pt (-a.1, a.2) = .tup [.int (-(pX a)), .int (pY a), .int (pL a)] := by
   unfold pt pX pY pL
   simp only [Rat.neg_num, Rat.neg_den, Int.neg_mul]
  rw [e]
  exact o6 (V2 (a7A (c6 rfl rfl (P9 a)) rfl) (c6 rfl rfl (N9 a)) (c6 rfl rfl (J6 a)))
 ·intro k a ha
  exact ⟨ha.1.neg.mono (by omega), ha.2.mono (by omega)⟩
 ·intro a b s
  unfold K5
  exact Prod.ext (by grind) (by grind)
 ·intro a b
  unfold dsq
  grind
theorem a6s {x d n l : Rat} (hl : l ≠ 0) (hd : d ≠ 0) : x * l * n / (l * d) = n / d * x := by
 refine a1d (fun z => ?_) ?_
 ·rcases Rat.mul_eq_zero.mp z with z | z
  ·exact hl z
  ·exact hd z
 ·rw [Rat.div_def]
  have := Rat.mul_inv_cancel d hd
  grind
theorem b1S {q : Rat} (h0 : 0 < q) (hq : Sz 5 q) (hg : ∀ x : Rat, Gr K8 x → Gf E4 (q * x)) : Chg (.tup [.str "scale", fr q]) (fun a => (q * a.1, q * a.2)) q := by
 refine ⟨?_, ?_, ?_, ?_, h0, hq, hg, ?_⟩
 ·intro k a fs ha hk
  have ps := Ps.of ha.1 ha.2
  have b1 := ps.x.bits (by omega)
  have b2 := ps.y.bits (by omega)
  have b3 := ps.l.bits (by omega)
  have n1 := hq.num.bits (by omega)
  have n2 := hq.den.bits (by omega)
  have e := a4m (pX a * q.num) (pY a * q.num) (pL a * q.den) fs (Int.mul_ne_zero (K6 a) (D1 q)) (ps.l.mul hq.den) (by omega)
  have q1 : Rat.divInt (pX a * q.num) (pL a * q.den) = q * a.1 := by
   rw [Rat.divInt_eq_div, Rat.intCast_mul, Rat.intCast_mul, X0, a6s (M6 a) (a1z q), ← Rat.divInt_eq_div, ← V0]
  have q2 : Rat.divInt (pY a * q.num) (pL a * q.den) = q * a.2 := by
   rw [Rat.divInt_eq_div, Rat.intCast_mul, Rat.intCast_mul, V3, a6s (M6 a) (a1z q), ← Rat.divInt_eq_div, ← V0]
  rw [q1, q2] at e
  refine m5 (s := cpS (.tup [.str "scale", fr q]) a (.val (fr q)) fs) ?_
  show O7 FL (P0 FL) FP (P5 FF) (N8 FF) (cpS (.tup [.str "scale", fr q]) a .no fs) = _
  unfold O7
  rw [i8 (V6 rfl (by decide) ..), i8 (V6 rfl (by decide) ..), i8 (V6 rfl (by decide) ..),
   i8 (s1 := cpS (.tup [.str "scale", fr q]) a (.val (fr q)) fs) (l6 (c6 rfl rfl ((ixT [.str "scale", fr q] 1).trans (atN (i := 1) rfl))) rfl)]
  exact o6 (k9 (j8 (V2 (c6 (c6 rfl rfl (P9 a)) (c6 rfl rfl (E3 q)) (r8 b1 n1)) (c6 (c6 rfl rfl (N9 a)) (c6 rfl rfl (E3 q)) (r8 b2 n1)) (c6 (c6 rfl rfl (J6 a)) (c6 rfl rfl (C2 q)) (r8 b3 n2))) rfl) e)
 ·intro k a ha
  exact ⟨(hq.mul ha.1).mono (by omega), (hq.mul ha.2).mono (by omega)⟩
 ·intro a b s
  unfold K5
  exact Prod.ext (by grind) (by grind)
 ·intro a b
  unfold dsq
  grind
 ·intro s h
  exact (a0W (y8 (c6 (c6 (a3m h) rfl (a1H _ _)) rfl (a7Z rfl)))).trans (c6 (a3m h) rfl ((ixT [.str "scale", fr q] 1).trans (atN (i := 1) rfl)))
theorem b1T {a b : Int} (hb : 0 < b) (h : (52962 : Int) % b = 0) (ha : a.natAbs ≤ 17) {x : Rat} (g : Gr K8 x) : Gf E4 (Rat.divInt a b * x) := by
 obtain ⟨n, hn, rfl⟩ := g
 obtain ⟨c, hc⟩ := Int.dvd_of_emod_eq_zero h
 have c0 : 0 < c := by
  rcases Int.lt_or_le 0 c with z | z
  ·exact z
  ·have : b * c ≤ b * 0 := Int.mul_le_mul_of_nonneg_left z (by omega)
   omega
 have c1 : c ≤ 52962 := by
  have : 1 * c ≤ b * c := Int.mul_le_mul_of_nonneg_right (by omega) (by omega)
  omega
 refine ⟨n * (a * c), ?_, ?_⟩
 ·rw [Int.natAbs_mul, Int.natAbs_mul]
  have h1 : a.natAbs * c.natAbs ≤ 17 * 52962 := Nat.mul_le_mul ha (by omega)
  exact Nat.le_trans (Nat.mul_le_mul hn h1) (by unfold K8 E4 C6; decide)
 ·rw [← Rat.divInt_mul_right (n := a) (d := b) (show c ≠ 0 by omega), ← hc, Rat.mul_comm, Rat.divInt_mul_divInt]
  rfl
noncomputable def mvT : List (Int × Int) := [(0, 1), (1, 1), (-3, 2), (7, 3), (-20, 1)]
noncomputable def scT : List (Int × Int) := [(1, 1), (2, 1), (1, 3), (3, 2), (12, 1)]
noncomputable def okF (z : Int × Int) : Bool := decide ((Rat.divInt z.1 z.2).num = z.1 ∧ ((Rat.divInt z.1 z.2).den : Int) = z.2 ∧ 0 < z.2 ∧ z.1.natAbs < 32 ∧ z.2.natAbs < 32)
theorem b1p : mvT.all okF = true := by decide +kernel
theorem b0U : (scT.all fun z => okF z && decide (0 < z.1 ∧ z.1 ≤ 17 ∧ (52962 : Int) % z.2 = 0)) = true := by decide +kernel
theorem a5j {z : Int × Int} (h : okF z = true) : D.tup [.int z.1, .int z.2] = fr (Rat.divInt z.1 z.2) ∧ 0 < z.2 ∧ Sz 5 (Rat.divInt z.1 z.2) := by
 obtain ⟨q1, q2, q3, q4, q5⟩ := of_decide_eq_true h
 refine ⟨?_, q3, Sz.of_divInt (by omega) q4 q5⟩
 unfold fr
 rw [q1, q2]
theorem a7N {r : Int} (h0 : 0 ≤ r) (h1 : r < 5) : ∃ p : Rat, atI (mvT.map fun z => D.tup [.int z.1, .int z.2]) r = some (fr p) ∧ Sz 5 p := by
 obtain ⟨x, hx, e⟩ := L0 (xs := mvT.map fun z => D.tup [.int z.1, .int z.2]) h0 h1
 obtain ⟨z, hz, rfl⟩ := List.mem_map.mp hx
 obtain ⟨a, _, b⟩ := a5j (List.all_eq_true.mp b1p z hz)
 rw [a] at e
 exact ⟨_, e, b⟩
theorem b15 {r : Int} (h0 : 0 ≤ r) (h1 : r < 5) : ∃ p : Rat, atI (scT.map fun z => D.tup [.int z.1, .int z.2]) r = some (fr p) ∧ Sz 5 p ∧ 0 < p ∧ ∀ x : Rat, Gr K8 x → Gf E4 (p * x) := by
 obtain ⟨x, hx, e⟩ := L0 (xs := scT.map fun z => D.tup [.int z.1, .int z.2]) h0 h1
 obtain ⟨z, hz, rfl⟩ := List.mem_map.mp hx
 obtain ⟨k1, k2⟩ := Bool.and_eq_true_iff.mp (List.all_eq_true.mp b0U z hz)
 obtain ⟨a, b0, b⟩ := a5j k1
 obtain ⟨c1, c2, c3⟩ := of_decide_eq_true k2
 rw [a] at e
 exact ⟨_, e, b, a06 c1 b0, fun x g => b1T b0 c3 (by omega) g⟩
noncomputable abbrev WCh : DFn := a38 LDw
theorem b3C {n : Nat} {f : FS} (h : Fd3 n f) (hn : n < 2 ^ 28) : ∃ cD φ q f', WCh [.feed] (some f) = some (cD, some f') ∧ Chg cD φ q ∧ Fd3 (n + 3) f' := by
 obtain ⟨r, f1, e1, a1, a2, h1⟩ := C4 4 h
 have s0 : j5 (c9 LDw (a7 (dV 0) (a7 (dC (.int 4)) a8))) (e7 1) ⟨[.val .feed, .no, .no, .no], some f⟩ = some (.next, ⟨[.val .feed, .val (.int r), .no, .no], some f1⟩) := l6 (t9 rfl e1) rfl
 by_cases c0 : r = 0
 ·obtain ⟨r2, f2, e2, b1, b2, h2⟩ := C4 5 h1
  obtain ⟨r3, f3, e3, d1, d2, h3⟩ := C4 5 h2
  obtain ⟨x, q1, g1⟩ := a7N b1 b2
  obtain ⟨y, q2, g2⟩ := a7N d1 d2
  refine ⟨_, _, _, f3, m5 (s := ⟨[.val .feed, .val (.int r), .own (mvT.map fun z => D.tup [.int z.1, .int z.2]), .val (fr x)], some f3⟩) ?_, b1r g1 g2, h3⟩
  show T8 LDw ⟨[.val .feed, .no, .no, .no], some f⟩ = _
  unfold T8
  rw [i8 s0]
  refine L4 ?_
  rw [K2 (s1 := ⟨[.val .feed, .val (.int r), .no, .no], some f1⟩) (y8 (c6 rfl rfl ((L9 r 0).trans (by rw [decide_eq_true c0])))),
   i8 (s1 := ⟨[.val .feed, .val (.int r), .own (mvT.map fun z => D.tup [.int z.1, .int z.2]), .no], some f1⟩) (D4 (s1 := ⟨[.val .feed, .val (.int r), .no, .no], some f1⟩) rfl (show 2 < 4 by decide)),
   i8 (s1 := ⟨[.val .feed, .val (.int r), .own (mvT.map fun z => D.tup [.int z.1, .int z.2]), .val (fr x)], some f2⟩) (l6 (c6 rfl (t9 rfl e2) (B4 q1)) rfl)]
  exact o6 (V2 rfl rfl (c6 rfl (t9 rfl e3) (B4 q2)))
 ·have s1 : ∀ X, n0 (dB (dOp pEq (dL 1) (dC (.int 0)))) X o8 ⟨[.val .feed, .val (.int r), .no, .no], some f1⟩ = some (.next, ⟨[.val .feed, .val (.int r), .no, .no], some f1⟩) := fun X => D8 (y8 (c6 rfl rfl ((L9 r 0).trans (by rw [decide_eq_false c0]))))
  by_cases c3 : r = 3
  ·obtain ⟨r2, f2, e2, b1, b2, h2⟩ := C4 5 h1
   obtain ⟨q, q1, g1, g2, g3⟩ := b15 b1 b2
   refine ⟨_, _, _, f2, m5 (s := ⟨[.val .feed, .val (.int r), .no, .no], some f2⟩) ?_, b1S g2 g1 g3, h2.mono (by omega)⟩
   show T8 LDw ⟨[.val .feed, .no, .no, .no], some f⟩ = _
   unfold T8
   rw [i8 s0, i8 (s1 _)]
   refine L4 ?_
   rw [K2 (s1 := ⟨[.val .feed, .val (.int r), .no, .no], some f1⟩) (y8 (c6 rfl rfl ((L9 r 3).trans (by rw [decide_eq_true c3]))))]
   exact o6 (u9 rfl (c6 (x := .lst (scT.map fun z => D.tup [.int z.1, .int z.2])) (s1 := ⟨[.val .feed, .val (.int r), .no, .no], some f1⟩) (A7 rfl) (t9 rfl e2) (B4 q1)))
  ·have s2 : ∀ X, n0 (dB (dOp pEq (dL 1) (dC (.int 3)))) X o8 ⟨[.val .feed, .val (.int r), .no, .no], some f1⟩ = some (.next, ⟨[.val .feed, .val (.int r), .no, .no], some f1⟩) := fun X => D8 (y8 (c6 rfl rfl ((L9 r 3).trans (by rw [decide_eq_false c3]))))
   have key : ∀ cD, atI [D.tup [.str "quarter"], .tup [.str "mirror"]] (r - 1) = some cD → WCh [.feed] (some f) = some (cD, some f1) := fun cD q => by
    refine m5 (s := ⟨[.val .feed, .val (.int r), .no, .no], some f1⟩) ?_
    show T8 LDw ⟨[.val .feed, .no, .no, .no], some f⟩ = _
    unfold T8
    rw [i8 s0, i8 (s1 _), i8 (s2 _)]
    exact o6 (c6 (x := .lst [D.tup [.str "quarter"], .tup [.str "mirror"]]) (s1 := ⟨[.val .feed, .val (.int r), .no, .no], some f1⟩) (A7 rfl) (c6 rfl rfl rfl) (B4 q))
   by_cases c1 : r = 1
   ·exact ⟨_, _, _, f1, key _ (by rw [c1]; rfl), b21, h1.mono (by omega)⟩
   ·have c2 : r = 2 := by omega
    exact ⟨_, _, _, f1, key _ (by rw [c2]; rfl), a9Q, h1.mono (by omega)⟩
noncomputable def tw (M : Rat) (k : Int) : Rat := M * Rat.divInt k 24
theorem G5 (M : Rat) (k : Int) : tw M k = M * ((k : Rat) / 24) := by
 unfold tw
 rw [Rat.divInt_eq_div]
 rfl
theorem a5n (M : Rat) (a b : Int) : tw M a + tw M b = tw M (a + b) := by
 rw [G5, G5, G5, Rat.intCast_add]
 grind
theorem a5b (M : Rat) (a b : Int) : tw M a - tw M b = tw M (a - b) := by
 rw [G5, G5, G5, Rat.intCast_sub]
 grind
theorem U0 (M : Rat) : tw M 0 = 0 := by
 rw [G5]
 grind
theorem a01 (M : Rat) : tw M 24 = M := by
 rw [G5]
 have : ((24 : Int) : Rat) / 24 = 1 := by decide +kernel
 rw [this, Rat.mul_one]
theorem a1r (q M : Rat) (a : Int) : tw (q * M) a = q * tw M a := by
 unfold tw
 grind
theorem T9 {M : Rat} (h : 0 < M) (a b : Int) : tw M a < tw M b ↔ a < b := by
 have e : tw M b - tw M a = M * (((b - a : Int) : Rat) / 24) := by rw [a5b, G5]
 constructor
 ·intro z
  have : 0 < M * (((b - a : Int) : Rat) / 24) := by rw [← e]; grind
  have : 0 < ((b - a : Int) : Rat) / 24 := (Rat.mul_pos_iff_of_pos_left h).mp this
  have : (0 : Rat) < ((b - a : Int) : Rat) := by grind
  have := Rat.intCast_pos.mp this
  omega
 ·intro z
  have : (0 : Rat) < ((b - a : Int) : Rat) := Rat.intCast_pos.mpr (by omega)
  have : 0 < M * (((b - a : Int) : Rat) / 24) := Rat.mul_pos h (by grind)
  rw [← e] at this
  grind
theorem a4O {M : Rat} (h : 0 < M) {a b : Int} (hab : a ≤ b) : tw M a ≤ tw M b := by
 refine Rat.not_lt.mp fun z => ?_
 have := (T9 h b a).mp z
 omega
theorem G1 {M : Rat} {k : Int} (h : Sz 81 M) (hk : k.natAbs < 128) : Sz 88 (tw M k) := h.mul (Sz.of_divInt (k := 7) (by decide) hk (by decide))
theorem a9i (M : Rat) {a b o : Int} (hb : b ≠ 0) (h : a * 24 = o * b) : M * Rat.divInt a b = tw M o := by
 unfold tw
 rw [(Rat.divInt_eq_divInt_iff hb (by decide)).mpr h]
theorem a3G {M : Rat} (h : Sz 81 M) {a b o : Int} (fs : Option FS) (ha : a.natAbs < 128) (hb : b.natAbs < 128) (hb0 : b ≠ 0) (e : a * 24 = o * b) : WPr [fr M, .tup [.int a, .int b]] fs = some (fr (tw M o), fs) := by
 have pr := Y7 M.num M.den a b fs (D1 _) hb0 h.num h.den (show Bd 7 a from ha) (show Bd 7 b from hb) (by decide)
 have e1 : Rat.divInt (M.num * a) (M.den * b) = tw M o := by
  rw [← a9i M hb0 e]
  conv => rhs; rw [V0 M]
  rw [Rat.divInt_mul_divInt]
 rw [e1] at pr
 exact pr
noncomputable abbrev WSh : DFn := a2Z WPr LDw
noncomputable abbrev shE : DE := c9 WPr (a7 (dV 1) (a7 (e8 (a7 (dOp n9 (dC (.int 1)) (c9 LDw (a7 (dV 2) (a7 (dC (.int 5)) a8)))) (a7 (dC (.int 24)) a8))) a8))
theorem a9e {M : Rat} (hM : Sz 81 M) : ∀ (ds : List D) (n : Nat) (f : FS), Fd3 n f → n + ds.length < 2 ^ 30 → ∃ (ks : List Int) (f' : FS), w9 (fun d => some (.val d :: [.val (fr M), .val .feed])) w8 shE ds (some f) = some ((ks.map (tw M)).map fr, some f') ∧ ks.length = ds.length ∧ (∀ k ∈ ks, 1 ≤ k ∧ k ≤ 5) ∧ Fd3 (n + ds.length) f' := by
 intro ds
 induction ds with
 | nil => exact fun n f h _ => ⟨[], f, rfl, rfl, (fun k hk => by cases hk), h⟩
 | cons d r ih =>
  intro n f h hn
  rw [List.length_cons] at hn
  obtain ⟨x, f1, e1, a1, a2, h1⟩ := C4 5 h
  obtain ⟨ks, f', e, kl, kb, h'⟩ := ih (n + 1) f1 h1 (by omega)
  refine ⟨(1 + x) :: ks, f', ?_, by rw [List.length_cons, List.length_cons, kl], ?_, by rw [List.length_cons]; exact h'.mono (by omega)⟩
  ·have pr := a3G hM (some f1) (a := 1 + x) (b := 24) (o := 1 + x) (by omega) (by decide) (by decide) rfl
   have el : shE ⟨.val d :: [.val (fr M), .val .feed], some f⟩ = some (fr (tw M (1 + x)), ⟨.val d :: [.val (fr M), .val .feed], some f1⟩) := a5T (sl' := .val d :: [.val (fr M), .val .feed]) (j8 rfl (j8 (u9 (c6 rfl (t9 rfl e1) rfl) rfl) rfl)) pr
   rw [w9, Option.bind_some, show w8 ⟨.val d :: [.val (fr M), .val .feed], some f⟩ = some (true, ⟨.val d :: [.val (fr M), .val .feed], some f⟩) from rfl, Option.bind_some, if_pos rfl, el, Option.bind_some, e]
   rfl
  ·intro k hk
   rcases List.mem_cons.mp hk with z | z
   ·omega
   ·exact kb k z
noncomputable def sh5 : List (Int × Int) := [(0, 1), (1, 2), (1, 24), (5, 6), (1, 3)]
theorem b2y : (sh5.all fun z => decide (0 ≤ z.1 ∧ 0 < z.2 ∧ z.1.natAbs < 128 ∧ z.2.natAbs < 128 ∧ z.1 * 24 = (z.1 * 24 / z.2) * z.2 ∧ 0 ≤ z.1 * 24 / z.2 ∧ z.1 * 24 / z.2 ≤ 20)) = true := by decide +kernel
theorem b3n {M : Rat} (hM : Sz 81 M) {n : Nat} {f : FS} (h : Fd3 n f) (hn : n < 2 ^ 28) : ∃ (ks : List Int) (o : Int) (f' : FS), WSh [.feed, fr M] (some f) = some (.tup [.tup ((ks.map (tw M)).map fr), fr (tw M o)], some f') ∧ 2 ≤ ks.length ∧ ks.length ≤ 6 ∧ (∀ k ∈ ks, 1 ≤ k ∧ k ≤ 5) ∧ 0 ≤ o ∧ o ≤ 20 ∧ Fd3 (n + 8) f' := by
 obtain ⟨r1, f1, e1, a1, a2, h1⟩ := C4 4 h
 obtain ⟨x, hx, q1⟩ := L0 (xs := [D.int 2, .int 4, .int 2, .int 6]) a1 a2
 obtain ⟨y, hy, rfl⟩ := List.mem_map.mp (show x ∈ [(2 : Nat), 4, 2, 6].map (fun (z : Nat) => D.int (z : Int)) from hx)
 have hy2 : 2 ≤ y ∧ y ≤ 6 := of_decide_eq_true (List.all_eq_true.mp (show ([(2 : Nat), 4, 2, 6].all fun y => decide (2 ≤ y ∧ y ≤ 6)) = true by decide) y hy)
 obtain ⟨ks, f2, e2, kl, kb, h2⟩ := a9e hM (ups 0 y) (n + 1) f1 h1 (by rw [O5]; omega)
 rw [O5] at kl h2
 obtain ⟨r3, f3, e3, b1, b2, h3⟩ := C4 5 h2
 obtain ⟨w, hw, q3⟩ := L0 (xs := sh5.map fun z => D.tup [.int z.1, .int z.2]) b1 b2
 obtain ⟨z, hz, rfl⟩ := List.mem_map.mp hw
 obtain ⟨z0, z1, z2, z3, z4, z5, z6⟩ := of_decide_eq_true (List.all_eq_true.mp b2y z hz)
 have pr := a3G hM (some f3) z2 z3 (by omega) z4
 generalize z.1 * 24 / z.2 = o at *
 refine ⟨ks, o, f3, m5 (s := ⟨[.val .feed, .val (fr M), .val (.int (y : Int)), .val (.tup ((ks.map (tw M)).map fr)), .val (.tup [.int z.1, .int z.2])], some f3⟩) ?_, by omega, by omega, kb, z5, z6, h3.mono (by omega)⟩
 show a19 WPr LDw ⟨[.val .feed, .val (fr M), .no, .no, .no], some f⟩ = _
 unfold a19
 have rg : R7 (a7 (dV 2) a8) ⟨[.val .feed, .val (fr M), .val (.int (y : Int)), .no, .no], some f1⟩ = some (ups 0 y, ⟨[.val .feed, .val (fr M), .val (.int (y : Int)), .no, .no], some f1⟩) := by
  unfold R7
  rw [show (a7 (dV 2) a8) ⟨[.val .feed, .val (fr M), .val (.int (y : Int)), .no, .no], some f1⟩ = some ([.int (y : Int)], ⟨[.val .feed, .val (fr M), .val (.int (y : Int)), .no, .no], some f1⟩) from rfl, Option.bind_some, a1B (by omega)]
  rfl
 have cm : F2 [1, 0] (R7 (a7 (dV 2) a8)) w8 shE ⟨[.val .feed, .val (fr M), .val (.int (y : Int)), .no, .no], some f1⟩ = some ((ks.map (tw M)).map fr, ⟨[.val .feed, .val (fr M), .val (.int (y : Int)), .no, .no], some f2⟩) := by
  unfold F2
  rw [rg, Option.bind_some, if_pos (J2 (by rw [O5]; omega))]
  show (w9 (fun d => some (.val d :: [.val (fr M), .val .feed])) w8 shE (ups 0 y) (some f1)).map _ = _
  rw [e2]
  rfl
 rw [i8 (s1 := ⟨[.val .feed, .val (fr M), .val (.int (y : Int)), .no, .no], some f1⟩) (l6 (c6 (x := .lst [D.int 2, .int 4, .int 2, .int 6]) (s1 := ⟨[.val .feed, .val (fr M), .no, .no, .no], some f⟩) (A7 rfl) (t9 rfl e1) (B4 q1)) rfl),
  i8 (s1 := ⟨[.val .feed, .val (fr M), .val (.int (y : Int)), .val (.tup ((ks.map (tw M)).map fr)), .no], some f2⟩) (l6 (C5 (p := D5) (A7 cm) rfl) rfl),
  i8 (s1 := ⟨[.val .feed, .val (fr M), .val (.int (y : Int)), .val (.tup ((ks.map (tw M)).map fr)), .val (.tup [.int z.1, .int z.2])], some f3⟩) (l6 (c6 (x := .lst (sh5.map fun z => D.tup [.int z.1, .int z.2])) (s1 := ⟨[.val .feed, .val (fr M), .val (.int (y : Int)), .val (.tup ((ks.map (tw M)).map fr)), .no], some f2⟩) (A7 rfl) (t9 rfl e3) (B4 q3)) rfl)]
 exact o6 (u9 rfl (k9 rfl pr))
theorem a5B {α : Type} {idx : List Nat} {sl : List Sl} {fe : DE} (fs : Option FS) (A B G : α → D) : ∀ l : List α, (∀ z ∈ l, fe ⟨.val (A z) :: .val (B z) :: D9 idx sl, fs⟩ = some (G z, ⟨.val (A z) :: .val (B z) :: D9 idx sl, fs⟩)) → w9 (mk2 idx sl) w8 fe (l.map fun z => .tup [A z, B z]) fs = some (l.map G, fs) := by
 intro l
 induction l with
 | nil => exact fun _ => rfl
 | cons z r ih =>
  intro h
  have e := h z (List.mem_cons_self ..)
  have ih := ih fun y hy => h y (List.mem_cons_of_mem _ hy)
  rw [List.map_cons, w9, show mk2 idx sl (.tup [A z, B z]) = some (.val (A z) :: .val (B z) :: D9 idx sl) from rfl, Option.bind_some,
   show w8 ⟨.val (A z) :: .val (B z) :: D9 idx sl, fs⟩ = some (true, ⟨.val (A z) :: .val (B z) :: D9 idx sl, fs⟩) from rfl, Option.bind_some, if_pos rfl, e, Option.bind_some, ih]
  rfl
theorem a3O {α : Type} {caps : List Sl} {fe : DE} (fs : Option FS) (A G : α → D) : ∀ l : List α, (∀ z ∈ l, fe ⟨.val (A z) :: caps, fs⟩ = some (G z, ⟨.val (A z) :: caps, fs⟩)) → w9 (fun d => some (.val d :: caps)) w8 fe (l.map A) fs = some (l.map G, fs) := by
 intro l
 induction l with
 | nil => exact fun _ => rfl
 | cons z r ih =>
  intro h
  have e := h z (List.mem_cons_self ..)
  have ih := ih fun y hy => h y (List.mem_cons_of_mem _ hy)
  rw [List.map_cons, w9, Option.bind_some,
   show w8 ⟨.val (A z) :: caps, fs⟩ = some (true, ⟨.val (A z) :: caps, fs⟩) from rfl, Option.bind_some, if_pos rfl, e, Option.bind_some, ih]
  rfl
noncomputable abbrev FSo : DFn := a1u FP
noncomputable abbrev FFb : DFn := a1y FX FT FSo
noncomputable abbrev FGt : DFn := a0Z w6
noncomputable abbrev FLs : DFn := a1s w6
noncomputable abbrev FMl : DFn := a1w w6 FLs FGt FP FFb FLl
noncomputable abbrev FMo : DFn := a2J FMl FPo
theorem b2V {M : Rat} (hM : Sz 81 M) (P : Sl) (fs : Option FS) : ∀ (ks : List Int) (a : Int) (x2 : Sl), (∀ k ∈ ks, 1 ≤ k ∧ k ≤ 5) → 0 ≤ a → a + 5 * ks.length < 100 → ∃ y2, A1 (e7 2) (a7J FP) ((ks.map (tw M)).map fr) ⟨[P, .val (fr (tw M a)), x2], fs⟩ = some (.next, ⟨[P, .val (fr (tw M (a + ks.sum))), y2], fs⟩) := by
 intro ks
 induction ks with
 | nil => exact fun a x2 _ _ _ => ⟨x2, by rw [List.sum_nil, Int.add_zero]; rfl⟩
 | cons k r ih =>
  intro a x2 hk h0 h1
  rw [List.length_cons] at h1
  have k1 := hk k (List.mem_cons_self ..)
  obtain ⟨y2, e⟩ := ih (a + k) (.val (fr (tw M k))) (fun z hz => hk z (List.mem_cons_of_mem _ hz)) (by omega) (by omega)
  refine ⟨y2, ?_⟩
  have p := W8 (tw M a) (tw M k) fs (G1 hM (by omega)) (G1 hM (by omega)) (by decide)
  rw [a5n] at p
  rw [List.sum_cons, ← Int.add_assoc, List.map_cons, List.map_cons, X3 (s1 := ⟨[P, .val (fr (tw M a)), .val (fr (tw M k))], fs⟩) rfl (l6 (k9 rfl p) rfl)]
  exact e
theorem a51 : ∀ ks : List Int, (∀ k ∈ ks, 1 ≤ k ∧ k ≤ 5) → (ks.length : Int) ≤ ks.sum ∧ ks.sum ≤ 5 * ks.length := by
 intro ks
 induction ks with
 | nil => exact fun _ => ⟨by decide, by decide⟩
 | cons k r ih =>
  intro h
  have k1 := h k (List.mem_cons_self ..)
  have := ih fun z hz => h z (List.mem_cons_of_mem _ hz)
  rw [List.sum_cons, List.length_cons]
  omega
theorem a9v {M : Rat} (hM : Sz 81 M) (fs : Option FS) {ks : List Int} (hk : ∀ k ∈ ks, 1 ≤ k ∧ k ≤ 5) (hl : ks.length ≤ 6) : FSo [.tup ((ks.map (tw M)).map fr)] fs = some (fr (tw M ks.sum), fs) := by
 obtain ⟨y2, lp⟩ := b2V hM (.val (.tup ((ks.map (tw M)).map fr))) fs ks 0 .no hk (by decide) (by omega)
 rw [Int.zero_add, U0] at lp
 refine m5 (s := ⟨[.val (.tup ((ks.map (tw M)).map fr)), .val (fr (tw M ks.sum)), y2], fs⟩) ?_
 show a3i FP ⟨[.val (.tup ((ks.map (tw M)).map fr)), .no, .no], fs⟩ = _
 unfold a3i
 rw [i8 (s1 := ⟨[.val (.tup ((ks.map (tw M)).map fr)), .val (fr 0), .no], fs⟩) (l6 (u9 rfl rfl) rfl), i8 ((a0z (ds := (ks.map (tw M)).map fr) (s1 := ⟨[.val (.tup ((ks.map (tw M)).map fr)), .val (fr 0), .no], fs⟩) rfl).trans lp)]
 exact o6 rfl
theorem a63 {q : Rat} (h : 0 < q) : 0 < q.num := by
 have a := a05 (Rat.le_of_lt h)
 have b : q.num ≠ 0 := fun z => by
  rw [Rat.num_eq_zero] at z
  rw [z] at h
  exact absurd h Rat.lt_irrefl
 omega
theorem a76 {M : Rat} (hM : 0 < M) {o K : Int} (hK : 0 < K) : ((tw M o).num * (tw M K).den).fdiv ((tw M o).den * (tw M K).num) = o.fdiv K := by
 have q0 : 0 < tw M K := by
  rw [← U0 M]
  exact (T9 hM 0 K).mpr hK
 have d0 : 0 < ((tw M o).den : Int) * (tw M K).num := Int.mul_pos (Y2 _) (a63 q0)
 have e : (tw M o).num * (tw M K).den * K = o * ((tw M o).den * (tw M K).num) := by
  have r : (((tw M o).num * (tw M K).den * K : Int) : Rat) = ((o * ((tw M o).den * (tw M K).num) : Int) : Rat) := by
   rw [Rat.intCast_mul, Rat.intCast_mul, Rat.intCast_mul, Rat.intCast_mul, Q6, Q6]
   have : tw M o * (K : Rat) = tw M K * (o : Rat) := by
    rw [G5, G5]
    grind
   grind
  exact Rat.intCast_inj.mp r
 rw [Int.fdiv_eq_ediv_of_nonneg _ (Int.le_of_lt d0), Int.fdiv_eq_ediv_of_nonneg _ (Int.le_of_lt hK), ← Int.mul_ediv_mul_of_pos_left _ _ hK, e, Int.mul_comm _ K, Int.mul_ediv_mul_of_pos_left _ _ d0]
noncomputable def bg0 (ks : List Int) (o : Int) : Int := ks.sum * o.fdiv ks.sum - o
theorem a7r {ks : List Int} {o : Int} (h : 0 < ks.sum) (h2 : ks.sum ≤ 30) : -30 ≤ bg0 ks o ∧ bg0 ks o ≤ 0 := by
 unfold bg0
 rw [Int.fdiv_eq_ediv_of_nonneg _ (Int.le_of_lt h)]
 have a := Int.mul_ediv_add_emod o ks.sum
 have b := Int.emod_nonneg o (show ks.sum ≠ 0 by omega)
 have c := Int.emod_lt_of_pos o h
 omega
theorem a8L {M : Rat} (hM : Sz 81 M) (h0 : 0 < M) (fs : Option FS) {ks : List Int} (hk : ∀ k ∈ ks, 1 ≤ k ∧ k ≤ 5) (hl : ks.length ≤ 6) (h1 : 1 ≤ ks.length) {o : Int} (o0 : 0 ≤ o) (o1 : o ≤ 20) : FFb [.tup ((ks.map (tw M)).map fr), fr (tw M o)] fs = some (fr (tw M (bg0 ks o)), fs) := by
 obtain ⟨s1, s2⟩ := a51 ks hk
 have e1 := a9v hM fs hk hl
 have K0 : 0 < ks.sum := by omega
 have fd := a76 h0 (o := o) K0
 have bb := a7r (o := o) K0 (by omega)
 have f0 : 0 ≤ o.fdiv ks.sum ∧ o.fdiv ks.sum ≤ 20 := by
  rw [Int.fdiv_eq_ediv_of_nonneg _ (Int.le_of_lt K0)]
  exact ⟨Int.ediv_nonneg o0 (Int.le_of_lt K0), Int.le_trans (Int.ediv_le_self _ o0) o1⟩
 have zo := G1 hM (k := o) (by omega)
 have zK := G1 hM (k := ks.sum) (by omega)
 have q0 : 0 < tw M ks.sum := by
  rw [← U0 M]
  exact (T9 h0 0 ks.sum).mpr K0
 have d0 : ((tw M o).den : Int) * (tw M ks.sum).num ≠ 0 := Int.mul_ne_zero (D1 _) (Int.ne_of_gt (a63 q0))
 have dv := (Bd.mul zo.den zK.num).div d0 (by decide)
 have zt : Sz 7 ((o.fdiv ks.sum : Int) : Rat) := ⟨show (o.fdiv ks.sum).natAbs < 2 ^ 7 by omega, show 1 < 2 ^ 7 by decide⟩
 have t1 := b2A (tw M ks.sum) ((o.fdiv ks.sum : Int) : Rat) fs zK zt (by decide)
 have e2 : tw M ks.sum * ((o.fdiv ks.sum : Int) : Rat) = tw M (ks.sum * o.fdiv ks.sum) := by
  rw [G5, G5, Rat.intCast_mul]
  grind
 have l1 := a2D (tw M ks.sum * ((o.fdiv ks.sum : Int) : Rat)) (tw M o) fs (zK.mul zt) zo (by decide)
 rw [e2, a5b] at l1
 rw [e2] at t1
 have b1 := zo.num.bits (by decide)
 have b2 := zo.den.bits (by decide)
 have b3 := zK.num.bits (by decide)
 have b4 := zK.den.bits (by decide)
 refine m5 (s := ⟨[.val (.tup ((ks.map (tw M)).map fr)), .val (fr (tw M o)), .val (fr (tw M ks.sum)), .val (.int (o.fdiv ks.sum))], fs⟩) ?_
 show a4o FX FT FSo ⟨[.val (.tup ((ks.map (tw M)).map fr)), .val (fr (tw M o)), .no, .no], fs⟩ = _
 unfold a4o
 rw [i8 (s1 := ⟨[.val (.tup ((ks.map (tw M)).map fr)), .val (fr (tw M o)), .val (fr (tw M ks.sum)), .no], fs⟩) (l6 (k9 rfl e1) rfl),
  i8 (s1 := ⟨[.val (.tup ((ks.map (tw M)).map fr)), .val (fr (tw M o)), .val (fr (tw M ks.sum)), .val (.int (o.fdiv ks.sum))], fs⟩) (l6 (c6 (c6 (c6 rfl rfl (E3 _)) (c6 rfl rfl (C2 _)) (r8 b1 b4)) (c6 (c6 rfl rfl (C2 _)) (c6 rfl rfl (E3 _)) (r8 b2 b3)) (by rw [a5h _ dv, fd])) rfl)]
 exact o6 (k9 (j8 (k9 (j8 rfl (j8 (u9 rfl rfl) rfl)) t1) (j8 rfl rfl)) l1)
theorem a8I {M : Rat} (hM : Sz 81 M) (h0 : 0 < M) (fs : Option FS) {b : Int} (hb : b.natAbs < 128) : FGt [fr (tw M b), fr 0] fs = some (fr (tw M (max b 0)), fs) := by
 have e := U9 (tw M b) 0 fs (G1 hM hb) (Sz.lit (k := 1) (by decide)) (by decide)
 have q : (tw M b < 0) ↔ b < 0 := by
  conv => lhs; rhs; rw [← U0 M]
  exact T9 h0 b 0
 refine m5 (s := ⟨[.val (fr (tw M b)), .val (fr 0)], fs⟩) (o6 ?_)
 by_cases c : b < 0
 ·rw [decide_eq_true (q.mpr c)] at e
  rw [a0W (M3 (k9 rfl e)), show max b 0 = 0 by omega, U0]
  rfl
 ·rw [decide_eq_false (fun z => c (q.mp z))] at e
  rw [a07 (M3 (k9 rfl e)), show max b 0 = b by omega]
  rfl
theorem b2o {M : Rat} (hM : Sz 81 M) (h0 : 0 < M) (fs : Option FS) {b : Int} (hb : b.natAbs < 128) : FLs [fr (tw M b), fr M] fs = some (fr (tw M (min b 24)), fs) := by
 have e := U9 (tw M b) M fs (G1 hM hb) hM (by decide)
 have q : (tw M b < M) ↔ b < 24 := by
  conv => lhs; rhs; rw [← a01 M]
  exact T9 h0 b 24
 refine m5 (s := ⟨[.val (fr (tw M b)), .val (fr M)], fs⟩) (o6 ?_)
 by_cases c : b < 24
 ·rw [decide_eq_true (q.mpr c)] at e
  rw [a0W (M3 (k9 rfl e)), show min b 24 = b by omega]
  rfl
 ·rw [decide_eq_false (fun z => c (q.mp z))] at e
  rw [a07 (M3 (k9 rfl e)), show min b 24 = 24 by omega, a01]
  rfl
noncomputable def mkL (ks : List Int) : Nat → Int → Nat → List (Int × Int)
 | 0, _, _ => []
 | t + 1, b, n => if b < 24 then (if n % 2 = 0 ∧ 0 < b + ks.getD n 1 then [(max b 0, min (b + ks.getD n 1) 24)] else []) ++ mkL ks t (b + ks.getD n 1) ((n + 1) % ks.length) else []
theorem a4Q {ks : List Int} : ∀ (t : Nat) (b : Int) (n : Nat) z, z ∈ mkL ks t b n → (0 ≤ z.1 ∧ z.1 ≤ 24) ∧ 0 ≤ z.2 ∧ z.2 ≤ 24 := by
 intro t
 induction t with
 | zero => intro b n z hz; cases hz
 | succ t ih =>
  intro b n z hz
  rw [mkL] at hz
  by_cases c : b < 24
  ·rw [if_pos c] at hz
   rcases List.mem_append.mp hz with hz | hz
   ·by_cases c2 : n % 2 = 0 ∧ 0 < b + ks.getD n 1
    ·rw [if_pos c2] at hz
     rw [List.mem_singleton.mp hz]
     obtain ⟨_, c3⟩ := c2
     generalize ks.getD n 1 = k at *
     exact ⟨by constructor <;> (show _ ≤ _; omega), by constructor <;> (show _ ≤ _; omega)⟩
    ·rw [if_neg c2] at hz
     cases hz
   ·exact ih _ _ z hz
  ·rw [if_neg c] at hz
   cases hz
theorem a5I {ks : List Int} : ∀ (t : Nat) (b : Int) (n : Nat), (mkL ks t b n).length ≤ t := by
 intro t
 induction t with
 | zero => exact fun _ _ => Nat.le_refl _
 | succ t ih =>
  intro b n
  rw [mkL]
  have := ih (b + ks.getD n 1) ((n + 1) % ks.length)
  split
  ·rw [List.length_append]
   split
   ·rw [List.length_singleton]; omega
   ·rw [List.length_nil]; omega
  ·exact Nat.zero_le _
noncomputable abbrev mkD (M : Rat) (z : Int × Int) : D := .tup [fr (tw M z.1), fr (tw M z.2)]
noncomputable abbrev mlS (Ln P off : D) (M : Rat) (acc : List D) (b : Int) (n : Nat) (x7 : Sl) (fs : Option FS) : DS := ⟨[.val Ln, .val P, .val off, .val (fr M), .own acc, .val (fr (tw M b)), .val (.int (n : Int)), x7], fs⟩
noncomputable abbrev lMl : DM := a0V w6 FLs FGt FP FFb FLl
theorem a78 {M : Rat} (hM : Sz 81 M) (h0 : 0 < M) (fs : Option FS) {ks : List Int} (Ln off : D) (hk : ∀ k ∈ ks, 1 ≤ k ∧ k ≤ 5) (hl : ks.length ≤ 6) {n : Nat} (hn : n < ks.length) {b : Int} (b0 : -30 ≤ b) (b1 : b < 24) (acc : List D) (ha : acc.length ≤ 150) (x7 : Sl) :
  lMl (mlS Ln (.tup ((ks.map (tw M)).map fr)) off M acc b n x7 fs) = some (.next, mlS Ln (.tup ((ks.map (tw M)).map fr)) off M (acc ++ (if n % 2 = 0 ∧ 0 < b + ks.getD n 1 then [(max b 0, min (b + ks.getD n 1) 24)] else []).map (mkD M)) (b + ks.getD n 1) ((n + 1) % ks.length) (.val (fr (tw M (b + ks.getD n 1)))) fs) := by
 have hg : ks[n]? = some (ks.getD n 1) := by
  rw [List.getD_eq_getElem?_getD, List.getElem?_eq_getElem hn]
  rfl
 have kb := hk _ (List.mem_of_getElem? hg)
 have ix : atI ((ks.map (tw M)).map fr) (n : Int) = some (fr (tw M (ks.getD n 1))) := atN (by rw [List.getElem?_map, List.getElem?_map, hg]; rfl)
 generalize ks.getD n 1 = k at *
 have p := W8 (tw M b) (tw M k) fs (G1 hM (by omega)) (G1 hM (by omega)) (by decide)
 rw [a5n] at p
 have bl := U9 0 (tw M (b + k)) fs (Sz.lit (k := 1) (by decide)) (G1 hM (by omega)) (by decide)
 have q : (0 < tw M (b + k)) ↔ 0 < b + k := by
  conv => lhs; lhs; rw [← U0 M]
  exact T9 h0 0 (b + k)
 have g := a8I hM h0 fs (b := b) (by omega)
 have s := b2o hM h0 fs (b := b + k) (by omega)
 have md : y4 (.int (n : Int)) (.int 2) = some (.int ((n % 2 : Nat) : Int)) := by
  rw [P1 (by decide), Int.fmod_eq_emod_of_nonneg _ (by decide)]
  congr 2
 have ml : y4 (.int ((n : Int) + 1)) (.int (((ks.map (tw M)).map fr).length : Int)) = some (.int (((n + 1) % ks.length : Nat) : Int)) := by
  rw [List.length_map, List.length_map, P1 (by omega), Int.fmod_eq_emod_of_nonneg _ (by omega)]
  congr 2
 generalize (ks.map (tw M)).map fr = P at *
 generalize hacc : acc ++ (if n % 2 = 0 ∧ 0 < b + k then [(max b 0, min (b + k) 24)] else []).map (mkD M) = acc'
 have st : n0 (A6 (dB (dOp pEq (dOp y4 (dL 6) (dC (.int 2))) (dC (.int 0)))) (dTr (c9 w6 (a7 (e8 (a7 (dC (.int 0)) (a7 (dC (.int 1)) a8))) (a7 (dV 7) a8))))) (F4 4 (e8 (a7 (c9 FGt (a7 (dV 5) (a7 (e8 (a7 (dC (.int 0)) (a7 (dC (.int 1)) a8))) a8))) (a7 (c9 FLs (a7 (dV 7) (a7 (dV 3) a8))) a8)))) o8 (mlS Ln (.tup P) off M acc b n (.val (fr (tw M (b + k)))) fs) = some (.next, mlS Ln (.tup P) off M acc' b n (.val (fr (tw M (b + k)))) fs) := by
  have t1 : dB (dOp pEq (dOp y4 (dL 6) (dC (.int 2))) (dC (.int 0))) (mlS Ln (.tup P) off M acc b n (.val (fr (tw M (b + k)))) fs) = some (decide (((n % 2 : Nat) : Int) = 0), mlS Ln (.tup P) off M acc b n (.val (fr (tw M (b + k)))) fs) := y8 (c6 (c6 rfl rfl md) rfl (L9 _ 0))
  have t2 : dTr (c9 w6 (a7 (e8 (a7 (dC (.int 0)) (a7 (dC (.int 1)) a8))) (a7 (dV 7) a8))) (mlS Ln (.tup P) off M acc b n (.val (fr (tw M (b + k)))) fs) = some (decide (0 < tw M (b + k)), mlS Ln (.tup P) off M acc b n (.val (fr (tw M (b + k)))) fs) := M3 (k9 (j8 (u9 rfl rfl) (j8 rfl rfl)) bl)
  by_cases c1 : n % 2 = 0
  ·rw [decide_eq_true (by omega)] at t1
   by_cases c2 : 0 < b + k
   ·rw [decide_eq_true (q.mpr c2)] at t2
    rw [if_pos ⟨c1, c2⟩] at hacc
    rw [K2 (a0E t1 t2), ← hacc]
    exact T5 (s1 := mlS Ln (.tup P) off M acc b n (.val (fr (tw M (b + k)))) fs) (ds := acc) (ds0 := acc) rfl (u9 (k9 (j8 rfl (j8 (u9 rfl rfl) rfl)) g) (k9 rfl s)) rfl (Nat.lt_of_le_of_lt ha (by decide))
   ·rw [decide_eq_false (fun z => c2 (q.mp z))] at t2
    rw [if_neg (fun z => c2 z.2), List.map_nil, List.append_nil] at hacc
    rw [← hacc]
    exact D8 (a0E t1 t2)
  ·rw [decide_eq_false (by omega)] at t1
   rw [if_neg (fun z => c1 z.1), List.map_nil, List.append_nil] at hacc
   rw [← hacc]
   exact D8 (a4i t1)
 have hl' : acc'.length ≤ 151 := by
  rw [← hacc, List.length_append, List.length_map]
  split
  ·rw [List.length_singleton]; omega
  ·rw [List.length_nil]; omega
 have lt : ¬ ((200 : Int) < (acc'.length : Int)) := by omega
 show a0V w6 FLs FGt FP FFb FLl _ = _
 unfold a0V
 rw [i8 (s1 := mlS Ln (.tup P) off M acc b n (.val (fr (tw M (b + k)))) fs) (l6 (k9 (j8 rfl (j8 (c6 rfl rfl ((ixT P n).trans ix)) rfl)) p) rfl),
  i8 st,
  i8 (s1 := mlS Ln (.tup P) off M acc' b n (.val (fr (tw M (b + k)))) fs) (D8 (y8 (c6 (C5 (p := u3) rfl rfl) rfl (show some (D.bl (decide ((200 : Int) < (acc'.length : Int)))) = _ by rw [decide_eq_false lt])))),
  i8 (s1 := mlS Ln (.tup P) off M acc' (b + k) n (.val (fr (tw M (b + k)))) fs) (l6 rfl rfl)]
 exact l6 (c6 (c6 rfl rfl rfl) (C5 (p := u3) rfl rfl) ml) rfl
theorem b3s {M : Rat} (hM : Sz 81 M) (h0 : 0 < M) (fs : Option FS) {ks : List Int} (Ln off : D) (hk : ∀ k ∈ ks, 1 ≤ k ∧ k ≤ 5) (hl : ks.length ≤ 6) : ∀ (t : Nat) (b : Int) (n : Nat) (acc : List D) (x7 : Sl), 24 - b ≤ t → -30 ≤ b → b ≤ 30 → n < ks.length → acc.length + t ≤ 100 →
  ∃ x5 x6 y7, A8 (dTr (c9 w6 (a7 (dV 5) (a7 (dV 3) a8)))) lMl (mlS Ln (.tup ((ks.map (tw M)).map fr)) off M acc b n x7 fs) = some (.next, ⟨[.val Ln, .val (.tup ((ks.map (tw M)).map fr)), .val off, .val (fr M), .own (acc ++ (mkL ks t b n).map (mkD M)), x5, x6, y7], fs⟩) := by
 have tst : ∀ (b : Int) (n : Nat) (acc : List D) (x7 : Sl), -30 ≤ b → b ≤ 30 → dTr (c9 w6 (a7 (dV 5) (a7 (dV 3) a8))) (mlS Ln (.tup ((ks.map (tw M)).map fr)) off M acc b n x7 fs) = some (decide (b < 24), mlS Ln (.tup ((ks.map (tw M)).map fr)) off M acc b n x7 fs) := fun b n acc x7 b0 b1 => by
  have e := U9 (tw M b) M fs (G1 hM (by omega)) hM (by decide)
  have q : decide (tw M b < M) = decide (b < 24) := by
   rw [Bool.eq_iff_iff, decide_eq_true_iff, decide_eq_true_iff]
   conv => lhs; rhs; rw [← a01 M]
   exact T9 h0 b 24
  rw [q] at e
  exact M3 (k9 rfl e)
 intro t
 induction t with
 | zero =>
  intro b n acc x7 h1 b0 b1 hn ha
  have e := tst b n acc x7 b0 b1
  rw [decide_eq_false (by omega)] at e
  refine ⟨.val (fr (tw M b)), .val (.int (n : Int)), x7, ?_⟩
  rw [mkL, List.map_nil, List.append_nil]
  exact O8 e
 | succ t ih =>
  intro b n acc x7 h1 b0 b1 hn ha
  have e := tst b n acc x7 b0 b1
  rw [mkL]
  by_cases c : b < 24
  ·rw [decide_eq_true c] at e
   rw [if_pos c]
   have tr := a78 hM h0 fs Ln off hk hl hn b0 c acc (by omega) x7
   have hg : ks[n]? = some (ks.getD n 1) := by
    rw [List.getD_eq_getElem?_getD, List.getElem?_eq_getElem hn]
    rfl
   have kb := hk _ (List.mem_of_getElem? hg)
   have al : (acc ++ (if n % 2 = 0 ∧ 0 < b + ks.getD n 1 then [(max b 0, min (b + ks.getD n 1) 24)] else []).map (mkD M)).length ≤ acc.length + 1 := by
    rw [List.length_append, List.length_map]
    split
    ·rw [List.length_singleton]; omega
    ·rw [List.length_nil]; omega
   obtain ⟨x5, x6, y7, w⟩ := ih (b + ks.getD n 1) ((n + 1) % ks.length) _ (.val (fr (tw M (b + ks.getD n 1)))) (by omega) (by omega) (by omega) (Nat.mod_lt _ (by omega)) (Nat.le_trans (Nat.add_le_add_right al t) (by omega))
   refine ⟨x5, x6, y7, ?_⟩
   rw [List.map_append, ← List.append_assoc]
   exact P6 e tr w
  ·rw [decide_eq_false c] at e
   rw [if_neg c, List.map_nil, List.append_nil]
   exact ⟨.val (fr (tw M b)), .val (.int (n : Int)), x7, O8 e⟩
noncomputable def C7 (ks : List Int) (o : Int) : List (Int × Int) := mkL ks 60 (bg0 ks o) 0
theorem a2O {M : Rat} (hM : Sz 81 M) (h0 : 0 < M) (fs : Option FS) {ks : List Int} (Ln : D) (hk : ∀ k ∈ ks, 1 ≤ k ∧ k ≤ 5) (hl : ks.length ≤ 6) (h1 : 1 ≤ ks.length) {o : Int} (o0 : 0 ≤ o) (o1 : o ≤ 20) (hln : FLl [Ln] fs = some (fr M, fs)) :
  FMl [Ln, .tup ((ks.map (tw M)).map fr), fr (tw M o)] fs = some (.lst ((C7 ks o).map (mkD M)), fs) := by
 obtain ⟨s1, s2⟩ := a51 ks hk
 have bb := a7r (ks := ks) (o := o) (by omega) (by omega)
 have fb := a8L hM h0 fs hk hl h1 o0 o1
 obtain ⟨x5, x6, x7, w⟩ := b3s hM h0 fs Ln (fr (tw M o)) hk hl 60 (bg0 ks o) 0 [] .no (by omega) (by omega) (by omega) (by omega) (by decide)
 rw [List.nil_append] at w
 unfold C7
 generalize (ks.map (tw M)).map fr = P at *
 generalize (mkL ks 60 (bg0 ks o) 0).map (mkD M) = R at *
 refine m5 (s := ⟨[.val Ln, .val (.tup P), .val (fr (tw M o)), .val (fr M), .val (.lst R), x5, x6, x7], fs⟩) ?_
 show a2k w6 FLs FGt FP FFb FLl ⟨[.val Ln, .val (.tup P), .val (fr (tw M o)), .no, .no, .no, .no, .no], fs⟩ = _
 unfold a2k
 rw [i8 (s1 := ⟨[.val Ln, .val (.tup P), .val (fr (tw M o)), .val (fr M), .no, .no, .no, .no], fs⟩) (l6 (k9 rfl hln) rfl),
  i8 (s1 := ⟨[.val Ln, .val (.tup P), .val (fr (tw M o)), .val (fr M), .own [], .no, .no, .no], fs⟩) (D4 (s1 := ⟨[.val Ln, .val (.tup P), .val (fr (tw M o)), .val (fr M), .no, .no, .no, .no], fs⟩) rfl (show 4 < 8 by decide)),
  i8 (s1 := ⟨[.val Ln, .val (.tup P), .val (fr (tw M o)), .val (fr M), .own [], .val (fr (tw M (bg0 ks o))), .no, .no], fs⟩) (l6 (k9 rfl fb) rfl),
  i8 (s1 := mlS Ln (.tup P) (fr (tw M o)) M [] (bg0 ks o) 0 .no fs) (l6 rfl rfl),
  i8 w]
 exact o6 rfl
variable {c : Bool} {ps : List Pt} {m : Nat} {S : Nat → Rat} {Q : Nat → Pt × Pt} {T : List Rat}
theorem Lay.lt (L : Lay c ps m S Q T) {i j : Nat} (h : i < j) (hj : j ≤ m) : S i < S j := by
 have a := L.up i (by omega)
 have b := L.mono j (i + 1) h hj
 grind
end T
namespace T
open PySem L2 DL
variable {c : Bool} {ps : List Pt} {cD : D} {φ : Pt → Pt} {q : Rat}
theorem Chg.exL (C : Chg cD φ q) {a b : Pt} (h : exT a b) : exL (φ a) (φ b) ∧ lnR (φ a, φ b) = q * lnR (a, b) := by
 obtain ⟨r, r0, e, g⟩ := h
 have e2 : dsq (φ a) (φ b) = (q * r) * (q * r) := by
  rw [C.dq, e]
  grind
 have p := Rat.mul_pos C.q0 r0
 have gg := C.qg r g
 have x : T.exL (φ a) (φ b) := ⟨q * r, Rat.le_of_lt p, (gg.sz (by unfold E4 C6; decide)).mono (by decide), e2, p, gg⟩
 obtain ⟨a1, _, a3⟩ := W3 (q := (φ a, φ b)) x
 obtain ⟨b1, _, b3⟩ := W3 (q := (a, b)) (exT.exL ⟨r, r0, e, g⟩)
 have k1 := a56 a1 (Rat.le_of_lt p) (a3.symm.trans e2)
 have k2 := a56 b1 (Rat.le_of_lt r0) (b3.symm.trans e)
 exact ⟨x, by rw [k1, k2]⟩
theorem Chg.exS (C : Chg cD φ q) (hx : ExS c ps) (ht : Tg c ps) : ExS c (ps.map φ) := by
 refine ⟨by rw [List.length_map]; exact hx.lo, by rw [List.length_map]; exact hx.hi, fun p hp => ?_, fun z hz => ?_, ?_⟩
 ·obtain ⟨a, ha, rfl⟩ := List.mem_map.mp hp
  have := C.sz 80 a (ht.2 a ha)
  exact ⟨this.1.mono (by decide), this.2.mono (by decide)⟩
 ·rw [Q1] at hz
  obtain ⟨y, hy, rfl⟩ := List.mem_map.mp hz
  exact (C.exL (ht.1 y hy)).1
 ·rw [Q1, List.length_map]
  exact hx.ne
theorem a8n (q : Rat) : ∀ (l : List Rat) (s : Rat), scn (q * s) (l.map (q * ·)) = (scn s l).map (q * ·) := by
 intro l
 induction l with
 | nil => exact fun _ => rfl
 | cons r l ih =>
  intro s
  show q * s :: scn (q * s + q * r) (l.map (q * ·)) = q * s :: (scn (s + r) l).map (q * ·)
  rw [← ih, Rat.mul_add]
theorem Chg.stns (C : Chg cD φ q) (ht : Tg c ps) : scn 0 ((nbs c (ps.map φ)).map lnR) = (scn 0 ((nbs c ps).map lnR)).map (q * ·) := by
 have e : (nbs c (ps.map φ)).map lnR = ((nbs c ps).map lnR).map (q * ·) := by
  rw [Q1, List.map_map, List.map_map]
  exact List.map_congr_left fun z hz => (C.exL (ht.1 z hz)).2
 have k := a8n q ((nbs c ps).map lnR) 0
 rw [Rat.mul_zero] at k
 rw [e, k]
theorem a8D {q a b : Rat} (hq : q ≠ 0) (hb : b ≠ 0) : (q * a) / (q * b) = a / b := by
 refine a1d (fun z => ?_) ?_
 ·rcases Rat.mul_eq_zero.mp z with z | z
  ·exact hq z
  ·exact hb z
 ·have := Rat.div_mul_cancel (a := a) hb
  grind
variable {m : Nat} {S : Nat → Rat} {Q : Nat → Pt × Pt} {T : List Rat}
structure Two (c : Bool) (ps : List Pt) (φ : Pt → Pt) (q : Rat) (m : Nat) (S : Nat → Rat) (Q : Nat → Pt × Pt) (S' : Nat → Rat) (Q' : Nat → Pt × Pt) (T : List Rat) : Prop where
 L : Lay c ps m S Q T
 L' : Lay c (ps.map φ) m S' Q' (T.map (q * ·))
 s : ∀ i, i ≤ m → S' i = q * S i
 q1 : ∀ i, i < m → (Q' i).1 = φ (Q i).1
 q2 : ∀ i, i < m → (Q' i).2 = φ (Q i).2
theorem Chg.two (C : Chg cD φ q) (hx : ExS c ps) (ht : Tg c ps) (L : Lay c ps m S Q (scn 0 ((nbs c ps).map lnR))) : ∃ S' Q', Two c ps φ q m S Q S' Q' (scn 0 ((nbs c ps).map lnR)) := by
 obtain ⟨m', S', Q', L'⟩ := a7b (C.exS hx ht)
 rw [C.stns ht] at L'
 have em : m' = m := by
  have := L'.nl
  rw [Q1, List.length_map, L.nl] at this
  exact this.symm
 subst em
 have hq : ∀ i, i < m' → Q' i = (φ (Q i).1, φ (Q i).2) := fun i hi => by
  have e := L'.q i hi
  rw [Q1, List.getElem?_map, L.q i hi] at e
  exact (Option.some.inj e).symm
 refine ⟨S', Q', L, L', fun i hi => ?_, fun i hi => by rw [hq i hi], fun i hi => by rw [hq i hi]⟩
 have e := L'.at_ i hi
 rw [List.getElem?_map, L.at_ i hi] at e
 exact (Option.some.inj e).symm
variable {S' : Nat → Rat} {Q' : Nat → Pt × Pt}
theorem a04 {q a b : Rat} (hq : 0 < q) : q * a < q * b ↔ a < b := by
 have e : q * b - q * a = q * (b - a) := by grind
 have k : 0 < q * (b - a) ↔ 0 < b - a := Rat.mul_pos_iff_of_pos_left hq
 constructor
 ·intro z
  have := k.mp (by rw [← e]; grind)
  grind
 ·intro z
  have := k.mpr (show 0 < b - a by grind)
  rw [← e] at this
  grind
theorem Two.at_ (W : Two c ps φ q m S Q S' Q' T) (C : Chg cD φ q) (x : Rat) : atL S' Q' m (q * x) = φ (atL S Q m x) := by
 have g : ∀ i, i ≤ m → G4 S' Q' (q * x) (Q' 0).1 i = φ (G4 S Q x (Q 0).1 i) := by
  intro i
  induction i with
  | zero => exact fun _ => W.q1 0 W.L.m1
  | succ i ih =>
   intro hi
   rw [G4, G4, W.s i (by omega)]
   by_cases k : S i < x
   ·rw [if_pos ((a04 C.q0).mpr k), if_pos k]
    unfold onL
    rw [W.q1 i hi, W.q2 i hi, W.s i (by omega), W.s (i + 1) hi, C.bt]
    have e1 : q * x - q * S i = q * (x - S i) := by grind
    have e2 : q * S (i + 1) - q * S i = q * (S (i + 1) - S i) := by grind
    rw [e1, e2, a8D (fun z => by have := C.q0; rw [z] at this; exact absurd this Rat.lt_irrefl) (W.L.df_ne hi)]
   ·rw [if_neg (fun z => k ((a04 C.q0).mp z)), if_neg k, ih (by omega)]
 exact g m (Nat.le_refl _)
theorem Two.part (W : Two c ps φ q m S Q S' Q' T) (C : Chg cD φ q) (b e : Rat) : J5 S' Q' m ((ps.map φ).zip (T.map (q * ·))) (q * b) (q * e) = (J5 S Q m (ps.zip T) b e).map φ := by
 unfold J5
 rw [W.at_ C, W.at_ C, List.map_append, List.map_append]
 have k : v0 (q * b) (q * e) ((ps.map φ).zip (T.map (q * ·))) = (v0 b e (ps.zip T)).map φ := by
  unfold v0
  rw [List.zip_map, List.filter_map, List.map_map, List.map_map]
  have f : (P2 (q * b) (q * e) ∘ Prod.map φ (q * ·)) = P2 b e := by
   funext z
   show (decide (q * b < q * z.2) && decide (q * z.2 < q * e)) = (decide (b < z.2) && decide (z.2 < e))
   rw [Bool.eq_iff_iff, Bool.and_eq_true, Bool.and_eq_true, decide_eq_true_iff, decide_eq_true_iff, decide_eq_true_iff, decide_eq_true_iff, a04 C.q0, a04 C.q0]
  rw [f]
  rfl
 rw [k]
 rfl
noncomputable abbrev FCs : DFn := a36 FCp
noncomputable abbrev FCl : DFn := a1P FCs
theorem a6l (C : Chg cD φ q) {k : Nat} (hk : k ≤ 1500) (fs : Option FS) {qs : List Pt} (hq : ∀ p ∈ qs, PtS k p) (hl : qs.length ≤ 50) (c : Bool) : FCl [cD, .tup [.bl c, .tup (qs.map pt)]] fs = some (.tup [.bl c, .tup ((qs.map φ).map pt)], fs) := by
 have cm := a3O (caps := [.val cD]) (fe := c9 FCp (a7 (dV 1) (a7 (dV 0) a8))) fs pt (fun p => pt (φ p)) qs fun p hp => k9 rfl (C.pl k p fs (hq p hp) hk)
 have e1 : FCs [cD, .tup (qs.map pt)] fs = some (.tup ((qs.map φ).map pt), fs) := by
  refine m5 (s := ⟨[.val cD, .val (.tup (qs.map pt))], fs⟩) (o6 (C5 (p := D5) (A7 (U2 (idx := [0]) (ds := qs.map pt) (R := (qs.map φ).map pt) (s1 := ⟨[.val cD, .val (.tup (qs.map pt))], fs⟩) rfl (J2 (by rw [List.length_map]; omega)) ?_)) rfl))
  rw [List.map_map]
  exact cm
 exact m5 (s := ⟨[.val cD, .val (.tup [.bl c, .tup (qs.map pt)])], fs⟩) (o6 (u9 (c6 rfl rfl rfl) (k9 (j8 rfl (j8 (c6 rfl rfl rfl) rfl)) e1)))
theorem a4h {f : DE} {s s1 : DS} {ds : List D} (h : f s = some (.lst ds, s1)) : E8 f s = some (ds, s1) := by
 unfold E8
 rw [h]
 rfl
theorem Lay.in24 (L : Lay c ps m S Q T) {k : Int} (h0 : 0 ≤ k) (h1 : k ≤ 24) : In (S m) (tw (S m) k) := by
 have mp : 0 < S m := by
  have := L.lt (i := 0) (j := m) L.m1 (Nat.le_refl _)
  rwa [L.z] at this
 have a := a4O mp h0
 have b := a4O mp h1
 rw [U0] at a
 rw [a01] at b
 exact ⟨a, b, (G1 (L.sz m (Nat.le_refl _)) (by omega)).mono (by decide)⟩
noncomputable abbrev mpD (S : Nat → Rat) (Q : Nat → Pt × Pt) (m : Nat) (Z : List (Pt × Rat)) (z : Int × Int) : D := a0g (J5 S Q m Z (tw (S m) z.1) (tw (S m) z.2))
theorem a7S (L : Lay c ps m S Q T) (hl : ps.length ≤ 9) (fs : Option FS) (e0 : FSt [.tup [.bl c, .tup (ps.map pt)]] fs = some (.lst (T.map fr), fs)) (mp : 0 < S m) {ks : List Int} (hk : ∀ k ∈ ks, 1 ≤ k ∧ k ≤ 5) (k6 : ks.length ≤ 6) (k1 : 1 ≤ ks.length) {o : Int} (o0 : 0 ≤ o) (o1 : o ≤ 20) :
  FMo [.tup [.bl c, .tup (ps.map pt)], .tup ((ks.map (tw (S m))).map fr), fr (tw (S m) o)] fs = some (.lst ((C7 ks o).map (mpD S Q m (ps.zip T))), fs) := by
 have e := a2O (L.sz m (Nat.le_refl _)) mp fs (.tup [.bl c, .tup (ps.map pt)]) hk k6 k1 o0 o1 (pll L fs e0)
 have ml := a5I (ks := ks) 60 (bg0 ks o) 0
 have cm := a5B (idx := [0]) (sl := [.val (.tup [.bl c, .tup (ps.map pt)]), .val (.tup ((ks.map (tw (S m))).map fr)), .val (fr (tw (S m) o))]) (fe := c9 FPo (a7 (dV 2) (a7 (dV 0) (a7 (dV 1) a8)))) fs (fun z : Int × Int => fr (tw (S m) z.1)) (fun z => fr (tw (S m) z.2)) (mpD S Q m (ps.zip T)) (C7 ks o) fun z hz => by
  obtain ⟨⟨a1, a2⟩, a3, a4⟩ := a4Q _ _ _ z hz
  exact k9 rfl (a8F L hl fs e0 (L.in24 a1 a2) (L.in24 a3 a4))
 exact m5 (s := ⟨[.val (.tup [.bl c, .tup (ps.map pt)]), .val (.tup ((ks.map (tw (S m))).map fr)), .val (fr (tw (S m) o))], fs⟩) (o6 (A7 (Z6 (idx := [0]) (ds := (C7 ks o).map (mkD (S m))) (s1 := ⟨[.val (.tup [.bl c, .tup (ps.map pt)]), .val (.tup ((ks.map (tw (S m))).map fr)), .val (fr (tw (S m) o))], fs⟩) (a4h (k9 rfl e)) (J2 (by rw [List.length_map]; unfold C7; omega)) cm)))
end T
namespace T
open PySem L2 DL
variable {c : Bool} {ps : List Pt} {cD : D} {φ : Pt → Pt} {q : Rat} {m : Nat} {S S' : Nat → Rat} {Q Q' : Nat → Pt × Pt} {T : List Rat}
noncomputable abbrev WRt : DFn := a33 L7 WPr FCp LDw FMo FCl FMl FLl WSh WSu
noncomputable abbrev lRt : DM := a1l L7 WPr FCp LDw FMo FCl FMl FLl WSh WSu
theorem b4a (a : Pt) : pNe (pt a) (pt a) = some (.bl false) := (a0d (pX a, pY a, pL a) (pX a, pY a, pL a)).trans (by rw [decide_eq_true rfl]; rfl)
structure Both (cD : D) (c : Bool) (ps : List Pt) (φ : Pt → Pt) (q : Rat) (m : Nat) (S : Nat → Rat) (Q : Nat → Pt × Pt) (S' : Nat → Rat) (Q' : Nat → Pt × Pt) (T : List Rat) : Prop where
 C : Chg cD φ q
 hx : ExS c ps
 hx' : ExS c (ps.map φ)
 W : Two c ps φ q m S Q S' Q' T
 st : ∀ fs, FSt [.tup [.bl c, .tup (ps.map pt)]] fs = some (.lst (T.map fr), fs)
 st' : ∀ fs, FSt [.tup [.bl c, .tup ((ps.map φ).map pt)]] fs = some (.lst ((T.map (q * ·)).map fr), fs)
 sm : ∀ fs, WSu [.tup [.bl c, .tup (ps.map pt)]] fs = some (.lst (T.map fr), fs)
 mp : 0 < S m
theorem Both.em (B : Both cD c ps φ q m S Q S' Q' T) : S' m = q * S m := B.W.s m (Nat.le_refl _)
theorem Both.mp' (B : Both cD c ps φ q m S Q S' Q' T) : 0 < S' m := by
 rw [B.em]
 exact Rat.mul_pos B.C.q0 B.mp
theorem Both.hl' (B : Both cD c ps φ q m S Q S' Q' T) : (ps.map φ).length ≤ 9 := by
 rw [List.length_map]
 exact B.hx.hi
theorem Both.look (B : Both cD c ps φ q m S Q S' Q' T) (x0 x5 x6 x8 x9 x10 x11 x13 : Sl) (f : FS) {a b o : Int} (ha : a.natAbs < 128) (hb : b.natAbs < 128) (hb0 : b ≠ 0) (e : a * 24 = o * b) (o0 : 0 ≤ o) (o1 : o ≤ 24) :
  ∃ y13, lRt ⟨[x0, .val (.tup [.bl c, .tup (ps.map pt)]), .val cD, .val (fr q), .val (fr (S m)), x5, x6, .val (.tup [.bl c, .tup ((ps.map φ).map pt)]), x8, x9, x10, x11, .val (.tup [.int a, .int b]), x13], some f⟩ = some (.next, ⟨[x0, .val (.tup [.bl c, .tup (ps.map pt)]), .val cD, .val (fr q), .val (fr (S m)), x5, x6, .val (.tup [.bl c, .tup ((ps.map φ).map pt)]), x8, x9, x10, x11, .val (.tup [.int a, .int b]), y13], some f⟩) := by
 have L := B.W.L
 have L' := B.W.L'
 have sM := L.sz m (Nat.le_refl _)
 have p1 := a3G sM (some f) ha hb hb0 e
 have zo := G1 sM (k := o) (by omega)
 have p2 := a0G (tw (S m) o) q (some f) zo B.C.qz (by decide)
 have io := L.in24 o0 o1
 have io' := L'.in24 o0 o1
 have eo : tw (S' m) o = q * tw (S m) o := by rw [B.em, a1r]
 rw [Rat.mul_comm, ← eo] at p2
 have e1 := a0R L B.hx.hi (some f) (B.st _) io
 have e2 := a0R L' B.hl' (some f) (B.st' _) io'
 rw [eo, B.W.at_ B.C] at e2
 obtain ⟨n, hn, g1, g2, _⟩ := a1i L B.hx.hi (some f) (B.st _) io.sz io.hi
 have pz : PtS 864 (atL S Q m (tw (S m) o)) := by
  show PtS 864 (G4 S Q (tw (S m) o) (Q 0).1 m)
  rw [a1I L hn g1 io.lo g2]
  obtain ⟨a1, a2⟩ := L.pz n hn
  exact a4g a1 a2 (L.sh_sz io.sz hn)
 have e3 := B.C.pl 864 _ (some f) pz (by decide)
 have ne := b4a (φ (atL S Q m (tw (S m) o)))
 rw [← eo] at e2
 generalize φ (atL S Q m (tw (S m) o)) = A at *
 generalize atL S Q m (tw (S m) o) = A0 at *
 generalize D.tup [.bl c, .tup (ps.map pt)] = Ln at *
 generalize D.tup [.bl c, .tup ((ps.map φ).map pt)] = Ln' at *
 refine ⟨.val (fr (tw (S m) o)), ?_⟩
 show a1l L7 WPr FCp LDw FMo FCl FMl FLl WSh WSu _ = _
 unfold a1l
 rw [i8 (s1 := ⟨[x0, .val Ln, .val cD, .val (fr q), .val (fr (S m)), x5, x6, .val Ln', x8, x9, x10, x11, .val (.tup [.int a, .int b]), .val (fr (tw (S m) o))], some f⟩) (l6 (k9 rfl p1) rfl)]
 exact D8 (y8 (c6 (k9 (j8 rfl (j8 (k9 rfl p2) rfl)) e2) (k9 (j8 rfl (j8 (k9 rfl e1) rfl)) e3) ne))
theorem b0L (L : Lay c ps m S Q T) (hx : ExS c ps) (e0 : ∀ fs, FSt [.tup [.bl c, .tup (ps.map pt)]] fs = some (.lst (T.map fr), fs)) {b e : Rat} (hb : In (S m) b) (he : In (S m) e) : (∀ p ∈ J5 S Q m (ps.zip T) b e, PtS 864 p) ∧ (J5 S Q m (ps.zip T) b e).length ≤ 50 := by
 have at_ : ∀ {x : Rat}, In (S m) x → PtS 864 (atL S Q m x) := fun {x} h => by
  obtain ⟨n, hn, g1, g2, _⟩ := a1i L hx.hi none (e0 _) h.sz h.hi
  show PtS 864 (G4 S Q x (Q 0).1 m)
  rw [a1I L hn g1 h.lo g2]
  obtain ⟨a1, a2⟩ := L.pz n hn
  exact a4g a1 a2 (L.sh_sz h.sz hn)
 have sl := a1g b e (ps.zip T)
 have hi := hx.hi
 have zl : (ps.zip T).length ≤ 9 := by rw [List.length_zip]; omega
 refine ⟨fun p hp => ?_, by rw [List.length_append, List.length_append, List.length_singleton, List.length_singleton]; omega⟩
 rcases List.mem_append.mp hp with hp | hp
 ·rcases List.mem_append.mp hp with hp | hp
  ·rw [List.mem_singleton.mp hp]
   exact at_ hb
  ·obtain ⟨z, hz, rfl⟩ := a5q hp
   obtain ⟨i, hi⟩ := List.getElem?_of_mem hz
   have := hx.sz _ (List.mem_of_getElem? (a23 L hi).1)
   exact ⟨this.1.mono (by decide), this.2.mono (by decide)⟩
 ·rw [List.mem_singleton.mp hp]
  exact at_ he
theorem a81 {f : DA} {s s1 : DS} {ds : List D} (h : f s = some (ds, s1)) (hz : ds.length ≤ 100) : p9 f s = some (ds, s1) := by
 unfold p9
 rw [h, Option.bind_some, if_pos (J2 hz)]
theorem b1u (B : Both cD c ps φ q m S Q S' Q' T) {n : Nat} {f : FS} (h : Fd3 n f) (hn : n < 2 ^ 27) : ∃ f', WRt [.feed, .tup [.bl c, .tup (ps.map pt)], cD] (some f) = some (.bl true, some f') ∧ Fd3 (n + 9) f' := by
 have L := B.W.L
 have L' := B.W.L'
 have sM := L.sz m (Nat.le_refl _)
 have sM' := L'.sz m (Nat.le_refl _)
 obtain ⟨ks, o, f1, e1, k2, k6, kb, o0, o1, h1⟩ := b3n sM h (by omega)
 obtain ⟨j, f2, e2, j1, j2, h2⟩ := C4 11 h1
 have la := L.lst_at
 have cl := a6l B.C (k := 200) (by decide) (some f1) B.hx.sz (Nat.le_trans B.hx.hi (by decide)) c
 have ll := pll L' (some f1) (B.st' _)
 have pM := a0G (S m) q (some f1) sM B.C.qz (by decide)
 rw [Rat.mul_comm, ← B.em] at pM
 have rM := (Ok.fr sM').repr
 have em : ∀ k, tw (S m) k * q = tw (S' m) k := fun k => by rw [B.em, a1r, Rat.mul_comm]
 have ptw : ∀ k : Int, k.natAbs < 128 → WPr [fr (tw (S m) k), fr q] (some f1) = some (fr (tw (S' m) k), some f1) := fun k hk => by
  have := a0G (tw (S m) k) q (some f1) (G1 sM hk) B.C.qz (by decide)
  rwa [em] at this
 have cw := a3O (caps := [.val (fr q)]) (fe := c9 WPr (a7 (dV 0) (a7 (dV 1) a8))) (some f1) (fun k => fr (tw (S m) k)) (fun k => fr (tw (S' m) k)) ks fun k hk => k9 rfl (ptw k (by have := kb k hk; omega))
 have po := ptw o (by omega)
 have m1 := a2O sM B.mp (some f1) (.tup [.bl c, .tup (ps.map pt)]) kb k6 (by omega) o0 o1 (pll L _ (B.st _))
 have m2 := a2O sM' B.mp' (some f1) (.tup [.bl c, .tup ((ps.map φ).map pt)]) kb k6 (by omega) o0 o1 ll
 have mo1 := a7S L B.hx.hi (some f1) (B.st _) B.mp kb k6 (by omega) o0 o1
 have mo2 := a7S L' B.hl' (some f1) (B.st' _) B.mp' kb k6 (by omega) o0 o1
 have ml := a5I (ks := ks) 60 (bg0 ks o) 0
 have ml : (C7 ks o).length ≤ 60 := ml
 have mi : ∀ z ∈ C7 ks o, (0 ≤ z.1 ∧ z.1 ≤ 24) ∧ 0 ≤ z.2 ∧ z.2 ≤ 24 := fun z hz => a4Q _ _ _ z hz
 have cd := a5B (idx := [3]) (sl := [.val .feed, .val (.tup [.bl c, .tup (ps.map pt)]), .val cD, .val (fr q), .val (fr (S m)), .val (.tup ((ks.map (tw (S m))).map fr)), .val (fr (tw (S m) o)), .val (.tup [.bl c, .tup ((ps.map φ).map pt)]), .val (.tup ((ks.map (tw (S' m))).map fr)), .val (fr (tw (S' m) o)), .no, .no, .no, .no]) (fe := e8 (a7 (c9 WPr (a7 (dV 0) (a7 (dV 2) a8))) (a7 (c9 WPr (a7 (dV 1) (a7 (dV 2) a8))) a8))) (some f1) (fun z : Int × Int => fr (tw (S m) z.1)) (fun z => fr (tw (S m) z.2)) (mkD (S' m)) (C7 ks o) fun z hz => by
  obtain ⟨⟨a1, a2⟩, a3, a4⟩ := mi z hz
  exact u9 (k9 rfl (ptw z.1 (by omega))) (k9 rfl (ptw z.2 (by omega)))
 have okd := (Ok.lst (OkL.all (k := 2) (n := 6) (ds := (C7 ks o).map (mkD (S' m))) fun d hd => by
  obtain ⟨z, hz, rfl⟩ := List.mem_map.mp hd
  obtain ⟨⟨a1, a2⟩, a3, a4⟩ := mi z hz
  exact (Ok.tup (OkL.cons (Ok.fr (G1 sM' (by omega))) (OkL.cons (Ok.fr (G1 sM' (by omega))) OkL.nil))).mono (by decide) (by decide))).repr (by decide) (by rw [List.length_map]; omega)
 have ep : ∀ z : Int × Int, a0g ((J5 S Q m (ps.zip T) (tw (S m) z.1) (tw (S m) z.2)).map φ) = mpD S' Q' m ((ps.map φ).zip (T.map (q * ·))) z := fun z => by
  unfold mpD
  rw [B.em, a1r, a1r, B.W.part B.C]
 have cp := a3O (caps := [.val cD]) (fe := c9 FCl (a7 (dV 1) (a7 (dV 0) a8))) (some f1) (mpD S Q m (ps.zip T)) (mpD S' Q' m ((ps.map φ).zip (T.map (q * ·)))) (C7 ks o) fun z hz => by
  obtain ⟨⟨a1, a2⟩, a3, a4⟩ := mi z hz
  obtain ⟨s1, s2⟩ := b0L L B.hx B.st (L.in24 a1 a2) (L.in24 a3 a4)
  rw [← ep]
  exact k9 rfl (a6l B.C (k := 864) (by decide) (some f1) s1 s2 false)
 have okp := (Ok.lst (OkL.all (k := 3) (n := 100) (ds := (C7 ks o).map (mpD S' Q' m ((ps.map φ).zip (T.map (q * ·))))) fun d hd => by
  obtain ⟨z, hz, rfl⟩ := List.mem_map.mp hd
  obtain ⟨⟨a1, a2⟩, a3, a4⟩ := mi z hz
  exact b4l L' B.hx' (B.st' _) (L'.in24 a1 a2) (L'.in24 a3 a4))).repr (by decide) (by rw [List.length_map]; omega)
 have cw' : w9 (fun d => some (.val d :: [.val (fr q)])) w8 (c9 WPr (a7 (dV 0) (a7 (dV 1) a8))) ((ks.map (tw (S m))).map fr) (some f1) = some ((ks.map (tw (S' m))).map fr, some f1) := by
  rw [List.map_map, List.map_map]
  exact cw
 have pl : ((ks.map (tw (S m))).map fr).length ≤ 100 := by rw [List.length_map, List.length_map]; omega
 have l1 : ((C7 ks o).map (mkD (S m))).length ≤ 100 := by rw [List.length_map]; omega
 have l3 : ((C7 ks o).map (mpD S Q m (ps.zip T))).length ≤ 100 := by rw [List.length_map]; omega
 have lk := fun (x5 x6 x8 x9 x10 x11 x13 : Sl) (a b o : Int) => B.look (.val .feed) x5 x6 x8 x9 x10 x11 x13 f2 (a := a) (b := b) (o := o)
 have sm := B.sm (some f)
 have qe := B.C.qe
 generalize (ks.map (tw (S m))).map fr = P at *
 generalize (ks.map (tw (S' m))).map fr = P' at *
 generalize (C7 ks o).map (mpD S Q m (ps.zip T)) = R3 at *
 generalize (C7 ks o).map (mpD S' Q' m ((ps.map φ).zip (T.map (q * ·)))) = R4 at *
 have cd2 : w9 (mk2 [3] [.val .feed, .val (.tup [.bl c, .tup (ps.map pt)]), .val cD, .val (fr q), .val (fr (S m)), .val (.tup P), .val (fr (tw (S m) o)), .val (.tup [.bl c, .tup ((ps.map φ).map pt)]), .val (.tup P'), .val (fr (tw (S' m) o)), .no, .no, .no, .no]) w8 (e8 (a7 (c9 WPr (a7 (dV 0) (a7 (dV 2) a8))) (a7 (c9 WPr (a7 (dV 1) (a7 (dV 2) a8))) a8))) ((C7 ks o).map (mkD (S m))) (some f1) = some ((C7 ks o).map (mkD (S' m)), some f1) := cd
 generalize (C7 ks o).map (mkD (S m)) = R1 at *
 generalize (C7 ks o).map (mkD (S' m)) = R2 at *
 generalize hLn : D.tup [.bl c, .tup (ps.map pt)] = Ln at *
 generalize hLn' : D.tup [.bl c, .tup ((ps.map φ).map pt)] = Ln' at *
 generalize fr (tw (S m) o) = O at *
 generalize fr (tw (S' m) o) = O' at *
 generalize fr (S m) = M at *
 generalize fr (S' m) = M' at *
 generalize fr q = q0 at *
 obtain ⟨s', lp, x12, x13, rfl⟩ := a0B (t := e7 12) (b := lRt) (fun _ s => ∃ x12 x13, s = ⟨[.val .feed, .val Ln, .val cD, .val q0, .val M, .val (.tup P), .val O, .val Ln', .val (.tup P'), .val O', .own R2, .own R4, x12, x13], some f2⟩) [.tup [.int 0, .int 1], .tup [.int 1, .int 2], .tup [.int (1 + j), .int 12], .tup [.int 1, .int 1]] 0 ⟨[.val .feed, .val Ln, .val cD, .val q0, .val M, .val (.tup P), .val O, .val Ln', .val (.tup P'), .val O', .own R2, .own R4, .no, .no], some f2⟩ ⟨.no, .no, rfl⟩ (by
  rintro i d s hd ⟨x12, x13, rfl⟩
  have key : ∃ a b o : Int, d = .tup [.int a, .int b] ∧ a.natAbs < 128 ∧ b.natAbs < 128 ∧ b ≠ 0 ∧ a * 24 = o * b ∧ 0 ≤ o ∧ o ≤ 24 := by
   have hm := List.mem_of_getElem? hd
   rcases List.mem_cons.mp hm with z | hm
   ·exact ⟨0, 1, 0, z, by decide, by decide, by decide, by decide, by decide, by decide⟩
   ·rcases List.mem_cons.mp hm with z | hm
    ·exact ⟨1, 2, 12, z, by decide, by decide, by decide, by decide, by decide, by decide⟩
    ·rcases List.mem_cons.mp hm with z | hm
     ·exact ⟨1 + j, 12, 2 * (1 + j), z, by omega, by decide, by decide, by omega, by omega, by omega⟩
     ·exact ⟨1, 1, 24, List.mem_singleton.mp hm, by decide, by decide, by decide, by decide, by decide, by decide⟩
  obtain ⟨a, b, o, rfl, k1, k2, k3, k4, k5, k6⟩ := key
  obtain ⟨y13, e⟩ := lk (.val (.tup P)) (.val O) (.val (.tup P')) (.val O') (.own R2) (.own R4) x13 a b o k1 k2 k3 k4 k5 k6
  exact ⟨_, _, rfl, .inl e, _, y13, rfl⟩)
 have it : p7 (p9 (a7 (e8 (a7 (dC (.int 0)) (a7 (dC (.int 1)) a8))) (a7 (e8 (a7 (dC (.int 1)) (a7 (dC (.int 2)) a8))) (a7 (e8 (a7 (dOp n9 (dC (.int 1)) (c9 LDw (a7 (dV 0) (a7 (dC (.int 11)) a8)))) (a7 (dC (.int 12)) a8))) (a7 (e8 (a7 (dC (.int 1)) (a7 (dC (.int 1)) a8))) a8))))) ⟨[.val .feed, .val Ln, .val cD, .val q0, .val M, .val (.tup P), .val O, .val Ln', .val (.tup P'), .val O', .own R2, .own R4, .no, .no], some f1⟩ = some (.lst [.tup [.int 0, .int 1], .tup [.int 1, .int 2], .tup [.int (1 + j), .int 12], .tup [.int 1, .int 1]], ⟨[.val .feed, .val Ln, .val cD, .val q0, .val M, .val (.tup P), .val O, .val Ln', .val (.tup P'), .val O', .own R2, .own R4, .no, .no], some f2⟩) :=
  A7 (a81 (j8 (u9 rfl rfl) (j8 (u9 rfl rfl) (j8 (u9 (c6 rfl (t9 rfl e2) rfl) rfl) (j8 (u9 rfl rfl) rfl)))) (show 4 ≤ 100 by decide))
 refine ⟨f2, m5 (s := ⟨[.val .feed, .val Ln, .val cD, .val q0, .val M, .val (.tup P), .val O, .val Ln', .val (.tup P'), .val O', .own R2, .own R4, x12, x13], some f2⟩) ?_, h2⟩
 show a1M L7 WPr FCp LDw FMo FCl FMl FLl WSh WSu ⟨[.val .feed, .val Ln, .val cD, .no, .no, .no, .no, .no, .no, .no, .no, .no, .no, .no], some f⟩ = _
 unfold a1M
 rw [i8 (s1 := ⟨[.val .feed, .val Ln, .val cD, .val q0, .no, .no, .no, .no, .no, .no, .no, .no, .no, .no], some f⟩) (l6 (qe ⟨[.val .feed, .val Ln, .val cD, .no, .no, .no, .no, .no, .no, .no, .no, .no, .no, .no], some f⟩ rfl) rfl),
  i8 (s1 := ⟨[.val .feed, .val Ln, .val cD, .val q0, .val M, .no, .no, .no, .no, .no, .no, .no, .no, .no], some f⟩) (l6 (c6 (k9 rfl sm) rfl (B4 la)) rfl),
  i8 (s1 := ⟨[.val .feed, .val Ln, .val cD, .val q0, .val M, .val (.tup P), .val O, .no, .no, .no, .no, .no, .no, .no], some f1⟩) (l6 (t9 rfl e1) rfl),
  i8 (s1 := ⟨[.val .feed, .val Ln, .val cD, .val q0, .val M, .val (.tup P), .val O, .val Ln', .no, .no, .no, .no, .no, .no], some f1⟩) (l6 (k9 rfl cl) rfl),
  i8 (s1 := ⟨[.val .feed, .val Ln, .val cD, .val q0, .val M, .val (.tup P), .val O, .val Ln', .no, .no, .no, .no, .no, .no], some f1⟩) (D8 (y8 (c6 (C5 (p := E1) (k9 rfl ll) rM) (C5 (p := E1) (k9 rfl pM) rM) (a3e _)))),
  i8 (s1 := ⟨[.val .feed, .val Ln, .val cD, .val q0, .val M, .val (.tup P), .val O, .val Ln', .val (.tup P'), .no, .no, .no, .no, .no], some f1⟩) (l6 (C5 (p := D5) (A7 (U2 (idx := [3]) (ds := P) (R := P') (s1 := ⟨[.val .feed, .val Ln, .val cD, .val q0, .val M, .val (.tup P), .val O, .val Ln', .no, .no, .no, .no, .no, .no], some f1⟩) rfl (J2 pl) cw')) rfl) rfl),
  i8 (s1 := ⟨[.val .feed, .val Ln, .val cD, .val q0, .val M, .val (.tup P), .val O, .val Ln', .val (.tup P'), .val O', .no, .no, .no, .no], some f1⟩) (l6 (k9 rfl po) rfl),
  i8 (s1 := ⟨[.val .feed, .val Ln, .val cD, .val q0, .val M, .val (.tup P), .val O, .val Ln', .val (.tup P'), .val O', .own R2, .no, .no, .no], some f1⟩) (D4 (s1 := ⟨[.val .feed, .val Ln, .val cD, .val q0, .val M, .val (.tup P), .val O, .val Ln', .val (.tup P'), .val O', .no, .no, .no, .no], some f1⟩) (Z6 (idx := [3]) (ds := R1) (s1 := ⟨[.val .feed, .val Ln, .val cD, .val q0, .val M, .val (.tup P), .val O, .val Ln', .val (.tup P'), .val O', .no, .no, .no, .no], some f1⟩) (a4h (k9 rfl m1)) (J2 l1) cd2) (show 10 < 14 by decide)),
  i8 (s1 := ⟨[.val .feed, .val Ln, .val cD, .val q0, .val M, .val (.tup P), .val O, .val Ln', .val (.tup P'), .val O', .own R2, .no, .no, .no], some f1⟩) (D8 (y8 (c6 (C5 (p := E1) (k9 rfl m2) okd) (C5 (p := E1) rfl okd) (a3e _)))),
  i8 (s1 := ⟨[.val .feed, .val Ln, .val cD, .val q0, .val M, .val (.tup P), .val O, .val Ln', .val (.tup P'), .val O', .own R2, .own R4, .no, .no], some f1⟩) (D4 (s1 := ⟨[.val .feed, .val Ln, .val cD, .val q0, .val M, .val (.tup P), .val O, .val Ln', .val (.tup P'), .val O', .own R2, .no, .no, .no], some f1⟩) (U2 (idx := [2]) (ds := R3) (R := R4) (s1 := ⟨[.val .feed, .val Ln, .val cD, .val q0, .val M, .val (.tup P), .val O, .val Ln', .val (.tup P'), .val O', .own R2, .no, .no, .no], some f1⟩) (a4h (k9 rfl mo1)) (J2 l3) cp) (show 11 < 14 by decide)),
  i8 (s1 := ⟨[.val .feed, .val Ln, .val cD, .val q0, .val M, .val (.tup P), .val O, .val Ln', .val (.tup P'), .val O', .own R2, .own R4, .no, .no], some f1⟩) (D8 (y8 (c6 (C5 (p := E1) (k9 rfl mo2) okp) (C5 (p := E1) rfl okp) (a3e _)))),
  i8 ((a2E it).trans lp)]
 exact o6 rfl
noncomputable abbrev C56 : DM := a0T WRt WCh WEx U7
theorem a8G {n : Nat} {f : FS} (h : Fd3 n f) (hn : n < 2 ^ 24) (x0 x2 x3 : Sl) : ∃ y3 f', C56 ⟨[x0, .val .feed, x2, x3], some f⟩ = some (.next, ⟨[x0, .val .feed, x2, y3], some f'⟩) ∧ Fd3 (n + 43) f' := by
 obtain ⟨c, ps, f1, e1, hx, ht, h1⟩ := a89 3 (by decide) h (by omega)
 obtain ⟨cD, φ, q, f2, e2, C, h2⟩ := b3C h1 (by omega)
 obtain ⟨m, S, Q, L⟩ := a7b hx
 obtain ⟨S', Q', W⟩ := C.two hx ht L
 have hx' := C.exS hx ht
 have st' := fun fs => a6m hx' fs
 rw [C.stns ht] at st'
 have mp : 0 < S m := by
  have := L.lt (i := 0) (j := m) L.m1 (Nat.le_refl _)
  rwa [L.z] at this
 obtain ⟨f3, e3, h3⟩ := b1u ⟨C, hx, hx', W, fun fs => a6m hx fs, st', fun fs => b14 hx fs, mp⟩ h2 (by omega)
 generalize D.tup [.bl c, .tup (ps.map pt)] = Ln at *
 refine ⟨.val Ln, f3, ?_, h3.mono (by omega)⟩
 show a0T WRt WCh WEx U7 _ = _
 unfold a0T
 rw [i8 (s1 := ⟨[x0, .val .feed, x2, .val Ln], some f1⟩) (l6 (t9 rfl e1) rfl)]
 exact D8 (b1P (M3 (a5T (sl' := [x0, .val .feed, x2, .val Ln]) (j8 rfl (j8 rfl (j8 (t9 rfl e2) rfl))) e3)))
noncomputable abbrev b3A : DFn := a4F WRt WCh WEx U7
theorem math (ns : List Int) (hl : ns.length ≤ 63) : ∃ fs', b3A [.scr ns] none = some (.bl true, fs') := by
 have e0 := b1D ns
 obtain ⟨s', lp, x2, x3, f', rfl, I⟩ := a0B (t := e7 2) (b := C56) (fun i s => ∃ x2 x3 f', s = ⟨[.val (.scr ns), .val .feed, x2, x3], some f'⟩ ∧ Fd3 (43 * i) f') (ups 0 2) 0 ⟨[.val (.scr ns), .val .feed, .no, .no], some ⟨ns, 0, 0, 0, 1⟩⟩
  ⟨.no, .no, _, rfl, Fd3.zero ns⟩ (by
   rintro i d s hd ⟨x2, x3, f', rfl, I⟩
   obtain ⟨rfl, hi⟩ := a2s hd
   rw [Nat.zero_add] at *
   obtain ⟨y3, f'', e, I'⟩ := a8G I (by omega) (.val (.scr ns)) (.val (.int ((0 : Int) + i))) x3
   exact ⟨⟨[.val (.scr ns), .val .feed, .val (.int ((0 : Int) + i)), x3], some f'⟩, _, rfl, .inl e, _, y3, f'', rfl, I'.mono (by omega)⟩)
 refine ⟨some f', m5 (s := ⟨[.val (.scr ns), .val .feed, x2, x3], some f'⟩) ?_⟩
 show a2U WRt WCh WEx U7 ⟨[.val (.scr ns), .no, .no, .no], none⟩ = _
 unfold a2U
 rw [i8 (s1 := ⟨[.val (.scr ns), .val .feed, .no, .no], some ⟨ns, 0, 0, 0, 1⟩⟩) (l6 (t9 rfl e0) rfl),
  i8 ((a6j (xs := [.int 2]) (s1 := ⟨[.val (.scr ns), .val .feed, .no, .no], some ⟨ns, 0, 0, 0, 1⟩⟩) rfl (a1B (n := 2) (by decide))).trans lp)]
 exact o6 rfl
end T
namespace T
open PySem PySem.Spec L2 DL
noncomputable def top (i : Nat) : Stmt := PySem.Challenge.pw_widelines_k56_whole_marks_of_changed_lin.main.body.getD i (.Pass ⟨0, 0, 0, 0⟩)
noncomputable abbrev a2p : Stmt := top 44
theorem sc_law_new_tape : FnScope ["_law_script"] ["_law_script"] (l7 a2p) := ⟨rfl, rfl, rfl, by decide +kernel, rfl, by decide +kernel, by decide +kernel⟩
set_option maxHeartbeats 4000000 in
section
variable {P : Program} {w : World} {K : PySem.W.Frag} {mg : Str → Option Value} {base : Heap}
theorem b3E {f : Addr} {fd : FuncData} (B : Blt mg) (F : GF K mg "_law_new_tape" a2p f fd) : Cal P w K mg base 1 "_law_new_tape" ["_law_script"] (U7) :=
 o7 F (fun _ _ _ _ _ _ => on1 fun _ => rfl) sc_law_new_tape fun cdv A outer s H E g hr =>
  have nd := sc_law_new_tape.nd
  (j9 (l8 (a91 (pv 0))))
noncomputable abbrev a3E : Stmt := top 45
theorem sc_law_draw : FnScope ["_law_tape", "_law_many", "_law_found", "_law_spot_here", "_law_cell", "_law_seed"] ["_law_tape", "_law_many"] (l7 a3E) := ⟨rfl, rfl, rfl, by decide +kernel, rfl, by decide +kernel, by decide +kernel⟩
set_option maxHeartbeats 4000000 in
theorem b2G {f : Addr} {fd : FuncData} (B : Blt mg) (F : GF K mg "_law_draw" a3E f fd) : Cal P w K mg base 1 "_law_draw" ["_law_tape", "_law_many"] (L3) :=
 o7 F (fun _ _ _ _ _ _ => on2 fun _ _ => rfl) sc_law_draw fun cdv A outer s H E g hr =>
  have nd := sc_law_draw.nd
  (i9 (B6 (v5 Y4 (F7 (fun i j => decide (j < i))) (EO.b (R9 (pv 0))) (EO.b a9) (v3 _)) (i9 (l5 (i := 2) nd rfl (by first | exact Or.inl rfl | exact Or.inr rfl) (j7 J4 K4 (EO.b (R9 (pv 0))) (c5 (pv 1)))) (i9 (a2M (pv 0) (j7 D2 D3 (EO.b (R9 (pv 0))) (c5 (pv 1)))) (j9 (l8 (c8 (pv 2)))))) B9) (i9 (l5 (i := 3) nd rfl (by first | exact Or.inl rfl | exact Or.inr rfl) (R9 (pv 0))) (i9 (a2M (pv 0) (j7 B1 B2 (c5 (pv 3)) (EO.b a9))) (i9 (l5 (i := 4) nd rfl (by first | exact Or.inl rfl | exact Or.inr rfl) a9) (i9 (B6 (v5 Y4 (F7 (fun i j => decide (j < i))) (EO.b (D0 Q5 O9 (by rfl) B.len Q0 (bc (EO.b (R9 (pv 0))) v6))) (EO.b a9) (v3 _)) (j9 (l5 (i := 4) nd rfl (by first | exact Or.inl rfl | exact Or.inr rfl) (i5 i7 i6 (EO.b (R9 (pv 0))) (EO.b (j7 J4 K4 (c5 (pv 3)) (EO.b (D0 Q5 O9 (by rfl) B.len Q0 (bc (EO.b (R9 (pv 0))) v6))))) (fun _ _ => rfl)))) B9) (i9 (B6 (WO.t (a4q (v5 a8J (F7 (fun i j => decide (j ≤ i))) (c5 (pv 4)) (EO.b (j7 a5C a6c (EO.b a9) (EO.b a9))) (v3 _)) (a2r (v5 V5 (F7 (fun i j => decide (i < j))) (c5 (pv 3)) (EO.b (D0 Q5 O9 (by rfl) B.len Q0 (bc (EO.b (R9 (pv 0))) v6))) (v3 _))))) (i9 (a2M (pv 0) (j7 D2 D3 (c5 (pv 4)) (c5 (pv 1)))) (j9 (l8 (j7 J4 K4 (c5 (pv 4)) (c5 (pv 1)))))) B9) (i9 (l5 (i := 5) nd rfl (by first | exact Or.inl rfl | exact Or.inr rfl) (j7 J4 K4 (EO.b (j7 m6 m7 (EO.b (j7 B1 B2 (EO.b (j7 B1 B2 (EO.b (j7 J4 K4 (c5 (pv 4)) (EO.b a9))) (EO.b (j7 m6 m7 (EO.b (j7 m6 m7 (EO.b a9) (c5 (pv 3)))) (c5 (pv 3)))))) (EO.b a9))) (EO.b a9))) (EO.b a9))) (j9 (l8 (j7 J4 K4 (EO.b (j7 D2 D3 (EO.b (j7 J4 K4 (EO.b (j7 m6 m7 (EO.b (j7 J4 K4 (EO.b (j7 B1 B2 (EO.b (j7 m6 m7 (c5 (pv 5)) (EO.b a9))) (EO.b (j7 m6 m7 (c5 (pv 3)) (EO.b a9))))) (EO.b a9))) (EO.b a9))) (EO.b a9))) (EO.b a9))) (c5 (pv 1))))))))))))
noncomputable abbrev a3f : Stmt := top 54
theorem sc_law_start : FnScope ["_law_tape", "_law_some", "_law_x"] ["_law_tape"] (l7 a3f) := ⟨rfl, rfl, rfl, by decide +kernel, rfl, by decide +kernel, by decide +kernel⟩
set_option maxHeartbeats 4000000 in
theorem b0k {m_law_draw : DFn} (C_law_draw : Cal P w K mg base 1 "_law_draw" ["_law_tape", "_law_many"] m_law_draw) {f : Addr} {fd : FuncData} (B : Blt mg) (F : GF K mg "_law_start" a3f f fd) : Cal P w K mg base 2 "_law_start" ["_law_tape"] (a1a m_law_draw) :=
 o7 F (fun _ _ _ _ _ _ => on1 fun _ => rfl) sc_law_start fun cdv A outer s H E g hr =>
  have nd := sc_law_start.nd
  (i9 (F5 (i := 1) nd rfl (by first | exact Or.inl rfl | exact Or.inr rfl) (y9 (ac (j3 (ac a9 (ac a9 b6))) (ac (j3 (ac a9 (ac a9 b6))) (ac (j3 (ac (C0 B8 B7 (EO.b a9)) (ac a9 b6))) (ac (j3 (ac a9 (ac a9 b6))) (ac (j3 (ac (C0 B8 B7 (EO.b a9)) (ac a9 b6))) (ac (j3 (ac a9 (ac a9 b6))) b6)))))))) (i9 (l5 (i := 2) nd rfl (by first | exact Or.inl rfl | exact Or.inr rfl) (i5 i7 i6 (c5 (pv 1)) (EO.b (j6 C_law_draw _ hr (by decide) (by rfl) (ac (c8 (pv 0)) (ac a9 b6)) (c7 (c7 j4)))) (fun _ _ => rfl))) (j9 (l8 (j3 (ac (c8 (pv 2)) (ac (i5 i7 i6 (c5 (pv 1)) (EO.b (j6 C_law_draw _ hr (by decide) (by rfl) (ac (c8 (pv 0)) (ac a9 b6)) (c7 (c7 j4)))) (fun _ _ => rfl)) b6)))))))
noncomputable abbrev a4y : Stmt := top 46
theorem sc_law_divisor : FnScope ["_law_one", "_law_other"] ["_law_one", "_law_other"] (l7 a4y) := ⟨rfl, rfl, rfl, by decide +kernel, rfl, by decide +kernel, by decide +kernel⟩
set_option maxHeartbeats 4000000 in
theorem b1R {f : Addr} {fd : FuncData} (B : Blt mg) (F : GF K mg "_law_divisor" a4y f fd) : Cal P w K mg base 1 "_law_divisor" ["_law_one", "_law_other"] (F9) :=
 o7 F (fun _ _ _ _ _ _ => on2 fun _ _ => rfl) sc_law_divisor fun cdv A outer s H E g hr =>
  have nd := sc_law_divisor.nd
  (i9 (a4x (i := 0) (j := 1) rfl nd rfl rfl (by decide) rfl rfl (ac (D0 a1e a0I (by rfl) B.abs a1c (bc (c5 (pv 0)) v6)) (ac (D0 a1e a0I (by rfl) B.abs a1c (bc (c5 (pv 1)) v6)) b6)) rfl) (i9 (Q8 PassesOwn.never (v5 Y4 (F7 (fun i j => decide (j < i))) (c5 (pv 1)) (EO.b a9) (v3 _)) (j9 (a4x (i := 0) (j := 1) rfl nd rfl rfl (by decide) rfl rfl (ac (c8 (pv 1)) (ac (j7 J4 K4 (c5 (pv 0)) (c5 (pv 1))) b6)) rfl))) (j9 (l8 (c8 (pv 0))))))
noncomputable abbrev a3r : Stmt := top 47
theorem sc_law_low : FnScope ["_law_top", "_law_bottom", "_law_shared"] ["_law_top", "_law_bottom"] (l7 a3r) := ⟨rfl, rfl, rfl, by decide +kernel, rfl, by decide +kernel, by decide +kernel⟩
set_option maxHeartbeats 4000000 in
theorem b0D {m_law_divisor : DFn} (C_law_divisor : Cal P w K mg base 1 "_law_divisor" ["_law_one", "_law_other"] m_law_divisor) {f : Addr} {fd : FuncData} (B : Blt mg) (F : GF K mg "_law_low" a3r f fd) : Cal P w K mg base 2 "_law_low" ["_law_top", "_law_bottom"] (G8 m_law_divisor) :=
 o7 F (fun _ _ _ _ _ _ => on2 fun _ _ => rfl) sc_law_low fun cdv A outer s H E g hr =>
  have nd := sc_law_low.nd
  (i9 (l5 (i := 2) nd rfl (by first | exact Or.inl rfl | exact Or.inr rfl) (j6 C_law_divisor _ hr (by decide) (by rfl) (ac (c8 (pv 0)) (ac (c8 (pv 1)) b6)) (c7 (c7 j4)))) (i9 (B6 (v5 V5 (F7 (fun i j => decide (i < j))) (c5 (pv 1)) (EO.b a9) (v3 _)) (j9 (l5 (i := 2) nd rfl (by first | exact Or.inl rfl | exact Or.inr rfl) (C0 B8 B7 (c5 (pv 2))))) B9) (j9 (l8 (j3 (ac (j7 D2 D3 (c5 (pv 0)) (c5 (pv 2))) (ac (j7 D2 D3 (c5 (pv 1)) (c5 (pv 2))) b6)))))))
noncomputable abbrev a3H : Stmt := top 50
theorem sc_law_product : FnScope ["_law_one", "_law_other"] ["_law_one", "_law_other"] (l7 a3H) := ⟨rfl, rfl, rfl, by decide +kernel, rfl, by decide +kernel, by decide +kernel⟩
set_option maxHeartbeats 4000000 in
theorem b27 {m_law_low : DFn} (C_law_low : Cal P w K mg base 2 "_law_low" ["_law_top", "_law_bottom"] m_law_low) {f : Addr} {fd : FuncData} (B : Blt mg) (F : GF K mg "_law_product" a3H f fd) : Cal P w K mg base 3 "_law_product" ["_law_one", "_law_other"] (U8 m_law_low) :=
 o7 F (fun _ _ _ _ _ _ => on2 fun _ _ => rfl) sc_law_product fun cdv A outer s H E g hr =>
  have nd := sc_law_product.nd
  (j9 (l8 (j6 C_law_low _ hr (by decide) (by rfl) (ac (j7 m6 m7 (EO.b (i5 i7 i6 (c5 (pv 0)) (EO.b a9) (fun _ _ => rfl))) (EO.b (i5 i7 i6 (c5 (pv 1)) (EO.b a9) (fun _ _ => rfl)))) (ac (j7 m6 m7 (EO.b (i5 i7 i6 (c5 (pv 0)) (EO.b a9) (fun _ _ => rfl))) (EO.b (i5 i7 i6 (c5 (pv 1)) (EO.b a9) (fun _ _ => rfl)))) b6)) (c7 (c7 j4)))))
noncomputable abbrev a2e : Stmt := top 51
theorem sc_law_spot : FnScope ["_law_x", "_law_y", "_law_some", "_law_shared"] ["_law_x", "_law_y"] (l7 a2e) := ⟨rfl, rfl, rfl, by decide +kernel, rfl, by decide +kernel, by decide +kernel⟩
set_option maxHeartbeats 4000000 in
theorem a9q {m_law_divisor : DFn} (C_law_divisor : Cal P w K mg base 1 "_law_divisor" ["_law_one", "_law_other"] m_law_divisor) {f : Addr} {fd : FuncData} (B : Blt mg) (F : GF K mg "_law_spot" a2e f fd) : Cal P w K mg base 2 "_law_spot" ["_law_x", "_law_y"] (a1n m_law_divisor) :=
 o7 F (fun _ _ _ _ _ _ => on2 fun _ _ => rfl) sc_law_spot fun cdv A outer s H E g hr =>
  have nd := sc_law_spot.nd
  (i9 (l5 (i := 2) nd rfl (by first | exact Or.inl rfl | exact Or.inr rfl) (j3 (ac (j7 m6 m7 (EO.b (i5 i7 i6 (c5 (pv 0)) (EO.b a9) (fun _ _ => rfl))) (EO.b (i5 i7 i6 (c5 (pv 1)) (EO.b a9) (fun _ _ => rfl)))) (ac (j7 m6 m7 (EO.b (i5 i7 i6 (c5 (pv 1)) (EO.b a9) (fun _ _ => rfl))) (EO.b (i5 i7 i6 (c5 (pv 0)) (EO.b a9) (fun _ _ => rfl)))) (ac (j7 m6 m7 (EO.b (i5 i7 i6 (c5 (pv 0)) (EO.b a9) (fun _ _ => rfl))) (EO.b (i5 i7 i6 (c5 (pv 1)) (EO.b a9) (fun _ _ => rfl)))) b6))))) (i9 (l5 (i := 3) nd rfl (by first | exact Or.inl rfl | exact Or.inr rfl) (j6 C_law_divisor _ hr (by decide) (by rfl) (ac (j6 C_law_divisor _ hr (by decide) (by rfl) (ac (i5 i7 i6 (c5 (pv 2)) (EO.b a9) (fun _ _ => rfl)) (ac (i5 i7 i6 (c5 (pv 2)) (EO.b a9) (fun _ _ => rfl)) b6)) (c7 (c7 j4))) (ac (i5 i7 i6 (c5 (pv 2)) (EO.b a9) (fun _ _ => rfl)) b6)) (c7 (c7 j4)))) (j9 (l8 (L1 N4 N2 (by rfl) B.tuple M9 (bc (EO.b (FO.v (a0y (N' := ["_law_one", "_law_shared"]) (idx := [3]) rfl (R5 (by rfl) (.cons rfl .nil) (by decide +kernel) rfl (by decide +kernel) (by rfl) (.cons rfl (by first | exact Or.inl rfl | exact Or.inr rfl) (by first | exact Or.inl rfl | exact Or.inr rfl) .nil)) (L6 (c8 (pv 2))) (fun _ _ _ _ => t6 (i := 0) (show List.Nodup (["_law_one", "_law_shared"] : List Str) by decide +kernel) rfl (Or.inl rfl)) (fun _ _ _ _ _ => J3) (fun _ _ _ _ _ => (j7 D2 D3 (c5 (pv 0)) (c5 (pv 1))))))) v6))))))
noncomputable abbrev a2o : Stmt := top 48
theorem sc_law_plus : FnScope ["_law_one", "_law_other"] ["_law_one", "_law_other"] (l7 a2o) := ⟨rfl, rfl, rfl, by decide +kernel, rfl, by decide +kernel, by decide +kernel⟩
set_option maxHeartbeats 4000000 in
theorem b1l {m_law_low : DFn} (C_law_low : Cal P w K mg base 2 "_law_low" ["_law_top", "_law_bottom"] m_law_low) {f : Addr} {fd : FuncData} (B : Blt mg) (F : GF K mg "_law_plus" a2o f fd) : Cal P w K mg base 3 "_law_plus" ["_law_one", "_law_other"] (W7 m_law_low) :=
 o7 F (fun _ _ _ _ _ _ => on2 fun _ _ => rfl) sc_law_plus fun cdv A outer s H E g hr =>
  have nd := sc_law_plus.nd
  (j9 (l8 (j6 C_law_low _ hr (by decide) (by rfl) (ac (j7 B1 B2 (EO.b (j7 m6 m7 (EO.b (i5 i7 i6 (c5 (pv 0)) (EO.b a9) (fun _ _ => rfl))) (EO.b (i5 i7 i6 (c5 (pv 1)) (EO.b a9) (fun _ _ => rfl))))) (EO.b (j7 m6 m7 (EO.b (i5 i7 i6 (c5 (pv 1)) (EO.b a9) (fun _ _ => rfl))) (EO.b (i5 i7 i6 (c5 (pv 0)) (EO.b a9) (fun _ _ => rfl)))))) (ac (j7 m6 m7 (EO.b (i5 i7 i6 (c5 (pv 0)) (EO.b a9) (fun _ _ => rfl))) (EO.b (i5 i7 i6 (c5 (pv 1)) (EO.b a9) (fun _ _ => rfl)))) b6)) (c7 (c7 j4)))))
noncomputable abbrev a2R : Stmt := top 56
theorem sc_law_closed : FnScope ["_law_tape", "_law_some", "_law_told", "_law_k", "_law_a", "_law_b", "_law_h", "_law_size_here", "_law_x", "_law_y", "_law_found", "_law_one", "_law_other", "_law_far", "_law_high"] ["_law_tape"] (l7 a2R) := ⟨rfl, rfl, rfl, by decide +kernel, rfl, by decide +kernel, by decide +kernel⟩
set_option maxHeartbeats 4000000 in
theorem a9z {m_law_spot : DFn} {m_law_plus : DFn} {m_law_product : DFn} {m_law_start : DFn} {m_law_draw : DFn} (C_law_spot : Cal P w K mg base 2 "_law_spot" ["_law_x", "_law_y"] m_law_spot) (C_law_plus : Cal P w K mg base 3 "_law_plus" ["_law_one", "_law_other"] m_law_plus) (C_law_product : Cal P w K mg base 3 "_law_product" ["_law_one", "_law_other"] m_law_product) (C_law_start : Cal P w K mg base 2 "_law_start" ["_law_tape"] m_law_start) (C_law_draw : Cal P w K mg base 1 "_law_draw" ["_law_tape", "_law_many"] m_law_draw) {f : Addr} {fd : FuncData} (B : Blt mg) (F : GF K mg "_law_closed" a2R f fd) : Cal P w K mg base 4 "_law_closed" ["_law_tape"] (a2l m_law_spot m_law_plus m_law_product m_law_start m_law_draw) :=
 o7 F (fun _ _ _ _ _ _ => on1 fun _ => rfl) sc_law_closed fun cdv A outer s H E g hr =>
  have nd := sc_law_closed.nd
  (i9 (F5 (i := 1) nd rfl (by first | exact Or.inl rfl | exact Or.inr rfl) (y9 (ac (j3 (ac (j3 (ac a9 (ac a9 b6))) (ac (j3 (ac a9 (ac a9 b6))) (ac (j3 (ac a9 (ac a9 b6))) b6)))) (ac (j3 (ac (j3 (ac a9 (ac a9 b6))) (ac (j3 (ac a9 (ac a9 b6))) (ac (j3 (ac a9 (ac a9 b6))) b6)))) (ac (j3 (ac (j3 (ac a9 (ac a9 b6))) (ac (j3 (ac a9 (ac a9 b6))) (ac (j3 (ac a9 (ac a9 b6))) (ac (j3 (ac a9 (ac a9 b6))) b6))))) b6))))) (i9 (F5 (i := 1) nd rfl (by first | exact Or.inl rfl | exact Or.inr rfl) (X4 Y6 a0C (c5 (pv 1)) (EO.b (FO.v (y9 (ac (j3 (ac (j3 (ac a9 (ac a9 b6))) (ac (j3 (ac a9 (ac a9 b6))) (ac (j3 (ac a9 (ac a9 b6))) (ac (j3 (ac a9 (ac a9 b6))) b6))))) (ac (j3 (ac (j3 (ac a9 (ac a9 b6))) (ac (j3 (ac a9 (ac a9 b6))) (ac (j3 (ac a9 (ac a9 b6))) (ac (j3 (ac a9 (ac a9 b6))) b6))))) b6))))))) (i9 (F5 (i := 1) nd rfl (by first | exact Or.inl rfl | exact Or.inr rfl) (X4 Y6 a0C (c5 (pv 1)) (EO.b (FO.v (y9 (ac (j3 (ac (j3 (ac a9 (ac a9 b6))) (ac (j3 (ac a9 (ac a9 b6))) (ac (j3 (ac a9 (ac a9 b6))) (ac (j3 (ac a9 (ac a9 b6))) (ac (j3 (ac a9 (ac a9 b6))) (ac (j3 (ac a9 (ac a9 b6))) b6))))))) b6)))))) (i9 (F5 (i := 1) nd rfl (by first | exact Or.inl rfl | exact Or.inr rfl) (X4 Y6 a0C (c5 (pv 1)) (EO.b (FO.v (y9 (ac (j3 (ac (j3 (ac a9 (ac a9 b6))) (ac (j3 (ac a9 (ac a9 b6))) (ac (j3 (ac a9 (ac a9 b6))) (ac (j3 (ac a9 (ac a9 b6))) (ac (j3 (ac a9 (ac a9 b6))) (ac (j3 (ac a9 (ac a9 b6))) (ac (j3 (ac a9 (ac a9 b6))) (ac (j3 (ac a9 (ac a9 b6))) b6))))))))) b6)))))) (i9 (l5 (i := 2) nd rfl (by first | exact Or.inl rfl | exact Or.inr rfl) (i5 i7 i6 (c5 (pv 1)) (EO.b (j6 C_law_draw _ hr (by decide) (by rfl) (ac (c8 (pv 0)) (ac a9 b6)) (c7 (c7 j4)))) (fun _ _ => rfl))) (i9 (l5 (i := 3) nd rfl (by first | exact Or.inl rfl | exact Or.inr rfl) (j6 C_law_draw _ hr (by decide) (by rfl) (ac (c8 (pv 0)) (ac (D0 Q5 O9 (by rfl) B.len Q0 (bc (c5 (pv 2)) v6)) b6)) (c7 (c7 j4)))) (i9 (l5 (i := 2) nd rfl (by first | exact Or.inl rfl | exact Or.inr rfl) (b2f (EO.b (j7 B1 B2 (EO.b (a0h (c5 (pv 2)) (Z2 (c5 (pv 3))) a0f)) (EO.b (a0h (c5 (pv 2)) a0f (Z2 (c5 (pv 3))))))) (EO.b (j7 N6 M2 (EO.b a9) (EO.b (j7 m6 m7 (EO.b a9) (EO.b (j6 C_law_draw _ hr (by decide) (by rfl) (ac (c8 (pv 0)) (ac a9 b6)) (c7 (c7 j4)))))))))) (i9 (P8 (i5 i7 i6 (EO.b (FO.v (y9 (ac (j3 (ac a9 (ac a9 (ac a9 b6)))) (ac (j3 (ac a9 (ac a9 (ac a9 b6)))) (ac (j3 (ac a9 (ac a9 (ac a9 b6)))) (ac (j3 (ac (C0 B8 B7 (EO.b a9)) (ac a9 (ac a9 b6)))) (ac (j3 (ac a9 (ac a9 (ac a9 b6)))) b6)))))))) (EO.b (j6 C_law_draw _ hr (by decide) (by rfl) (ac (c8 (pv 0)) (ac a9 b6)) (c7 (c7 j4)))) (fun _ _ => rfl)) (F8 rfl (v7 (u7 (t6 (i := 4) nd rfl (by first | exact Or.inl rfl | exact Or.inr rfl))) (v7 (u7 (t6 (i := 5) nd rfl (by first | exact Or.inl rfl | exact Or.inr rfl))) (v7 (u7 (t6 (i := 6) nd rfl (by first | exact Or.inl rfl | exact Or.inr rfl))) F6))))) (i9 (l5 (i := 7) nd rfl (by first | exact Or.inl rfl | exact Or.inr rfl) (i5 i7 i6 (EO.b (FO.v (y9 (ac (j3 (ac a9 (ac a9 b6))) (ac (j3 (ac a9 (ac a9 b6))) (ac (j3 (ac a9 (ac a9 b6))) b6)))))) (EO.b (j6 C_law_draw _ hr (by decide) (by rfl) (ac (c8 (pv 0)) (ac a9 b6)) (c7 (c7 j4)))) (fun _ _ => rfl))) (i9 (P8 (j6 C_law_start _ hr (by decide) (by rfl) (ac (c8 (pv 0)) b6) (c7 j4)) (F8 rfl (v7 (u7 (t6 (i := 8) nd rfl (by first | exact Or.inl rfl | exact Or.inr rfl))) (v7 (u7 (t6 (i := 9) nd rfl (by first | exact Or.inl rfl | exact Or.inr rfl))) F6)))) (i9 (F5 (i := 10) nd rfl (by first | exact Or.inl rfl | exact Or.inr rfl) (y9 b6)) (i9 (U4 PassesOwn.never rfl (c8 (pv 2)) (F8 rfl (v7 (u7 (t6 (i := 11) nd rfl (by first | exact Or.inl rfl | exact Or.inr rfl))) (v7 (u7 (t6 (i := 12) nd rfl (by first | exact Or.inl rfl | exact Or.inr rfl))) F6))) (i9 (l5 (i := 13) nd rfl (by first | exact Or.inl rfl | exact Or.inr rfl) (j6 C_law_product _ hr (by decide) (by rfl) (ac (c8 (pv 7)) (ac (j3 (ac (j7 N6 M2 (EO.b (j7 m6 m7 (c5 (pv 11)) (c5 (pv 4)))) (EO.b (j7 m6 m7 (c5 (pv 12)) (c5 (pv 5))))) (ac (c8 (pv 6)) b6))) b6)) (c7 (c7 j4)))) (i9 (l5 (i := 14) nd rfl (by first | exact Or.inl rfl | exact Or.inr rfl) (j6 C_law_product _ hr (by decide) (by rfl) (ac (c8 (pv 7)) (ac (j3 (ac (j7 B1 B2 (EO.b (j7 m6 m7 (c5 (pv 11)) (c5 (pv 5)))) (EO.b (j7 m6 m7 (c5 (pv 12)) (c5 (pv 4))))) (ac (c8 (pv 6)) b6))) b6)) (c7 (c7 j4)))) (j9 (U5 (pv 10) (j6 C_law_spot _ hr (by decide) (by rfl) (ac (j6 C_law_plus _ hr (by decide) (by rfl) (ac (c8 (pv 8)) (ac (c8 (pv 13)) b6)) (c7 (c7 j4))) (ac (j6 C_law_plus _ hr (by decide) (by rfl) (ac (c8 (pv 9)) (ac (c8 (pv 14)) b6)) (c7 (c7 j4))) b6)) (c7 (c7 j4)))))))) (j9 (l8 (j3 (ac N0 (ac (L1 N4 N2 (by rfl) B.tuple M9 (bc (c5 (pv 10)) v6)) b6)))))))))))))))))
noncomputable abbrev a3l : Stmt := top 53
theorem sc_law_menu : FnScope ["_law_tape", "_law_great", "_law_choice", "_law_some", "_law_a", "_law_b", "_law_h", "_law_found", "_law_x", "_law_y"] ["_law_tape"] (l7 a3l) := ⟨rfl, rfl, rfl, by decide +kernel, rfl, by decide +kernel, by decide +kernel⟩
set_option maxHeartbeats 4000000 in
theorem b36 {m_law_draw : DFn} (C_law_draw : Cal P w K mg base 1 "_law_draw" ["_law_tape", "_law_many"] m_law_draw) {f : Addr} {fd : FuncData} (B : Blt mg) (F : GF K mg "_law_menu" a3l f fd) : Cal P w K mg base 2 "_law_menu" ["_law_tape"] (a2X m_law_draw) :=
 o7 F (fun _ _ _ _ _ _ => on1 fun _ => rfl) sc_law_menu fun cdv A outer s H E g hr =>
  have nd := sc_law_menu.nd
  (i9 (l5 (i := 1) nd rfl (by first | exact Or.inl rfl | exact Or.inr rfl) (i5 i7 i6 (EO.b (FO.v (y9 (ac a9 (ac a9 (ac a9 (ac a9 (ac a9 (ac a9 (ac a9 (ac (j7 a5C a6c (EO.b a9) (EO.b a9)) b6))))))))))) (EO.b (j6 C_law_draw _ hr (by decide) (by rfl) (ac (c8 (pv 0)) (ac a9 b6)) (c7 (c7 j4)))) (fun _ _ => rfl))) (i9 (l5 (i := 2) nd rfl (by first | exact Or.inl rfl | exact Or.inr rfl) (j6 C_law_draw _ hr (by decide) (by rfl) (ac (c8 (pv 0)) (ac a9 b6)) (c7 (c7 j4)))) (i9 (B6 (v5 (M8 (u64 hr)) N5 (c5 (pv 2)) (EO.b a9) (v3 _)) (i9 (F5 (i := 3) nd rfl (by first | exact Or.inl rfl | exact Or.inr rfl) (y9 (ac (j3 (ac a9 (ac a9 b6))) (ac (j3 (ac a9 (ac a9 b6))) (ac (j3 (ac a9 (ac a9 b6))) (ac (j3 (ac a9 (ac a9 b6))) (ac (j3 (ac a9 (ac a9 b6))) b6))))))) (j9 (l8 (j3 (ac (FO.v (y9 (ac (j3 (ac a9 (ac a9 (ac a9 b6)))) (ac (j3 (ac a9 (ac a9 (ac a9 b6)))) (ac (j3 (ac (C0 B8 B7 (EO.b a9)) (ac a9 (ac a9 b6)))) (ac (j3 (ac a9 (ac (C0 B8 B7 (EO.b a9)) (ac a9 b6)))) b6)))))) (ac (FO.v (a0S (caps := ["_law_great"]) (idx := [1]) rfl (a0b (by rfl) (.cons rfl .nil) (by decide +kernel) rfl (by decide +kernel) (by rfl) (.cons rfl (by first | exact Or.inl rfl | exact Or.inr rfl) (by first | exact Or.inl rfl | exact Or.inr rfl) .nil)) (L6 (c8 (pv 3))) (show List.Nodup (["_law_top", "_law_bottom", "_law_great"] : List Str) by decide +kernel) (fun _ _ _ _ => rfl) (fun _ _ _ _ => rfl) (fun _ _ _ _ _ => J3) (fun _ _ _ _ _ => (j3 (ac (j7 m6 m7 (c5 (pv 2)) (c5 (pv 0))) (ac (c8 (pv 1)) b6)))))) b6)))))) B9) (i9 (P8 (i5 i7 i6 (EO.b (FO.v (y9 (ac (j3 (ac a9 (ac a9 (ac a9 b6)))) (ac (j3 (ac a9 (ac a9 (ac a9 b6)))) (ac (j3 (ac a9 (ac a9 (ac a9 b6)))) (ac (j3 (ac a9 (ac a9 (ac a9 b6)))) b6))))))) (EO.b (j7 N6 M2 (c5 (pv 2)) (EO.b a9))) (fun _ _ => rfl)) (F8 rfl (v7 (u7 (t6 (i := 4) nd rfl (by first | exact Or.inl rfl | exact Or.inr rfl))) (v7 (u7 (t6 (i := 5) nd rfl (by first | exact Or.inl rfl | exact Or.inr rfl))) (v7 (u7 (t6 (i := 6) nd rfl (by first | exact Or.inl rfl | exact Or.inr rfl))) F6))))) (i9 (F5 (i := 7) nd rfl (by first | exact Or.inl rfl | exact Or.inr rfl) (y9 (ac (j3 (ac (c8 (pv 6)) (ac a9 (ac (c8 (pv 6)) b6)))) (ac (j3 (ac a9 (ac (c8 (pv 6)) (ac (c8 (pv 6)) b6)))) (ac (j3 (ac (C0 B8 B7 (c5 (pv 6))) (ac a9 (ac (c8 (pv 6)) b6)))) (ac (j3 (ac a9 (ac (C0 B8 B7 (c5 (pv 6))) (ac (c8 (pv 6)) b6)))) b6)))))) (i9 (U4 PassesOwn.never rfl (FO.v (y9 (ac (j3 (ac (c8 (pv 4)) (ac (c8 (pv 5)) b6))) (ac (j3 (ac (c8 (pv 5)) (ac (c8 (pv 4)) b6))) b6)))) (F8 rfl (v7 (u7 (t6 (i := 8) nd rfl (by first | exact Or.inl rfl | exact Or.inr rfl))) (v7 (u7 (t6 (i := 9) nd rfl (by first | exact Or.inl rfl | exact Or.inr rfl))) F6))) (j9 (F5 (i := 7) nd rfl (by first | exact Or.inl rfl | exact Or.inr rfl) (X4 Y6 a0C (c5 (pv 7)) (EO.b (FO.v (y9 (ac (j3 (ac (c8 (pv 8)) (ac (c8 (pv 9)) (ac (c8 (pv 6)) b6)))) (ac (j3 (ac (C0 B8 B7 (c5 (pv 9))) (ac (c8 (pv 8)) (ac (c8 (pv 6)) b6)))) (ac (j3 (ac (C0 B8 B7 (c5 (pv 8))) (ac (C0 B8 B7 (c5 (pv 9))) (ac (c8 (pv 6)) b6)))) (ac (j3 (ac (c8 (pv 9)) (ac (C0 B8 B7 (c5 (pv 8))) (ac (c8 (pv 6)) b6)))) b6))))))))))) (j9 (l8 (j3 (ac (c8 (pv 7)) (ac (FO.v (a0S (caps := ["_law_great"]) (idx := [1]) rfl (a0b (by rfl) (.cons rfl .nil) (by decide +kernel) rfl (by decide +kernel) (by rfl) (.cons rfl (by first | exact Or.inl rfl | exact Or.inr rfl) (by first | exact Or.inl rfl | exact Or.inr rfl) .nil)) (L6 (FO.v (y9 (ac (j3 (ac (c8 (pv 6)) (ac a9 b6))) (ac (j3 (ac a9 (ac a9 b6))) (ac (j3 (ac (c8 (pv 6)) (ac a9 b6))) (ac (j3 (ac a9 (ac a9 b6))) b6))))))) (show List.Nodup (["_law_top", "_law_bottom", "_law_great"] : List Str) by decide +kernel) (fun _ _ _ _ => rfl) (fun _ _ _ _ => rfl) (fun _ _ _ _ _ => J3) (fun _ _ _ _ _ => (j3 (ac (j7 m6 m7 (c5 (pv 2)) (c5 (pv 0))) (ac (c8 (pv 1)) b6)))))) b6)))))))))))
noncomputable abbrev a21 : Stmt := top 55
theorem sc_law_open : FnScope ["_law_tape", "_law_most", "_law_ways", "_law_sizes", "_law_x", "_law_y", "_law_found", "_law_former", "_law_k", "_law_some", "_law_size_here"] ["_law_tape", "_law_most"] (l7 a21) := ⟨rfl, rfl, rfl, by decide +kernel, rfl, by decide +kernel, by decide +kernel⟩
set_option maxHeartbeats 4000000 in
theorem a9A {m_law_spot : DFn} {m_law_plus : DFn} {m_law_product : DFn} {m_law_draw : DFn} {m_law_start : DFn} {m_law_menu : DFn} (C_law_spot : Cal P w K mg base 2 "_law_spot" ["_law_x", "_law_y"] m_law_spot) (C_law_plus : Cal P w K mg base 3 "_law_plus" ["_law_one", "_law_other"] m_law_plus) (C_law_product : Cal P w K mg base 3 "_law_product" ["_law_one", "_law_other"] m_law_product) (C_law_draw : Cal P w K mg base 1 "_law_draw" ["_law_tape", "_law_many"] m_law_draw) (C_law_start : Cal P w K mg base 2 "_law_start" ["_law_tape"] m_law_start) (C_law_menu : Cal P w K mg base 2 "_law_menu" ["_law_tape"] m_law_menu) {f : Addr} {fd : FuncData} (B : Blt mg) (F : GF K mg "_law_open" a21 f fd) : Cal P w K mg base 4 "_law_open" ["_law_tape", "_law_most"] (a1T m_law_spot m_law_plus m_law_product m_law_draw m_law_start m_law_menu) :=
 o7 F (fun _ _ _ _ _ _ => on2 fun _ _ => rfl) sc_law_open fun cdv A outer s H E g hr =>
  have nd := sc_law_open.nd
  (i9 (P8 (j6 C_law_menu _ hr (by decide) (by rfl) (ac (c8 (pv 0)) b6) (c7 j4)) (F8 rfl (v7 (u7 (t6 (i := 2) nd rfl (by first | exact Or.inl rfl | exact Or.inr rfl))) (v7 (u7 (t6 (i := 3) nd rfl (by first | exact Or.inl rfl | exact Or.inr rfl))) F6)))) (i9 (P8 (j6 C_law_start _ hr (by decide) (by rfl) (ac (c8 (pv 0)) b6) (c7 j4)) (F8 rfl (v7 (u7 (t6 (i := 4) nd rfl (by first | exact Or.inl rfl | exact Or.inr rfl))) (v7 (u7 (t6 (i := 5) nd rfl (by first | exact Or.inl rfl | exact Or.inr rfl))) F6)))) (i9 (F5 (i := 6) nd rfl (by first | exact Or.inl rfl | exact Or.inr rfl) (y9 (ac (j6 C_law_spot _ hr (by decide) (by rfl) (ac (c8 (pv 4)) (ac (c8 (pv 5)) b6)) (c7 (c7 j4))) b6))) (i9 (l5 (i := 7) nd rfl (by first | exact Or.inl rfl | exact Or.inr rfl) a3y) (i9 (a6p PassesOwn.never rfl (by rfl) B.range (j7 B1 B2 (EO.b a9) (EO.b (j6 C_law_draw _ hr (by decide) (by rfl) (ac (c8 (pv 0)) (ac (j7 N6 M2 (c5 (pv 1)) (EO.b a9)) b6)) (c7 (c7 j4))))) (u7 (t6 (i := 8) nd rfl (by first | exact Or.inl rfl | exact Or.inr rfl))) (i9 (a09 (i := 9) nd rfl (by first | exact Or.inl rfl | exact Or.inr rfl) (a3Y (N' := ["_law_choice", "_law_former"]) (idx := [7]) rfl (R5 (by rfl) (.cons rfl .nil) (by decide +kernel) rfl (by decide +kernel) (by rfl) (.cons rfl (by first | exact Or.inl rfl | exact Or.inr rfl) (by first | exact Or.inl rfl | exact Or.inr rfl) .nil)) (L6 (c8 (pv 2))) (fun _ _ _ _ => t6 (i := 0) (show List.Nodup (["_law_choice", "_law_former"] : List Str) by decide +kernel) rfl (Or.inl rfl)) (fun _ _ _ _ _ => (b2z (v5 (T2 (u64 hr)) Q7 (c5 (pv 0)) (c5 (pv 1)) (v3 _)))) (fun _ _ _ _ _ => (c8 (pv 0))))) (i9 (l5 (i := 7) nd rfl (by first | exact Or.inl rfl | exact Or.inr rfl) (i5 i7 i6 (c5 (pv 9)) (EO.b (j6 C_law_draw _ hr (by decide) (by rfl) (ac (c8 (pv 0)) (ac (D0 Q5 O9 (by rfl) B.len Q0 (bc (c5 (pv 9)) v6)) b6)) (c7 (c7 j4)))) (fun _ _ => rfl))) (i9 (l5 (i := 10) nd rfl (by first | exact Or.inl rfl | exact Or.inr rfl) (i5 i7 i6 (c5 (pv 3)) (EO.b (j6 C_law_draw _ hr (by decide) (by rfl) (ac (c8 (pv 0)) (ac (D0 Q5 O9 (by rfl) B.len Q0 (bc (c5 (pv 3)) v6)) b6)) (c7 (c7 j4)))) (fun _ _ => rfl))) (i9 (l5 (i := 4) nd rfl (by first | exact Or.inl rfl | exact Or.inr rfl) (j6 C_law_plus _ hr (by decide) (by rfl) (ac (c8 (pv 4)) (ac (j6 C_law_product _ hr (by decide) (by rfl) (ac (c8 (pv 10)) (ac (j3 (ac (i5 i7 i6 (c5 (pv 7)) (EO.b a9) (fun _ _ => rfl)) (ac (i5 i7 i6 (c5 (pv 7)) (EO.b a9) (fun _ _ => rfl)) b6))) b6)) (c7 (c7 j4))) b6)) (c7 (c7 j4)))) (i9 (l5 (i := 5) nd rfl (by first | exact Or.inl rfl | exact Or.inr rfl) (j6 C_law_plus _ hr (by decide) (by rfl) (ac (c8 (pv 5)) (ac (j6 C_law_product _ hr (by decide) (by rfl) (ac (c8 (pv 10)) (ac (j3 (ac (i5 i7 i6 (c5 (pv 7)) (EO.b a9) (fun _ _ => rfl)) (ac (i5 i7 i6 (c5 (pv 7)) (EO.b a9) (fun _ _ => rfl)) b6))) b6)) (c7 (c7 j4))) b6)) (c7 (c7 j4)))) (j9 (U5 (pv 6) (j6 C_law_spot _ hr (by decide) (by rfl) (ac (c8 (pv 4)) (ac (c8 (pv 5)) b6)) (c7 (c7 j4))))))))))) (j9 (l8 (j3 (ac N0 (ac (L1 N4 N2 (by rfl) B.tuple M9 (bc (c5 (pv 6)) v6)) b6))))))))))
noncomputable abbrev a2B : Stmt := top 57
theorem sc_law_exact : FnScope ["_law_tape", "_law_most"] ["_law_tape", "_law_most"] (l7 a2B) := ⟨rfl, rfl, rfl, by decide +kernel, rfl, by decide +kernel, by decide +kernel⟩
set_option maxHeartbeats 4000000 in
theorem b3i {m_law_draw : DFn} {m_law_closed : DFn} {m_law_open : DFn} (C_law_draw : Cal P w K mg base 1 "_law_draw" ["_law_tape", "_law_many"] m_law_draw) (C_law_closed : Cal P w K mg base 4 "_law_closed" ["_law_tape"] m_law_closed) (C_law_open : Cal P w K mg base 4 "_law_open" ["_law_tape", "_law_most"] m_law_open) {f : Addr} {fd : FuncData} (B : Blt mg) (F : GF K mg "_law_exact" a2B f fd) : Cal P w K mg base 5 "_law_exact" ["_law_tape", "_law_most"] (a2K m_law_draw m_law_closed m_law_open) :=
 o7 F (fun _ _ _ _ _ _ => on2 fun _ _ => rfl) sc_law_exact fun cdv A outer s H E g hr =>
  have nd := sc_law_exact.nd
  (j9 (l8 (a1A (v5 (M8 (u64 hr)) N5 (EO.b (j6 C_law_draw _ hr (by decide) (by rfl) (ac (c8 (pv 0)) (ac a9 b6)) (c7 (c7 j4)))) (EO.b a9) (v3 _)) (j6 C_law_closed _ hr (by decide) (by rfl) (ac (c8 (pv 0)) b6) (c7 j4)) (j6 C_law_open _ hr (by decide) (by rfl) (ac (c8 (pv 0)) (ac (c8 (pv 1)) b6)) (c7 (c7 j4))))))
noncomputable abbrev a1O : Stmt := top 63
theorem sc_law_shares : FnScope ["_law_tape", "_law_length", "_law_many", "_law_pattern", "_law_share"] ["_law_tape", "_law_length"] (l7 a1O) := ⟨rfl, rfl, rfl, by decide +kernel, rfl, by decide +kernel, by decide +kernel⟩
set_option maxHeartbeats 4000000 in
theorem a9K {m_law_product : DFn} {m_law_draw : DFn} (C_law_product : Cal P w K mg base 3 "_law_product" ["_law_one", "_law_other"] m_law_product) (C_law_draw : Cal P w K mg base 1 "_law_draw" ["_law_tape", "_law_many"] m_law_draw) {f : Addr} {fd : FuncData} (B : Blt mg) (F : GF K mg "_law_shares" a1O f fd) : Cal P w K mg base 4 "_law_shares" ["_law_tape", "_law_length"] (a2Z m_law_product m_law_draw) :=
 o7 F (fun _ _ _ _ _ _ => on2 fun _ _ => rfl) sc_law_shares fun cdv A outer s H E g hr =>
  have nd := sc_law_shares.nd
  (i9 (l5 (i := 2) nd rfl (by first | exact Or.inl rfl | exact Or.inr rfl) (i5 i7 i6 (EO.b (FO.v (y9 (ac a9 (ac a9 (ac a9 (ac a9 b6))))))) (EO.b (j6 C_law_draw _ hr (by decide) (by rfl) (ac (c8 (pv 0)) (ac a9 b6)) (c7 (c7 j4)))) (fun _ _ => rfl))) (i9 (l5 (i := 3) nd rfl (by first | exact Or.inl rfl | exact Or.inr rfl) (L1 N4 N2 (by rfl) B.tuple M9 (bc (EO.b (FO.v (a0y (N' := ["_law_k", "_law_length", "_law_tape"]) (idx := [1, 0]) rfl (R5 (by rfl) (.cons rfl (.cons rfl .nil)) (by decide +kernel) rfl (by decide +kernel) (by rfl) (.cons rfl (by first | exact Or.inl rfl | exact Or.inr rfl) (by first | exact Or.inl rfl | exact Or.inr rfl) (.cons rfl (by first | exact Or.inl rfl | exact Or.inr rfl) (by first | exact Or.inl rfl | exact Or.inr rfl) .nil))) (a7e (by rfl) B.range (c8 (pv 2))) (fun _ _ _ _ => t6 (i := 0) (show List.Nodup (["_law_k", "_law_length", "_law_tape"] : List Str) by decide +kernel) rfl (Or.inl rfl)) (fun _ _ _ _ _ => J3) (fun _ _ _ _ _ => (j6 C_law_product _ hr (by decide) (by rfl) (ac (c8 (pv 1)) (ac (j3 (ac (j7 B1 B2 (EO.b a9) (EO.b (j6 C_law_draw _ hr (by decide) (by rfl) (ac (c8 (pv 2)) (ac a9 b6)) (c7 (c7 j4))))) (ac a9 b6))) b6)) (c7 (c7 j4))))))) v6))) (i9 (l5 (i := 4) nd rfl (by first | exact Or.inl rfl | exact Or.inr rfl) (i5 i7 i6 (EO.b (FO.v (y9 (ac (j3 (ac a9 (ac a9 b6))) (ac (j3 (ac a9 (ac a9 b6))) (ac (j3 (ac a9 (ac a9 b6))) (ac (j3 (ac a9 (ac a9 b6))) (ac (j3 (ac a9 (ac a9 b6))) b6)))))))) (EO.b (j6 C_law_draw _ hr (by decide) (by rfl) (ac (c8 (pv 0)) (ac a9 b6)) (c7 (c7 j4)))) (fun _ _ => rfl))) (j9 (l8 (j3 (ac (c8 (pv 3)) (ac (j6 C_law_product _ hr (by decide) (by rfl) (ac (c8 (pv 1)) (ac (c8 (pv 4)) b6)) (c7 (c7 j4))) b6))))))))
noncomputable abbrev a2x : Stmt := top 4
theorem sc_divisor_of_two : FnScope ["one", "other", "greater", "rest", "left_over"] ["one", "other"] (l7 a2x) := ⟨rfl, rfl, rfl, by decide +kernel, rfl, by decide +kernel, by decide +kernel⟩
set_option maxHeartbeats 4000000 in
theorem a8O {f : Addr} {fd : FuncData} (B : Blt mg) (F : GF K mg "divisor_of_two" a2x f fd) : Cal P w K mg base 1 "divisor_of_two" ["one", "other"] (o9) :=
 o7 F (fun _ _ _ _ _ _ => on2 fun _ _ => rfl) sc_divisor_of_two fun cdv A outer s H E g hr =>
  have nd := sc_divisor_of_two.nd
  (i9 (l5 (i := 2) nd rfl (by first | exact Or.inl rfl | exact Or.inr rfl) (D0 a1e a0I (by rfl) B.abs a1c (bc (c5 (pv 0)) v6))) (i9 (l5 (i := 3) nd rfl (by first | exact Or.inl rfl | exact Or.inr rfl) (D0 a1e a0I (by rfl) B.abs a1c (bc (c5 (pv 1)) v6))) (i9 (Q8 PassesOwn.never (v5 (T2 (u64 hr)) Q7 (c5 (pv 3)) (EO.b a9) (v3 _)) (i9 (l5 (i := 4) nd rfl (by first | exact Or.inl rfl | exact Or.inr rfl) (j7 J4 K4 (c5 (pv 2)) (c5 (pv 3)))) (i9 (l5 (i := 2) nd rfl (by first | exact Or.inl rfl | exact Or.inr rfl) (c8 (pv 3))) (j9 (l5 (i := 3) nd rfl (by first | exact Or.inl rfl | exact Or.inr rfl) (c8 (pv 4))))))) (j9 (l8 (c8 (pv 2)))))))
noncomputable abbrev a2S : Stmt := top 5
theorem sc_divisor : FnScope ["parts", "shared", "part"] ["parts"] (l7 a2S) := ⟨rfl, rfl, rfl, by decide +kernel, rfl, by decide +kernel, by decide +kernel⟩
set_option maxHeartbeats 4000000 in
theorem b0K {m_divisor_of_two : DFn} (C_divisor_of_two : Cal P w K mg base 1 "divisor_of_two" ["one", "other"] m_divisor_of_two) {f : Addr} {fd : FuncData} (B : Blt mg) (F : GF K mg "divisor" a2S f fd) : Cal P w K mg base 2 "divisor" ["parts"] (A4 m_divisor_of_two) :=
 o7 F (fun _ _ _ _ _ _ => on1 fun _ => rfl) sc_divisor fun cdv A outer s H E g hr =>
  have nd := sc_divisor.nd
  (i9 (l5 (i := 1) nd rfl (by first | exact Or.inl rfl | exact Or.inr rfl) a9) (i9 (U4 PassesOwn.never rfl (c8 (pv 0)) (u7 (t6 (i := 2) nd rfl (by first | exact Or.inl rfl | exact Or.inr rfl))) (j9 (l5 (i := 1) nd rfl (by first | exact Or.inl rfl | exact Or.inr rfl) (j6 C_divisor_of_two _ hr (by decide) (by rfl) (ac (c8 (pv 1)) (ac (c8 (pv 2)) b6)) (c7 (c7 j4)))))) (j9 (l8 (c8 (pv 1))))))
noncomputable abbrev a4I : Stmt := top 6
theorem sc_lowest : FnScope ["parts", "shared"] ["parts"] (l7 a4I) := ⟨rfl, rfl, rfl, by decide +kernel, rfl, by decide +kernel, by decide +kernel⟩
set_option maxHeartbeats 4000000 in
theorem a9W {m_divisor : DFn} (C_divisor : Cal P w K mg base 2 "divisor" ["parts"] m_divisor) {f : Addr} {fd : FuncData} (B : Blt mg) (F : GF K mg "lowest" a4I f fd) : Cal P w K mg base 3 "lowest" ["parts"] (C3 m_divisor) :=
 o7 F (fun _ _ _ _ _ _ => on1 fun _ => rfl) sc_lowest fun cdv A outer s H E g hr =>
  have nd := sc_lowest.nd
  (i9 (l5 (i := 1) nd rfl (by first | exact Or.inl rfl | exact Or.inr rfl) (j6 C_divisor _ hr (by decide) (by rfl) (ac (c8 (pv 0)) b6) (c7 j4))) (i9 (B6 (v5 V5 (F7 (fun i j => decide (i < j))) (EO.b (i5 i7 i6 (c5 (pv 0)) (EO.b (C0 B8 B7 (EO.b a9))) (fun _ _ => rfl))) (EO.b a9) (v3 _)) (j9 (l5 (i := 1) nd rfl (by first | exact Or.inl rfl | exact Or.inr rfl) (C0 B8 B7 (c5 (pv 1))))) B9) (j9 (l8 (L1 N4 N2 (by rfl) B.tuple M9 (bc (EO.b (FO.v (a0y (N' := ["part", "shared"]) (idx := [1]) rfl (R5 (by rfl) (.cons rfl .nil) (by decide +kernel) rfl (by decide +kernel) (by rfl) (.cons rfl (by first | exact Or.inl rfl | exact Or.inr rfl) (by first | exact Or.inl rfl | exact Or.inr rfl) .nil)) (L6 (c8 (pv 0))) (fun _ _ _ _ => t6 (i := 0) (show List.Nodup (["part", "shared"] : List Str) by decide +kernel) rfl (Or.inl rfl)) (fun _ _ _ _ _ => J3) (fun _ _ _ _ _ => (j7 D2 D3 (c5 (pv 0)) (c5 (pv 1))))))) v6))))))
noncomputable abbrev a27 : Stmt := top 16
theorem sc_place : FnScope ["x", "y"] ["x", "y"] (l7 a27) := ⟨rfl, rfl, rfl, by decide +kernel, rfl, by decide +kernel, by decide +kernel⟩
set_option maxHeartbeats 4000000 in
theorem b1b {m_lowest : DFn} (C_lowest : Cal P w K mg base 3 "lowest" ["parts"] m_lowest) {f : Addr} {fd : FuncData} (B : Blt mg) (F : GF K mg "place" a27 f fd) : Cal P w K mg base 4 "place" ["x", "y"] (P0 m_lowest) :=
 o7 F (fun _ _ _ _ _ _ => on2 fun _ _ => rfl) sc_place fun cdv A outer s H E g hr =>
  have nd := sc_place.nd
  (j9 (l8 (j6 C_lowest _ hr (by decide) (by rfl) (ac (j3 (ac (j7 m6 m7 (EO.b (i5 i7 i6 (c5 (pv 0)) (EO.b a9) (fun _ _ => rfl))) (EO.b (i5 i7 i6 (c5 (pv 1)) (EO.b a9) (fun _ _ => rfl)))) (ac (j7 m6 m7 (EO.b (i5 i7 i6 (c5 (pv 1)) (EO.b a9) (fun _ _ => rfl))) (EO.b (i5 i7 i6 (c5 (pv 0)) (EO.b a9) (fun _ _ => rfl)))) (ac (j7 m6 m7 (EO.b (i5 i7 i6 (c5 (pv 0)) (EO.b a9) (fun _ _ => rfl))) (EO.b (i5 i7 i6 (c5 (pv 1)) (EO.b a9) (fun _ _ => rfl)))) b6)))) b6) (c7 j4))))
noncomputable abbrev a3w : Stmt := top 8
theorem sc_plus : FnScope ["one", "other", "shared", "top", "taken_out"] ["one", "other"] (l7 a3w) := ⟨rfl, rfl, rfl, by decide +kernel, rfl, by decide +kernel, by decide +kernel⟩
set_option maxHeartbeats 4000000 in
theorem a99 {m_divisor_of_two : DFn} (C_divisor_of_two : Cal P w K mg base 1 "divisor_of_two" ["one", "other"] m_divisor_of_two) {f : Addr} {fd : FuncData} (B : Blt mg) (F : GF K mg "plus" a3w f fd) : Cal P w K mg base 2 "plus" ["one", "other"] (D7 m_divisor_of_two) :=
 o7 F (fun _ _ _ _ _ _ => on2 fun _ _ => rfl) sc_plus fun cdv A outer s H E g hr =>
  have nd := sc_plus.nd
  (i9 (l5 (i := 2) nd rfl (by first | exact Or.inl rfl | exact Or.inr rfl) (j6 C_divisor_of_two _ hr (by decide) (by rfl) (ac (i5 i7 i6 (c5 (pv 0)) (EO.b a9) (fun _ _ => rfl)) (ac (i5 i7 i6 (c5 (pv 1)) (EO.b a9) (fun _ _ => rfl)) b6)) (c7 (c7 j4)))) (i9 (l5 (i := 3) nd rfl (by first | exact Or.inl rfl | exact Or.inr rfl) (j7 B1 B2 (EO.b (j7 m6 m7 (EO.b (i5 i7 i6 (c5 (pv 0)) (EO.b a9) (fun _ _ => rfl))) (EO.b (j7 D2 D3 (EO.b (i5 i7 i6 (c5 (pv 1)) (EO.b a9) (fun _ _ => rfl))) (c5 (pv 2)))))) (EO.b (j7 m6 m7 (EO.b (i5 i7 i6 (c5 (pv 1)) (EO.b a9) (fun _ _ => rfl))) (EO.b (j7 D2 D3 (EO.b (i5 i7 i6 (c5 (pv 0)) (EO.b a9) (fun _ _ => rfl))) (c5 (pv 2)))))))) (i9 (l5 (i := 4) nd rfl (by first | exact Or.inl rfl | exact Or.inr rfl) (j6 C_divisor_of_two _ hr (by decide) (by rfl) (ac (c8 (pv 3)) (ac (c8 (pv 2)) b6)) (c7 (c7 j4)))) (j9 (l8 (j3 (ac (j7 D2 D3 (c5 (pv 3)) (c5 (pv 4))) (ac (j7 m6 m7 (EO.b (j7 D2 D3 (EO.b (i5 i7 i6 (c5 (pv 0)) (EO.b a9) (fun _ _ => rfl))) (c5 (pv 2)))) (EO.b (j7 D2 D3 (EO.b (i5 i7 i6 (c5 (pv 1)) (EO.b a9) (fun _ _ => rfl))) (c5 (pv 4))))) b6))))))))
noncomputable abbrev a4B : Stmt := top 7
theorem sc_fraction : FnScope ["top", "bottom"] ["top", "bottom"] (l7 a4B) := ⟨rfl, rfl, rfl, by decide +kernel, rfl, by decide +kernel, by decide +kernel⟩
set_option maxHeartbeats 4000000 in
theorem a9D {m_lowest : DFn} (C_lowest : Cal P w K mg base 3 "lowest" ["parts"] m_lowest) {f : Addr} {fd : FuncData} (B : Blt mg) (F : GF K mg "fraction" a4B f fd) : Cal P w K mg base 4 "fraction" ["top", "bottom"] (E6 m_lowest) :=
 o7 F (fun _ _ _ _ _ _ => on2 fun _ _ => rfl) sc_fraction fun cdv A outer s H E g hr =>
  have nd := sc_fraction.nd
  (j9 (l8 (j6 C_lowest _ hr (by decide) (by rfl) (ac (j3 (ac (c8 (pv 0)) (ac (c8 (pv 1)) b6))) b6) (c7 j4))))
noncomputable abbrev a3F : Stmt := top 17
theorem sc_across : FnScope ["one"] ["one"] (l7 a3F) := ⟨rfl, rfl, rfl, by decide +kernel, rfl, by decide +kernel, by decide +kernel⟩
set_option maxHeartbeats 4000000 in
theorem b3t {m_fraction : DFn} (C_fraction : Cal P w K mg base 4 "fraction" ["top", "bottom"] m_fraction) {f : Addr} {fd : FuncData} (B : Blt mg) (F : GF K mg "across" a3F f fd) : Cal P w K mg base 5 "across" ["one"] (N8 m_fraction) :=
 o7 F (fun _ _ _ _ _ _ => on1 fun _ => rfl) sc_across fun cdv A outer s H E g hr =>
  have nd := sc_across.nd
  (j9 (l8 (j6 C_fraction _ hr (by decide) (by rfl) (ac (i5 i7 i6 (c5 (pv 0)) (EO.b a9) (fun _ _ => rfl)) (ac (i5 i7 i6 (c5 (pv 0)) (EO.b a9) (fun _ _ => rfl)) b6)) (c7 (c7 j4)))))
noncomputable abbrev a4c : Stmt := top 18
theorem sc_up : FnScope ["one"] ["one"] (l7 a4c) := ⟨rfl, rfl, rfl, by decide +kernel, rfl, by decide +kernel, by decide +kernel⟩
set_option maxHeartbeats 4000000 in
theorem b32 {m_fraction : DFn} (C_fraction : Cal P w K mg base 4 "fraction" ["top", "bottom"] m_fraction) {f : Addr} {fd : FuncData} (B : Blt mg) (F : GF K mg "up" a4c f fd) : Cal P w K mg base 5 "up" ["one"] (P5 m_fraction) :=
 o7 F (fun _ _ _ _ _ _ => on1 fun _ => rfl) sc_up fun cdv A outer s H E g hr =>
  have nd := sc_up.nd
  (j9 (l8 (j6 C_fraction _ hr (by decide) (by rfl) (ac (i5 i7 i6 (c5 (pv 0)) (EO.b a9) (fun _ _ => rfl)) (ac (i5 i7 i6 (c5 (pv 0)) (EO.b a9) (fun _ _ => rfl)) b6)) (c7 (c7 j4)))))
noncomputable abbrev a1Q : Stmt := top 40
theorem sc_changed_place : FnScope ["change", "one", "factor"] ["change", "one"] (l7 a1Q) := ⟨rfl, rfl, rfl, by decide +kernel, rfl, by decide +kernel, by decide +kernel⟩
set_option maxHeartbeats 4000000 in
theorem b2j {m_lowest : DFn} {m_place : DFn} {m_plus : DFn} {m_up : DFn} {m_across : DFn} (C_lowest : Cal P w K mg base 3 "lowest" ["parts"] m_lowest) (C_place : Cal P w K mg base 4 "place" ["x", "y"] m_place) (C_plus : Cal P w K mg base 2 "plus" ["one", "other"] m_plus) (C_up : Cal P w K mg base 5 "up" ["one"] m_up) (C_across : Cal P w K mg base 5 "across" ["one"] m_across) {f : Addr} {fd : FuncData} (B : Blt mg) (F : GF K mg "changed_place" a1Q f fd) : Cal P w K mg base 6 "changed_place" ["change", "one"] (a1q m_lowest m_place m_plus m_up m_across) :=
 o7 F (fun _ _ _ _ _ _ => on2 fun _ _ => rfl) sc_changed_place fun cdv A outer s H E g hr =>
  have nd := sc_changed_place.nd
  (i9 (B6 (v5 (M8 (u64 hr)) N5 (EO.b (i5 i7 i6 (c5 (pv 0)) (EO.b a9) (fun _ _ => rfl))) (EO.b (S0 (by decide +kernel))) (v3 _)) (j9 (l8 (j6 C_place _ hr (by decide) (by rfl) (ac (j6 C_plus _ hr (by decide) (by rfl) (ac (j6 C_across _ hr (by decide) (by rfl) (ac (c8 (pv 1)) b6) (c7 j4)) (ac (i5 i7 i6 (c5 (pv 0)) (EO.b a9) (fun _ _ => rfl)) b6)) (c7 (c7 j4))) (ac (j6 C_plus _ hr (by decide) (by rfl) (ac (j6 C_up _ hr (by decide) (by rfl) (ac (c8 (pv 1)) b6) (c7 j4)) (ac (i5 i7 i6 (c5 (pv 0)) (EO.b a9) (fun _ _ => rfl)) b6)) (c7 (c7 j4))) b6)) (c7 (c7 j4))))) B9) (i9 (B6 (v5 (M8 (u64 hr)) N5 (EO.b (i5 i7 i6 (c5 (pv 0)) (EO.b a9) (fun _ _ => rfl))) (EO.b (S0 (by decide +kernel))) (v3 _)) (j9 (l8 (j3 (ac (C0 B8 B7 (EO.b (i5 i7 i6 (c5 (pv 1)) (EO.b a9) (fun _ _ => rfl)))) (ac (i5 i7 i6 (c5 (pv 1)) (EO.b a9) (fun _ _ => rfl)) (ac (i5 i7 i6 (c5 (pv 1)) (EO.b a9) (fun _ _ => rfl)) b6)))))) B9) (i9 (B6 (v5 (M8 (u64 hr)) N5 (EO.b (i5 i7 i6 (c5 (pv 0)) (EO.b a9) (fun _ _ => rfl))) (EO.b (S0 (by decide +kernel))) (v3 _)) (j9 (l8 (j3 (ac (C0 B8 B7 (EO.b (i5 i7 i6 (c5 (pv 1)) (EO.b a9) (fun _ _ => rfl)))) (ac (i5 i7 i6 (c5 (pv 1)) (EO.b a9) (fun _ _ => rfl)) (ac (i5 i7 i6 (c5 (pv 1)) (EO.b a9) (fun _ _ => rfl)) b6)))))) B9) (i9 (l5 (i := 2) nd rfl (by first | exact Or.inl rfl | exact Or.inr rfl) (i5 i7 i6 (c5 (pv 0)) (EO.b a9) (fun _ _ => rfl))) (j9 (l8 (j6 C_lowest _ hr (by decide) (by rfl) (ac (j3 (ac (j7 m6 m7 (EO.b (i5 i7 i6 (c5 (pv 1)) (EO.b a9) (fun _ _ => rfl))) (EO.b (i5 i7 i6 (c5 (pv 2)) (EO.b a9) (fun _ _ => rfl)))) (ac (j7 m6 m7 (EO.b (i5 i7 i6 (c5 (pv 1)) (EO.b a9) (fun _ _ => rfl))) (EO.b (i5 i7 i6 (c5 (pv 2)) (EO.b a9) (fun _ _ => rfl)))) (ac (j7 m6 m7 (EO.b (i5 i7 i6 (c5 (pv 1)) (EO.b a9) (fun _ _ => rfl))) (EO.b (i5 i7 i6 (c5 (pv 2)) (EO.b a9) (fun _ _ => rfl)))) b6)))) b6) (c7 j4))))))))
noncomputable abbrev a4b : Stmt := top 41
theorem sc_changed_places : FnScope ["change", "some"] ["change", "some"] (l7 a4b) := ⟨rfl, rfl, rfl, by decide +kernel, rfl, by decide +kernel, by decide +kernel⟩
set_option maxHeartbeats 4000000 in
theorem b02 {m_changed_place : DFn} (C_changed_place : Cal P w K mg base 6 "changed_place" ["change", "one"] m_changed_place) {f : Addr} {fd : FuncData} (B : Blt mg) (F : GF K mg "changed_places" a4b f fd) : Cal P w K mg base 7 "changed_places" ["change", "some"] (a36 m_changed_place) :=
 o7 F (fun _ _ _ _ _ _ => on2 fun _ _ => rfl) sc_changed_places fun cdv A outer s H E g hr =>
  have nd := sc_changed_places.nd
  (j9 (l8 (L1 N4 N2 (by rfl) B.tuple M9 (bc (EO.b (FO.v (a0y (N' := ["one", "change"]) (idx := [0]) rfl (R5 (by rfl) (.cons rfl .nil) (by decide +kernel) rfl (by decide +kernel) (by rfl) (.cons rfl (by first | exact Or.inl rfl | exact Or.inr rfl) (by first | exact Or.inl rfl | exact Or.inr rfl) .nil)) (L6 (c8 (pv 1))) (fun _ _ _ _ => t6 (i := 0) (show List.Nodup (["one", "change"] : List Str) by decide +kernel) rfl (Or.inl rfl)) (fun _ _ _ _ _ => J3) (fun _ _ _ _ _ => (j6 C_changed_place _ hr (by decide) (by rfl) (ac (c8 (pv 1)) (ac (c8 (pv 0)) b6)) (c7 (c7 j4))))))) v6))))
noncomputable abbrev a3p : Stmt := top 42
theorem sc_changed_line : FnScope ["change", "line"] ["change", "line"] (l7 a3p) := ⟨rfl, rfl, rfl, by decide +kernel, rfl, by decide +kernel, by decide +kernel⟩
set_option maxHeartbeats 4000000 in
theorem b0i {m_changed_places : DFn} (C_changed_places : Cal P w K mg base 7 "changed_places" ["change", "some"] m_changed_places) {f : Addr} {fd : FuncData} (B : Blt mg) (F : GF K mg "changed_line" a3p f fd) : Cal P w K mg base 8 "changed_line" ["change", "line"] (a1P m_changed_places) :=
 o7 F (fun _ _ _ _ _ _ => on2 fun _ _ => rfl) sc_changed_line fun cdv A outer s H E g hr =>
  have nd := sc_changed_line.nd
  (j9 (l8 (j3 (ac (i5 i7 i6 (c5 (pv 1)) (EO.b a9) (fun _ _ => rfl)) (ac (j6 C_changed_places _ hr (by decide) (by rfl) (ac (c8 (pv 0)) (ac (i5 i7 i6 (c5 (pv 1)) (EO.b a9) (fun _ _ => rfl)) b6)) (c7 (c7 j4))) b6)))))
noncomputable abbrev a25 : Stmt := top 58
theorem sc_law_pairs : FnScope ["_law_line", "_law_closed_here", "_law_some", "_law_found"] ["_law_line"] (l7 a25) := ⟨rfl, rfl, rfl, by decide +kernel, rfl, by decide +kernel, by decide +kernel⟩
set_option maxHeartbeats 4000000 in
theorem a87 {f : Addr} {fd : FuncData} (B : Blt mg) (F : GF K mg "_law_pairs" a25 f fd) : Cal P w K mg base 1 "_law_pairs" ["_law_line"] (X2) :=
 o7 F (fun _ _ _ _ _ _ => on1 fun _ => rfl) sc_law_pairs fun cdv A outer s H E g hr =>
  have nd := sc_law_pairs.nd
  (i9 (P8 (c8 (pv 0)) (F8 rfl (v7 (u7 (t6 (i := 1) nd rfl (by first | exact Or.inl rfl | exact Or.inr rfl))) (v7 (u7 (t6 (i := 2) nd rfl (by first | exact Or.inl rfl | exact Or.inr rfl))) F6)))) (i9 (a09 (i := 3) nd rfl (by first | exact Or.inl rfl | exact Or.inr rfl) (a3Y (N' := ["_law_k", "_law_some"]) (idx := [2]) rfl (R5 (by rfl) (.cons rfl .nil) (by decide +kernel) rfl (by decide +kernel) (by rfl) (.cons rfl (by first | exact Or.inl rfl | exact Or.inr rfl) (by first | exact Or.inl rfl | exact Or.inr rfl) .nil)) (a7e (by rfl) B.range (j7 N6 M2 (EO.b (D0 Q5 O9 (by rfl) B.len Q0 (bc (c5 (pv 2)) v6))) (EO.b a9))) (fun _ _ _ _ => t6 (i := 0) (show List.Nodup (["_law_k", "_law_some"] : List Str) by decide +kernel) rfl (Or.inl rfl)) (fun _ _ _ _ _ => J3) (fun _ _ _ _ _ => (j3 (ac (i5 i7 i6 (c5 (pv 1)) (c5 (pv 0)) (fun _ _ => rfl)) (ac (i5 i7 i6 (c5 (pv 1)) (EO.b (j7 B1 B2 (c5 (pv 0)) (EO.b a9))) (fun _ _ => rfl)) b6)))))) (j9 (l8 (FO.v (X4 Y6 a0C (c5 (pv 3)) (EO.b (FO.v (X4 a7D a9c (EO.b (FO.v (y9 (ac (j3 (ac (i5 i7 i6 (c5 (pv 2)) (EO.b (C0 B8 B7 (EO.b a9))) (fun _ _ => rfl)) (ac (i5 i7 i6 (c5 (pv 2)) (EO.b a9) (fun _ _ => rfl)) b6))) b6)))) (EO.b (L1 b35 b2Q (by rfl) B.int a9C (bc (c5 (pv 1)) v6))))))))))))
noncomputable abbrev a3b : Stmt := top 52
theorem sc_law_xy : FnScope ["_law_spot_here"] ["_law_spot_here"] (l7 a3b) := ⟨rfl, rfl, rfl, by decide +kernel, rfl, by decide +kernel, by decide +kernel⟩
set_option maxHeartbeats 4000000 in
theorem b3W {m_law_low : DFn} (C_law_low : Cal P w K mg base 2 "_law_low" ["_law_top", "_law_bottom"] m_law_low) {f : Addr} {fd : FuncData} (B : Blt mg) (F : GF K mg "_law_xy" a3b f fd) : Cal P w K mg base 3 "_law_xy" ["_law_spot_here"] (a2L m_law_low) :=
 o7 F (fun _ _ _ _ _ _ => on1 fun _ => rfl) sc_law_xy fun cdv A outer s H E g hr =>
  have nd := sc_law_xy.nd
  (j9 (l8 (j3 (ac (j6 C_law_low _ hr (by decide) (by rfl) (ac (i5 i7 i6 (c5 (pv 0)) (EO.b a9) (fun _ _ => rfl)) (ac (i5 i7 i6 (c5 (pv 0)) (EO.b a9) (fun _ _ => rfl)) b6)) (c7 (c7 j4))) (ac (j6 C_law_low _ hr (by decide) (by rfl) (ac (i5 i7 i6 (c5 (pv 0)) (EO.b a9) (fun _ _ => rfl)) (ac (i5 i7 i6 (c5 (pv 0)) (EO.b a9) (fun _ _ => rfl)) b6)) (c7 (c7 j4))) b6)))))
noncomputable abbrev a2i : Stmt := top 49
theorem sc_law_minus : FnScope ["_law_one", "_law_other"] ["_law_one", "_law_other"] (l7 a2i) := ⟨rfl, rfl, rfl, by decide +kernel, rfl, by decide +kernel, by decide +kernel⟩
set_option maxHeartbeats 4000000 in
theorem b3Q {m_law_low : DFn} (C_law_low : Cal P w K mg base 2 "_law_low" ["_law_top", "_law_bottom"] m_law_low) {f : Addr} {fd : FuncData} (B : Blt mg) (F : GF K mg "_law_minus" a2i f fd) : Cal P w K mg base 3 "_law_minus" ["_law_one", "_law_other"] (a4A m_law_low) :=
 o7 F (fun _ _ _ _ _ _ => on2 fun _ _ => rfl) sc_law_minus fun cdv A outer s H E g hr =>
  have nd := sc_law_minus.nd
  (j9 (l8 (j6 C_law_low _ hr (by decide) (by rfl) (ac (j7 N6 M2 (EO.b (j7 m6 m7 (EO.b (i5 i7 i6 (c5 (pv 0)) (EO.b a9) (fun _ _ => rfl))) (EO.b (i5 i7 i6 (c5 (pv 1)) (EO.b a9) (fun _ _ => rfl))))) (EO.b (j7 m6 m7 (EO.b (i5 i7 i6 (c5 (pv 1)) (EO.b a9) (fun _ _ => rfl))) (EO.b (i5 i7 i6 (c5 (pv 0)) (EO.b a9) (fun _ _ => rfl)))))) (ac (j7 m6 m7 (EO.b (i5 i7 i6 (c5 (pv 0)) (EO.b a9) (fun _ _ => rfl))) (EO.b (i5 i7 i6 (c5 (pv 1)) (EO.b a9) (fun _ _ => rfl)))) b6)) (c7 (c7 j4)))))
noncomputable abbrev a22 : Stmt := top 60
theorem sc_law_square : FnScope ["_law_a", "_law_b", "_law_x", "_law_y", "_law_far", "_law_high", "_law_one", "_law_other"] ["_law_a", "_law_b"] (l7 a22) := ⟨rfl, rfl, rfl, by decide +kernel, rfl, by decide +kernel, by decide +kernel⟩
set_option maxHeartbeats 4000000 in
theorem a8w {m_law_plus : DFn} {m_law_product : DFn} {m_law_minus : DFn} {m_law_xy : DFn} (C_law_plus : Cal P w K mg base 3 "_law_plus" ["_law_one", "_law_other"] m_law_plus) (C_law_product : Cal P w K mg base 3 "_law_product" ["_law_one", "_law_other"] m_law_product) (C_law_minus : Cal P w K mg base 3 "_law_minus" ["_law_one", "_law_other"] m_law_minus) (C_law_xy : Cal P w K mg base 3 "_law_xy" ["_law_spot_here"] m_law_xy) {f : Addr} {fd : FuncData} (B : Blt mg) (F : GF K mg "_law_square" a22 f fd) : Cal P w K mg base 4 "_law_square" ["_law_a", "_law_b"] (a3M m_law_plus m_law_product m_law_minus m_law_xy) :=
 o7 F (fun _ _ _ _ _ _ => on2 fun _ _ => rfl) sc_law_square fun cdv A outer s H E g hr =>
  have nd := sc_law_square.nd
  (i9 (P8 (j3 (ac (j6 C_law_xy _ hr (by decide) (by rfl) (ac (c8 (pv 0)) b6) (c7 j4)) (ac (j6 C_law_xy _ hr (by decide) (by rfl) (ac (c8 (pv 1)) b6) (c7 j4)) b6))) (F8 rfl (v7 (F8 rfl (v7 (u7 (t6 (i := 2) nd rfl (by first | exact Or.inl rfl | exact Or.inr rfl))) (v7 (u7 (t6 (i := 3) nd rfl (by first | exact Or.inl rfl | exact Or.inr rfl))) F6))) (v7 (F8 rfl (v7 (u7 (t6 (i := 4) nd rfl (by first | exact Or.inl rfl | exact Or.inr rfl))) (v7 (u7 (t6 (i := 5) nd rfl (by first | exact Or.inl rfl | exact Or.inr rfl))) F6))) F6)))) (i9 (a4x (i := 6) (j := 7) rfl nd rfl rfl (by decide) rfl rfl (ac (j6 C_law_minus _ hr (by decide) (by rfl) (ac (c8 (pv 4)) (ac (c8 (pv 2)) b6)) (c7 (c7 j4))) (ac (j6 C_law_minus _ hr (by decide) (by rfl) (ac (c8 (pv 5)) (ac (c8 (pv 3)) b6)) (c7 (c7 j4))) b6)) rfl) (j9 (l8 (j6 C_law_plus _ hr (by decide) (by rfl) (ac (j6 C_law_product _ hr (by decide) (by rfl) (ac (c8 (pv 6)) (ac (c8 (pv 6)) b6)) (c7 (c7 j4))) (ac (j6 C_law_product _ hr (by decide) (by rfl) (ac (c8 (pv 7)) (ac (c8 (pv 7)) b6)) (c7 (c7 j4))) b6)) (c7 (c7 j4)))))))
noncomputable abbrev a3h : Stmt := top 59
theorem sc_law_root : FnScope ["_law_number", "_law_found", "_law_step"] ["_law_number"] (l7 a3h) := ⟨rfl, rfl, rfl, by decide +kernel, rfl, by decide +kernel, by decide +kernel⟩
set_option maxHeartbeats 4000000 in
theorem a8t {f : Addr} {fd : FuncData} (B : Blt mg) (F : GF K mg "_law_root" a3h f fd) : Cal P w K mg base 1 "_law_root" ["_law_number"] (Z5) :=
 o7 F (fun _ _ _ _ _ _ => on1 fun _ => rfl) sc_law_root fun cdv A outer s H E g hr =>
  have nd := sc_law_root.nd
  (i9 (l5 (i := 1) nd rfl (by first | exact Or.inl rfl | exact Or.inr rfl) a9) (i9 (l5 (i := 2) nd rfl (by first | exact Or.inl rfl | exact Or.inr rfl) a9) (i9 (Q8 PassesOwn.never (v5 a5w (F7 (fun i j => decide (i ≤ j))) (EO.b (j7 m6 m7 (c5 (pv 2)) (c5 (pv 2)))) (c5 (pv 0)) (v3 _)) (j9 (l5 (i := 2) nd rfl (by first | exact Or.inl rfl | exact Or.inr rfl) (j7 m6 m7 (c5 (pv 2)) (EO.b a9))))) (i9 (Q8 PassesOwn.never (v5 Y4 (F7 (fun i j => decide (j < i))) (c5 (pv 2)) (EO.b a9) (v3 _)) (i9 (B6 (v5 a5w (F7 (fun i j => decide (i ≤ j))) (EO.b (j7 m6 m7 (EO.b (j7 B1 B2 (c5 (pv 1)) (c5 (pv 2)))) (EO.b (j7 B1 B2 (c5 (pv 1)) (c5 (pv 2)))))) (c5 (pv 0)) (v3 _)) (j9 (l5 (i := 1) nd rfl (by first | exact Or.inl rfl | exact Or.inr rfl) (j7 B1 B2 (c5 (pv 1)) (c5 (pv 2))))) B9) (j9 (l5 (i := 2) nd rfl (by first | exact Or.inl rfl | exact Or.inr rfl) (j7 D2 D3 (c5 (pv 2)) (EO.b a9)))))) (j9 (l8 (c8 (pv 1))))))))
noncomputable abbrev a3a : Stmt := top 61
theorem sc_law_size : FnScope ["_law_a", "_law_b", "_law_top", "_law_bottom"] ["_law_a", "_law_b"] (l7 a3a) := ⟨rfl, rfl, rfl, by decide +kernel, rfl, by decide +kernel, by decide +kernel⟩
set_option maxHeartbeats 4000000 in
theorem b19 {m_law_root : DFn} {m_law_square : DFn} (C_law_root : Cal P w K mg base 1 "_law_root" ["_law_number"] m_law_root) (C_law_square : Cal P w K mg base 4 "_law_square" ["_law_a", "_law_b"] m_law_square) {f : Addr} {fd : FuncData} (B : Blt mg) (F : GF K mg "_law_size" a3a f fd) : Cal P w K mg base 5 "_law_size" ["_law_a", "_law_b"] (a3R m_law_root m_law_square) :=
 o7 F (fun _ _ _ _ _ _ => on2 fun _ _ => rfl) sc_law_size fun cdv A outer s H E g hr =>
  have nd := sc_law_size.nd
  (i9 (P8 (j6 C_law_square _ hr (by decide) (by rfl) (ac (c8 (pv 0)) (ac (c8 (pv 1)) b6)) (c7 (c7 j4))) (F8 rfl (v7 (u7 (t6 (i := 2) nd rfl (by first | exact Or.inl rfl | exact Or.inr rfl))) (v7 (u7 (t6 (i := 3) nd rfl (by first | exact Or.inl rfl | exact Or.inr rfl))) F6)))) (j9 (l8 (j3 (ac (j6 C_law_root _ hr (by decide) (by rfl) (ac (c8 (pv 2)) b6) (c7 j4)) (ac (j6 C_law_root _ hr (by decide) (by rfl) (ac (c8 (pv 3)) b6) (c7 j4)) b6))))))
noncomputable abbrev a20 : Stmt := top 62
theorem sc_law_sums : FnScope ["_law_line", "_law_found", "_law_a", "_law_b"] ["_law_line"] (l7 a20) := ⟨rfl, rfl, rfl, by decide +kernel, rfl, by decide +kernel, by decide +kernel⟩
set_option maxHeartbeats 4000000 in
theorem a8e {m_law_plus : DFn} {m_law_size : DFn} {m_law_pairs : DFn} (C_law_plus : Cal P w K mg base 3 "_law_plus" ["_law_one", "_law_other"] m_law_plus) (C_law_size : Cal P w K mg base 5 "_law_size" ["_law_a", "_law_b"] m_law_size) (C_law_pairs : Cal P w K mg base 1 "_law_pairs" ["_law_line"] m_law_pairs) {f : Addr} {fd : FuncData} (B : Blt mg) (F : GF K mg "_law_sums" a20 f fd) : Cal P w K mg base 6 "_law_sums" ["_law_line"] (a3K m_law_plus m_law_size m_law_pairs) :=
 o7 F (fun _ _ _ _ _ _ => on1 fun _ => rfl) sc_law_sums fun cdv A outer s H E g hr =>
  have nd := sc_law_sums.nd
  (i9 (F5 (i := 1) nd rfl (by first | exact Or.inl rfl | exact Or.inr rfl) (y9 (ac (j3 (ac a9 (ac a9 b6))) b6))) (i9 (U4 PassesOwn.never rfl (j6 C_law_pairs _ hr (by decide) (by rfl) (ac (c8 (pv 0)) b6) (c7 j4)) (F8 rfl (v7 (u7 (t6 (i := 2) nd rfl (by first | exact Or.inl rfl | exact Or.inr rfl))) (v7 (u7 (t6 (i := 3) nd rfl (by first | exact Or.inl rfl | exact Or.inr rfl))) F6))) (j9 (U5 (pv 1) (j6 C_law_plus _ hr (by decide) (by rfl) (ac (i5 i7 i6 (c5 (pv 1)) (EO.b (C0 B8 B7 (EO.b a9))) (fun _ _ => rfl)) (ac (j6 C_law_size _ hr (by decide) (by rfl) (ac (c8 (pv 2)) (ac (c8 (pv 3)) b6)) (c7 (c7 j4))) b6)) (c7 (c7 j4)))))) (j9 (l8 (c8 (pv 1))))))
noncomputable abbrev a1V : Stmt := top 12
theorem sc_above_root : FnScope ["number", "guess", "rest"] ["number"] (l7 a1V) := ⟨rfl, rfl, rfl, by decide +kernel, rfl, by decide +kernel, by decide +kernel⟩
set_option maxHeartbeats 4000000 in
theorem b0O {f : Addr} {fd : FuncData} (B : Blt mg) (F : GF K mg "above_root" a1V f fd) : Cal P w K mg base 1 "above_root" ["number"] (G3) :=
 o7 F (fun _ _ _ _ _ _ => on1 fun _ => rfl) sc_above_root fun cdv A outer s H E g hr =>
  have nd := sc_above_root.nd
  (i9 (l5 (i := 1) nd rfl (by first | exact Or.inl rfl | exact Or.inr rfl) a9) (i9 (l5 (i := 2) nd rfl (by first | exact Or.inl rfl | exact Or.inr rfl) (c8 (pv 0))) (i9 (Q8 PassesOwn.never (v5 Y4 (F7 (fun i j => decide (j < i))) (c5 (pv 2)) (EO.b a9) (v3 _)) (i9 (l5 (i := 1) nd rfl (by first | exact Or.inl rfl | exact Or.inr rfl) (j7 m6 m7 (c5 (pv 1)) (EO.b a9))) (j9 (l5 (i := 2) nd rfl (by first | exact Or.inl rfl | exact Or.inr rfl) (j7 D2 D3 (c5 (pv 2)) (EO.b a9)))))) (j9 (l8 (c8 (pv 1)))))))
noncomputable abbrev a3C : Stmt := top 13
theorem sc_root_below : FnScope ["number", "guess", "better"] ["number"] (l7 a3C) := ⟨rfl, rfl, rfl, by decide +kernel, rfl, by decide +kernel, by decide +kernel⟩
set_option maxHeartbeats 4000000 in
theorem b1y {m_above_root : DFn} (C_above_root : Cal P w K mg base 1 "above_root" ["number"] m_above_root) {f : Addr} {fd : FuncData} (B : Blt mg) (F : GF K mg "root_below" a3C f fd) : Cal P w K mg base 2 "root_below" ["number"] (M0 m_above_root) :=
 o7 F (fun _ _ _ _ _ _ => on1 fun _ => rfl) sc_root_below fun cdv A outer s H E g hr =>
  have nd := sc_root_below.nd
  (i9 (B6 (v5 (M8 (u64 hr)) N5 (c5 (pv 0)) (EO.b a9) (v3 _)) (j9 (l8 a9)) B9) (i9 (l5 (i := 1) nd rfl (by first | exact Or.inl rfl | exact Or.inr rfl) (j6 C_above_root _ hr (by decide) (by rfl) (ac (c8 (pv 0)) b6) (c7 j4))) (i9 (l5 (i := 2) nd rfl (by first | exact Or.inl rfl | exact Or.inr rfl) (j7 D2 D3 (EO.b (j7 B1 B2 (c5 (pv 1)) (EO.b (j7 D2 D3 (c5 (pv 0)) (c5 (pv 1)))))) (EO.b a9))) (i9 (Q8 PassesOwn.never (v5 V5 (F7 (fun i j => decide (i < j))) (c5 (pv 2)) (c5 (pv 1)) (v3 _)) (i9 (l5 (i := 1) nd rfl (by first | exact Or.inl rfl | exact Or.inr rfl) (c8 (pv 2))) (j9 (l5 (i := 2) nd rfl (by first | exact Or.inl rfl | exact Or.inr rfl) (j7 D2 D3 (EO.b (j7 B1 B2 (c5 (pv 1)) (EO.b (j7 D2 D3 (c5 (pv 0)) (c5 (pv 1)))))) (EO.b a9)))))) (j9 (l8 (c8 (pv 1))))))))
noncomputable abbrev a3d : Stmt := top 14
theorem sc_root : FnScope ["one", "top", "bottom"] ["one"] (l7 a3d) := ⟨rfl, rfl, rfl, by decide +kernel, rfl, by decide +kernel, by decide +kernel⟩
set_option maxHeartbeats 4000000 in
theorem b3z {m_root_below : DFn} (C_root_below : Cal P w K mg base 2 "root_below" ["number"] m_root_below) {f : Addr} {fd : FuncData} (B : Blt mg) (F : GF K mg "root" a3d f fd) : Cal P w K mg base 3 "root" ["one"] (P4 m_root_below) :=
 o7 F (fun _ _ _ _ _ _ => on1 fun _ => rfl) sc_root fun cdv A outer s H E g hr =>
  have nd := sc_root.nd
  (i9 (B6 (v5 V5 (F7 (fun i j => decide (i < j))) (EO.b (i5 i7 i6 (c5 (pv 0)) (EO.b a9) (fun _ _ => rfl))) (EO.b a9) (v3 _)) (j9 (l8 a3y)) B9) (i9 (l5 (i := 1) nd rfl (by first | exact Or.inl rfl | exact Or.inr rfl) (j6 C_root_below _ hr (by decide) (by rfl) (ac (i5 i7 i6 (c5 (pv 0)) (EO.b a9) (fun _ _ => rfl)) b6) (c7 j4))) (i9 (l5 (i := 2) nd rfl (by first | exact Or.inl rfl | exact Or.inr rfl) (j6 C_root_below _ hr (by decide) (by rfl) (ac (i5 i7 i6 (c5 (pv 0)) (EO.b a9) (fun _ _ => rfl)) b6) (c7 j4))) (i9 (B6 (WO.t (b2l (v5 (T2 (u64 hr)) Q7 (EO.b (j7 m6 m7 (c5 (pv 1)) (c5 (pv 1)))) (EO.b (i5 i7 i6 (c5 (pv 0)) (EO.b a9) (fun _ _ => rfl))) (v3 _)) (b0V (v5 (T2 (u64 hr)) Q7 (EO.b (j7 m6 m7 (c5 (pv 2)) (c5 (pv 2)))) (EO.b (i5 i7 i6 (c5 (pv 0)) (EO.b a9) (fun _ _ => rfl))) (v3 _))))) (j9 (l8 a3y)) B9) (j9 (l8 (j3 (ac (c8 (pv 1)) (ac (c8 (pv 2)) b6)))))))))
noncomputable abbrev a39 : Stmt := top 19
theorem sc_squared : FnScope ["one", "other", "wide", "high", "bottom"] ["one", "other"] (l7 a39) := ⟨rfl, rfl, rfl, by decide +kernel, rfl, by decide +kernel, by decide +kernel⟩
set_option maxHeartbeats 4000000 in
theorem b3f {m_fraction : DFn} (C_fraction : Cal P w K mg base 4 "fraction" ["top", "bottom"] m_fraction) {f : Addr} {fd : FuncData} (B : Blt mg) (F : GF K mg "squared" a39 f fd) : Cal P w K mg base 5 "squared" ["one", "other"] (L8 m_fraction) :=
 o7 F (fun _ _ _ _ _ _ => on2 fun _ _ => rfl) sc_squared fun cdv A outer s H E g hr =>
  have nd := sc_squared.nd
  (i9 (l5 (i := 2) nd rfl (by first | exact Or.inl rfl | exact Or.inr rfl) (j7 N6 M2 (EO.b (j7 m6 m7 (EO.b (i5 i7 i6 (c5 (pv 0)) (EO.b a9) (fun _ _ => rfl))) (EO.b (i5 i7 i6 (c5 (pv 1)) (EO.b a9) (fun _ _ => rfl))))) (EO.b (j7 m6 m7 (EO.b (i5 i7 i6 (c5 (pv 1)) (EO.b a9) (fun _ _ => rfl))) (EO.b (i5 i7 i6 (c5 (pv 0)) (EO.b a9) (fun _ _ => rfl))))))) (i9 (l5 (i := 3) nd rfl (by first | exact Or.inl rfl | exact Or.inr rfl) (j7 N6 M2 (EO.b (j7 m6 m7 (EO.b (i5 i7 i6 (c5 (pv 0)) (EO.b a9) (fun _ _ => rfl))) (EO.b (i5 i7 i6 (c5 (pv 1)) (EO.b a9) (fun _ _ => rfl))))) (EO.b (j7 m6 m7 (EO.b (i5 i7 i6 (c5 (pv 1)) (EO.b a9) (fun _ _ => rfl))) (EO.b (i5 i7 i6 (c5 (pv 0)) (EO.b a9) (fun _ _ => rfl))))))) (i9 (l5 (i := 4) nd rfl (by first | exact Or.inl rfl | exact Or.inr rfl) (j7 m6 m7 (EO.b (i5 i7 i6 (c5 (pv 0)) (EO.b a9) (fun _ _ => rfl))) (EO.b (i5 i7 i6 (c5 (pv 1)) (EO.b a9) (fun _ _ => rfl))))) (j9 (l8 (j6 C_fraction _ hr (by decide) (by rfl) (ac (j7 B1 B2 (EO.b (j7 m6 m7 (c5 (pv 2)) (c5 (pv 2)))) (EO.b (j7 m6 m7 (c5 (pv 3)) (c5 (pv 3))))) (ac (j7 m6 m7 (c5 (pv 4)) (c5 (pv 4))) b6)) (c7 (c7 j4))))))))
noncomputable abbrev a28 : Stmt := top 21
theorem sc_neighbours : FnScope ["row", "closed"] ["row", "closed"] (l7 a28) := ⟨rfl, rfl, rfl, by decide +kernel, rfl, by decide +kernel, by decide +kernel⟩
set_option maxHeartbeats 4000000 in
theorem b0Z {f : Addr} {fd : FuncData} (B : Blt mg) (F : GF K mg "neighbours" a28 f fd) : Cal P w K mg base 1 "neighbours" ["row", "closed"] (J9) :=
 o7 F (fun _ _ _ _ _ _ => on2 fun _ _ => rfl) sc_neighbours fun cdv A outer s H E g hr =>
  have nd := sc_neighbours.nd
  (i9 (B6 (Q4 (c5 (pv 1))) (j9 (l8 (FO.v (a42 rfl (by rfl) B.list (by rfl) B.zip (bc (c5 (pv 0)) (bc (EO.b (j7 B1 B2 (EO.b (a0h (c5 (pv 0)) (Z2 (EO.b a9)) a0f)) (EO.b (a0h (c5 (pv 0)) a0f (Z2 (EO.b a9)))))) v6)))))) B9) (j9 (l8 (FO.v (a42 rfl (by rfl) B.list (by rfl) B.zip (bc (c5 (pv 0)) (bc (EO.b (a0h (c5 (pv 0)) (Z2 (EO.b a9)) a0f)) v6)))))))
noncomputable abbrev a2b : Stmt := top 24
theorem sc_pieces : FnScope ["line"] ["line"] (l7 a2b) := ⟨rfl, rfl, rfl, by decide +kernel, rfl, by decide +kernel, by decide +kernel⟩
set_option maxHeartbeats 4000000 in
theorem b3X {m_neighbours : DFn} (C_neighbours : Cal P w K mg base 1 "neighbours" ["row", "closed"] m_neighbours) {f : Addr} {fd : FuncData} (B : Blt mg) (F : GF K mg "pieces" a2b f fd) : Cal P w K mg base 2 "pieces" ["line"] (M5 m_neighbours) :=
 o7 F (fun _ _ _ _ _ _ => on1 fun _ => rfl) sc_pieces fun cdv A outer s H E g hr =>
  have nd := sc_pieces.nd
  (j9 (l8 (L1 N4 N2 (by rfl) B.tuple M9 (bc (EO.b (j6 C_neighbours _ hr (by decide) (by rfl) (ac (i5 i7 i6 (c5 (pv 0)) (EO.b a9) (fun _ _ => rfl)) (ac (i5 i7 i6 (c5 (pv 0)) (EO.b a9) (fun _ _ => rfl)) b6)) (c7 (c7 j4)))) v6))))
noncomputable abbrev a37 : Stmt := top 25
theorem sc_lengths : FnScope ["line"] ["line"] (l7 a37) := ⟨rfl, rfl, rfl, by decide +kernel, rfl, by decide +kernel, by decide +kernel⟩
set_option maxHeartbeats 4000000 in
theorem b2S {m_pieces : DFn} {m_root : DFn} {m_squared : DFn} (C_pieces : Cal P w K mg base 2 "pieces" ["line"] m_pieces) (C_root : Cal P w K mg base 3 "root" ["one"] m_root) (C_squared : Cal P w K mg base 5 "squared" ["one", "other"] m_squared) {f : Addr} {fd : FuncData} (B : Blt mg) (F : GF K mg "lengths" a37 f fd) : Cal P w K mg base 6 "lengths" ["line"] (S7 m_pieces m_root m_squared) :=
 o7 F (fun _ _ _ _ _ _ => on1 fun _ => rfl) sc_lengths fun cdv A outer s H E g hr =>
  have nd := sc_lengths.nd
  (j9 (l8 (L1 N4 N2 (by rfl) B.tuple M9 (bc (EO.b (FO.v (a0S (caps := []) (idx := []) rfl (a0b (by rfl) .nil (by decide +kernel) rfl (by decide +kernel) (by rfl) .nil) (L6 (j6 C_pieces _ hr (by decide) (by rfl) (ac (c8 (pv 0)) b6) (c7 j4))) (show List.Nodup (["a", "b"] : List Str) by decide +kernel) (fun _ _ _ _ => rfl) (fun _ _ _ _ => rfl) (fun _ _ _ _ _ => J3) (fun _ _ _ _ _ => (j6 C_root _ hr (by decide) (by rfl) (ac (j6 C_squared _ hr (by decide) (by rfl) (ac (c8 (pv 0)) (ac (c8 (pv 1)) b6)) (c7 (c7 j4))) b6) (c7 j4)))))) v6))))
noncomputable abbrev a29 : Stmt := top 27
theorem sc_stations : FnScope ["line", "told", "length"] ["line"] (l7 a29) := ⟨rfl, rfl, rfl, by decide +kernel, rfl, by decide +kernel, by decide +kernel⟩
set_option maxHeartbeats 4000000 in
theorem a8m {m_plus : DFn} {m_lengths : DFn} (C_plus : Cal P w K mg base 2 "plus" ["one", "other"] m_plus) (C_lengths : Cal P w K mg base 6 "lengths" ["line"] m_lengths) {f : Addr} {fd : FuncData} (B : Blt mg) (F : GF K mg "stations" a29 f fd) : Cal P w K mg base 7 "stations" ["line"] (S8 m_plus m_lengths) :=
 o7 F (fun _ _ _ _ _ _ => on1 fun _ => rfl) sc_stations fun cdv A outer s H E g hr =>
  have nd := sc_stations.nd
  (i9 (F5 (i := 1) nd rfl (by first | exact Or.inl rfl | exact Or.inr rfl) (y9 (ac (j3 (ac a9 (ac a9 b6))) b6))) (i9 (U4 PassesOwn.never rfl (j6 C_lengths _ hr (by decide) (by rfl) (ac (c8 (pv 0)) b6) (c7 j4)) (u7 (t6 (i := 2) nd rfl (by first | exact Or.inl rfl | exact Or.inr rfl))) (j9 (U5 (pv 1) (j6 C_plus _ hr (by decide) (by rfl) (ac (i5 i7 i6 (c5 (pv 1)) (EO.b (C0 B8 B7 (EO.b a9))) (fun _ _ => rfl)) (ac (c8 (pv 2)) b6)) (c7 (c7 j4)))))) (j9 (l8 (c8 (pv 1))))))
noncomputable abbrev a2F : Stmt := top 28
theorem sc_line_length : FnScope ["line"] ["line"] (l7 a2F) := ⟨rfl, rfl, rfl, by decide +kernel, rfl, by decide +kernel, by decide +kernel⟩
set_option maxHeartbeats 4000000 in
theorem b1G {m_stations : DFn} (C_stations : Cal P w K mg base 7 "stations" ["line"] m_stations) {f : Addr} {fd : FuncData} (B : Blt mg) (F : GF K mg "line_length" a2F f fd) : Cal P w K mg base 8 "line_length" ["line"] (a0l m_stations) :=
 o7 F (fun _ _ _ _ _ _ => on1 fun _ => rfl) sc_line_length fun cdv A outer s H E g hr =>
  have nd := sc_line_length.nd
  (j9 (l8 (i5 i7 i6 (EO.b (j6 C_stations _ hr (by decide) (by rfl) (ac (c8 (pv 0)) b6) (c7 j4))) (EO.b (C0 B8 B7 (EO.b a9))) (fun _ _ => rfl))))
noncomputable abbrev a3B : Stmt := top 35
theorem sc_sum_of : FnScope ["fractions", "told", "one"] ["fractions"] (l7 a3B) := ⟨rfl, rfl, rfl, by decide +kernel, rfl, by decide +kernel, by decide +kernel⟩
set_option maxHeartbeats 4000000 in
theorem b2K {m_plus : DFn} (C_plus : Cal P w K mg base 2 "plus" ["one", "other"] m_plus) {f : Addr} {fd : FuncData} (B : Blt mg) (F : GF K mg "sum_of" a3B f fd) : Cal P w K mg base 3 "sum_of" ["fractions"] (a1u m_plus) :=
 o7 F (fun _ _ _ _ _ _ => on1 fun _ => rfl) sc_sum_of fun cdv A outer s H E g hr =>
  have nd := sc_sum_of.nd
  (i9 (l5 (i := 1) nd rfl (by first | exact Or.inl rfl | exact Or.inr rfl) (j3 (ac a9 (ac a9 b6)))) (i9 (U4 PassesOwn.never rfl (c8 (pv 0)) (u7 (t6 (i := 2) nd rfl (by first | exact Or.inl rfl | exact Or.inr rfl))) (j9 (l5 (i := 1) nd rfl (by first | exact Or.inl rfl | exact Or.inr rfl) (j6 C_plus _ hr (by decide) (by rfl) (ac (c8 (pv 1)) (ac (c8 (pv 2)) b6)) (c7 (c7 j4)))))) (j9 (l8 (c8 (pv 1))))))
noncomputable abbrev a3A : Stmt := top 9
theorem sc_less : FnScope ["one", "other"] ["one", "other"] (l7 a3A) := ⟨rfl, rfl, rfl, by decide +kernel, rfl, by decide +kernel, by decide +kernel⟩
set_option maxHeartbeats 4000000 in
theorem a9s {m_plus : DFn} (C_plus : Cal P w K mg base 2 "plus" ["one", "other"] m_plus) {f : Addr} {fd : FuncData} (B : Blt mg) (F : GF K mg "less" a3A f fd) : Cal P w K mg base 3 "less" ["one", "other"] (W9 m_plus) :=
 o7 F (fun _ _ _ _ _ _ => on2 fun _ _ => rfl) sc_less fun cdv A outer s H E g hr =>
  have nd := sc_less.nd
  (j9 (l8 (j6 C_plus _ hr (by decide) (by rfl) (ac (c8 (pv 0)) (ac (j3 (ac (C0 B8 B7 (EO.b (i5 i7 i6 (c5 (pv 1)) (EO.b a9) (fun _ _ => rfl)))) (ac (i5 i7 i6 (c5 (pv 1)) (EO.b a9) (fun _ _ => rfl)) b6))) b6)) (c7 (c7 j4)))))
noncomputable abbrev a3z : Stmt := top 10
theorem sc_times : FnScope ["one", "other"] ["one", "other"] (l7 a3z) := ⟨rfl, rfl, rfl, by decide +kernel, rfl, by decide +kernel, by decide +kernel⟩
set_option maxHeartbeats 4000000 in
theorem b1a {m_fraction : DFn} (C_fraction : Cal P w K mg base 4 "fraction" ["top", "bottom"] m_fraction) {f : Addr} {fd : FuncData} (B : Blt mg) (F : GF K mg "times" a3z f fd) : Cal P w K mg base 5 "times" ["one", "other"] (a1b m_fraction) :=
 o7 F (fun _ _ _ _ _ _ => on2 fun _ _ => rfl) sc_times fun cdv A outer s H E g hr =>
  have nd := sc_times.nd
  (j9 (l8 (j6 C_fraction _ hr (by decide) (by rfl) (ac (j7 m6 m7 (EO.b (i5 i7 i6 (c5 (pv 0)) (EO.b a9) (fun _ _ => rfl))) (EO.b (i5 i7 i6 (c5 (pv 1)) (EO.b a9) (fun _ _ => rfl)))) (ac (j7 m6 m7 (EO.b (i5 i7 i6 (c5 (pv 0)) (EO.b a9) (fun _ _ => rfl))) (EO.b (i5 i7 i6 (c5 (pv 1)) (EO.b a9) (fun _ _ => rfl)))) b6)) (c7 (c7 j4)))))
noncomputable abbrev a4e : Stmt := top 34
theorem sc_first_begin : FnScope ["pattern", "offset", "size", "passed"] ["pattern", "offset"] (l7 a4e) := ⟨rfl, rfl, rfl, by decide +kernel, rfl, by decide +kernel, by decide +kernel⟩
set_option maxHeartbeats 4000000 in
theorem b0W {m_less : DFn} {m_times : DFn} {m_sum_of : DFn} (C_less : Cal P w K mg base 3 "less" ["one", "other"] m_less) (C_times : Cal P w K mg base 5 "times" ["one", "other"] m_times) (C_sum_of : Cal P w K mg base 3 "sum_of" ["fractions"] m_sum_of) {f : Addr} {fd : FuncData} (B : Blt mg) (F : GF K mg "first_begin" a4e f fd) : Cal P w K mg base 6 "first_begin" ["pattern", "offset"] (a1y m_less m_times m_sum_of) :=
 o7 F (fun _ _ _ _ _ _ => on2 fun _ _ => rfl) sc_first_begin fun cdv A outer s H E g hr =>
  have nd := sc_first_begin.nd
  (i9 (l5 (i := 2) nd rfl (by first | exact Or.inl rfl | exact Or.inr rfl) (j6 C_sum_of _ hr (by decide) (by rfl) (ac (c8 (pv 0)) b6) (c7 j4))) (i9 (l5 (i := 3) nd rfl (by first | exact Or.inl rfl | exact Or.inr rfl) (j7 D2 D3 (EO.b (j7 m6 m7 (EO.b (i5 i7 i6 (c5 (pv 1)) (EO.b a9) (fun _ _ => rfl))) (EO.b (i5 i7 i6 (c5 (pv 2)) (EO.b a9) (fun _ _ => rfl))))) (EO.b (j7 m6 m7 (EO.b (i5 i7 i6 (c5 (pv 1)) (EO.b a9) (fun _ _ => rfl))) (EO.b (i5 i7 i6 (c5 (pv 2)) (EO.b a9) (fun _ _ => rfl))))))) (j9 (l8 (j6 C_less _ hr (by decide) (by rfl) (ac (j6 C_times _ hr (by decide) (by rfl) (ac (c8 (pv 2)) (ac (j3 (ac (c8 (pv 3)) (ac a9 b6))) b6)) (c7 (c7 j4))) (ac (c8 (pv 1)) b6)) (c7 (c7 j4)))))))
noncomputable abbrev a3q : Stmt := top 11
theorem sc_is_below : FnScope ["one", "other"] ["one", "other"] (l7 a3q) := ⟨rfl, rfl, rfl, by decide +kernel, rfl, by decide +kernel, by decide +kernel⟩
set_option maxHeartbeats 4000000 in
theorem a8g {f : Addr} {fd : FuncData} (B : Blt mg) (F : GF K mg "is_below" a3q f fd) : Cal P w K mg base 1 "is_below" ["one", "other"] (w6) :=
 o7 F (fun _ _ _ _ _ _ => on2 fun _ _ => rfl) sc_is_below fun cdv A outer s H E g hr =>
  have nd := sc_is_below.nd
  (j9 (l8 (b2J V5 (F7 (fun i j => decide (i < j))) (EO.b (j7 m6 m7 (EO.b (i5 i7 i6 (c5 (pv 0)) (EO.b a9) (fun _ _ => rfl))) (EO.b (i5 i7 i6 (c5 (pv 1)) (EO.b a9) (fun _ _ => rfl))))) (EO.b (j7 m6 m7 (EO.b (i5 i7 i6 (c5 (pv 1)) (EO.b a9) (fun _ _ => rfl))) (EO.b (i5 i7 i6 (c5 (pv 0)) (EO.b a9) (fun _ _ => rfl))))) (v3 _))))
noncomputable abbrev a16 : Stmt := top 36
theorem sc_greater_of : FnScope ["one", "other"] ["one", "other"] (l7 a16) := ⟨rfl, rfl, rfl, by decide +kernel, rfl, by decide +kernel, by decide +kernel⟩
set_option maxHeartbeats 4000000 in
theorem b31 {m_is_below : DFn} (C_is_below : Cal P w K mg base 1 "is_below" ["one", "other"] m_is_below) {f : Addr} {fd : FuncData} (B : Blt mg) (F : GF K mg "greater_of" a16 f fd) : Cal P w K mg base 2 "greater_of" ["one", "other"] (a0Z m_is_below) :=
 o7 F (fun _ _ _ _ _ _ => on2 fun _ _ => rfl) sc_greater_of fun cdv A outer s H E g hr =>
  have nd := sc_greater_of.nd
  (j9 (l8 (a1A (Q4 (EO.b (j6 C_is_below _ hr (by decide) (by rfl) (ac (c8 (pv 0)) (ac (c8 (pv 1)) b6)) (c7 (c7 j4))))) (c8 (pv 1)) (c8 (pv 0)))))
noncomputable abbrev a3J : Stmt := top 37
theorem sc_lesser_of : FnScope ["one", "other"] ["one", "other"] (l7 a3J) := ⟨rfl, rfl, rfl, by decide +kernel, rfl, by decide +kernel, by decide +kernel⟩
set_option maxHeartbeats 4000000 in
theorem a79 {m_is_below : DFn} (C_is_below : Cal P w K mg base 1 "is_below" ["one", "other"] m_is_below) {f : Addr} {fd : FuncData} (B : Blt mg) (F : GF K mg "lesser_of" a3J f fd) : Cal P w K mg base 2 "lesser_of" ["one", "other"] (a1s m_is_below) :=
 o7 F (fun _ _ _ _ _ _ => on2 fun _ _ => rfl) sc_lesser_of fun cdv A outer s H E g hr =>
  have nd := sc_lesser_of.nd
  (j9 (l8 (a1A (Q4 (EO.b (j6 C_is_below _ hr (by decide) (by rfl) (ac (c8 (pv 0)) (ac (c8 (pv 1)) b6)) (c7 (c7 j4))))) (c8 (pv 0)) (c8 (pv 1)))))
noncomputable abbrev a2Y : Stmt := top 33
theorem sc_mark_lengths : FnScope ["line", "pattern", "offset", "whole", "told", "begin", "number", "end"] ["line", "pattern", "offset"] (l7 a2Y) := ⟨rfl, rfl, rfl, by decide +kernel, rfl, by decide +kernel, by decide +kernel⟩
set_option maxHeartbeats 4000000 in
theorem b3m {m_is_below : DFn} {m_lesser_of : DFn} {m_greater_of : DFn} {m_plus : DFn} {m_first_begin : DFn} {m_line_length : DFn} (C_is_below : Cal P w K mg base 1 "is_below" ["one", "other"] m_is_below) (C_lesser_of : Cal P w K mg base 2 "lesser_of" ["one", "other"] m_lesser_of) (C_greater_of : Cal P w K mg base 2 "greater_of" ["one", "other"] m_greater_of) (C_plus : Cal P w K mg base 2 "plus" ["one", "other"] m_plus) (C_first_begin : Cal P w K mg base 6 "first_begin" ["pattern", "offset"] m_first_begin) (C_line_length : Cal P w K mg base 8 "line_length" ["line"] m_line_length) (C_MOST_MARKS : Con K mg "MOST_MARKS" (.int 200)) {f : Addr} {fd : FuncData} (B : Blt mg) (F : GF K mg "mark_lengths" a2Y f fd) : Cal P w K mg base 9 "mark_lengths" ["line", "pattern", "offset"] (a1w m_is_below m_lesser_of m_greater_of m_plus m_first_begin m_line_length) :=
 o7 F (fun _ _ _ _ _ _ => on3 fun _ _ _ => rfl) sc_mark_lengths fun cdv A outer s H E g hr =>
  have nd := sc_mark_lengths.nd
  (i9 (l5 (i := 3) nd rfl (by first | exact Or.inl rfl | exact Or.inr rfl) (j6 C_line_length _ hr (by decide) (by rfl) (ac (c8 (pv 0)) b6) (c7 j4))) (i9 (F5 (i := 4) nd rfl (by first | exact Or.inl rfl | exact Or.inr rfl) (y9 b6)) (i9 (l5 (i := 5) nd rfl (by first | exact Or.inl rfl | exact Or.inr rfl) (j6 C_first_begin _ hr (by decide) (by rfl) (ac (c8 (pv 1)) (ac (c8 (pv 2)) b6)) (c7 (c7 j4)))) (i9 (l5 (i := 6) nd rfl (by first | exact Or.inl rfl | exact Or.inr rfl) a9) (i9 (Q8 PassesOwn.never (Q4 (EO.b (j6 C_is_below _ hr (by decide) (by rfl) (ac (c8 (pv 5)) (ac (c8 (pv 3)) b6)) (c7 (c7 j4))))) (i9 (l5 (i := 7) nd rfl (by first | exact Or.inl rfl | exact Or.inr rfl) (j6 C_plus _ hr (by decide) (by rfl) (ac (c8 (pv 5)) (ac (i5 i7 i6 (c5 (pv 1)) (c5 (pv 6)) (fun _ _ => rfl)) b6)) (c7 (c7 j4)))) (i9 (B6 (WO.t (a4q (v5 (M8 (u64 hr)) N5 (EO.b (j7 J4 K4 (c5 (pv 6)) (EO.b a9))) (EO.b a9) (v3 _)) (a2r (Q4 (EO.b (j6 C_is_below _ hr (by decide) (by rfl) (ac (j3 (ac a9 (ac a9 b6))) (ac (c8 (pv 7)) b6)) (c7 (c7 j4)))))))) (j9 (U5 (pv 4) (j3 (ac (j6 C_greater_of _ hr (by decide) (by rfl) (ac (c8 (pv 5)) (ac (j3 (ac a9 (ac a9 b6))) b6)) (c7 (c7 j4))) (ac (j6 C_lesser_of _ hr (by decide) (by rfl) (ac (c8 (pv 7)) (ac (c8 (pv 3)) b6)) (c7 (c7 j4))) b6))))) B9) (i9 (B6 (v5 Y4 (F7 (fun i j => decide (j < i))) (EO.b (D0 Q5 O9 (by rfl) B.len Q0 (bc (c5 (pv 4)) v6))) (EO.b (b1e C_MOST_MARKS (by rfl))) (v3 _)) (j9 a8a) B9) (i9 (l5 (i := 5) nd rfl (by first | exact Or.inl rfl | exact Or.inr rfl) (c8 (pv 7))) (j9 (l5 (i := 6) nd rfl (by first | exact Or.inl rfl | exact Or.inr rfl) (j7 J4 K4 (EO.b (j7 B1 B2 (c5 (pv 6)) (EO.b a9))) (EO.b (D0 Q5 O9 (by rfl) B.len Q0 (bc (c5 (pv 1)) v6))))))))))) (j9 (l8 (c8 (pv 4)))))))))
noncomputable abbrev a4w : Stmt := top 22
theorem sc_between : FnScope ["a", "b", "share", "near", "far"] ["a", "b", "share"] (l7 a4w) := ⟨rfl, rfl, rfl, by decide +kernel, rfl, by decide +kernel, by decide +kernel⟩
set_option maxHeartbeats 4000000 in
theorem b17 {m_lowest : DFn} (C_lowest : Cal P w K mg base 3 "lowest" ["parts"] m_lowest) {f : Addr} {fd : FuncData} (B : Blt mg) (F : GF K mg "between" a4w f fd) : Cal P w K mg base 4 "between" ["a", "b", "share"] (a1m m_lowest) :=
 o7 F (fun _ _ _ _ _ _ => on3 fun _ _ _ => rfl) sc_between fun cdv A outer s H E g hr =>
  have nd := sc_between.nd
  (i9 (l5 (i := 3) nd rfl (by first | exact Or.inl rfl | exact Or.inr rfl) (j7 m6 m7 (EO.b (i5 i7 i6 (c5 (pv 1)) (EO.b a9) (fun _ _ => rfl))) (EO.b (j7 N6 M2 (EO.b (i5 i7 i6 (c5 (pv 2)) (EO.b a9) (fun _ _ => rfl))) (EO.b (i5 i7 i6 (c5 (pv 2)) (EO.b a9) (fun _ _ => rfl))))))) (i9 (l5 (i := 4) nd rfl (by first | exact Or.inl rfl | exact Or.inr rfl) (j7 m6 m7 (EO.b (i5 i7 i6 (c5 (pv 0)) (EO.b a9) (fun _ _ => rfl))) (EO.b (i5 i7 i6 (c5 (pv 2)) (EO.b a9) (fun _ _ => rfl))))) (j9 (l8 (j6 C_lowest _ hr (by decide) (by rfl) (ac (j3 (ac (j7 B1 B2 (EO.b (j7 m6 m7 (EO.b (i5 i7 i6 (c5 (pv 0)) (EO.b a9) (fun _ _ => rfl))) (c5 (pv 3)))) (EO.b (j7 m6 m7 (EO.b (i5 i7 i6 (c5 (pv 1)) (EO.b a9) (fun _ _ => rfl))) (c5 (pv 4))))) (ac (j7 B1 B2 (EO.b (j7 m6 m7 (EO.b (i5 i7 i6 (c5 (pv 0)) (EO.b a9) (fun _ _ => rfl))) (c5 (pv 3)))) (EO.b (j7 m6 m7 (EO.b (i5 i7 i6 (c5 (pv 1)) (EO.b a9) (fun _ _ => rfl))) (c5 (pv 4))))) (ac (j7 m6 m7 (EO.b (j7 m6 m7 (EO.b (i5 i7 i6 (c5 (pv 0)) (EO.b a9) (fun _ _ => rfl))) (EO.b (i5 i7 i6 (c5 (pv 1)) (EO.b a9) (fun _ _ => rfl))))) (EO.b (i5 i7 i6 (c5 (pv 2)) (EO.b a9) (fun _ _ => rfl)))) b6)))) b6) (c7 j4))))))
noncomputable abbrev a4D : Stmt := top 29
theorem sc_place_at : FnScope ["line", "length", "rows", "number", "piece", "gone", "whole"] ["line", "length"] (l7 a4D) := ⟨rfl, rfl, rfl, by decide +kernel, rfl, by decide +kernel, by decide +kernel⟩
set_option maxHeartbeats 4000000 in
theorem b3l {m_between : DFn} {m_fraction : DFn} {m_less : DFn} {m_pieces : DFn} {m_is_below : DFn} {m_stations : DFn} (C_between : Cal P w K mg base 4 "between" ["a", "b", "share"] m_between) (C_fraction : Cal P w K mg base 4 "fraction" ["top", "bottom"] m_fraction) (C_less : Cal P w K mg base 3 "less" ["one", "other"] m_less) (C_pieces : Cal P w K mg base 2 "pieces" ["line"] m_pieces) (C_is_below : Cal P w K mg base 1 "is_below" ["one", "other"] m_is_below) (C_stations : Cal P w K mg base 7 "stations" ["line"] m_stations) {f : Addr} {fd : FuncData} (B : Blt mg) (F : GF K mg "place_at" a4D f fd) : Cal P w K mg base 8 "place_at" ["line", "length"] (a0M m_between m_fraction m_less m_pieces m_is_below m_stations) :=
 o7 F (fun _ _ _ _ _ _ => on2 fun _ _ => rfl) sc_place_at fun cdv A outer s H E g hr =>
  have nd := sc_place_at.nd
  (i9 (l5 (i := 2) nd rfl (by first | exact Or.inl rfl | exact Or.inr rfl) (j6 C_stations _ hr (by decide) (by rfl) (ac (c8 (pv 0)) b6) (c7 j4))) (i9 (l5 (i := 3) nd rfl (by first | exact Or.inl rfl | exact Or.inr rfl) a9) (i9 (Q8 PassesOwn.never (Q4 (EO.b (j6 C_is_below _ hr (by decide) (by rfl) (ac (i5 i7 i6 (c5 (pv 2)) (EO.b (j7 B1 B2 (c5 (pv 3)) (EO.b a9))) (fun _ _ => rfl)) (ac (c8 (pv 1)) b6)) (c7 (c7 j4))))) (j9 (l5 (i := 3) nd rfl (by first | exact Or.inl rfl | exact Or.inr rfl) (j7 B1 B2 (c5 (pv 3)) (EO.b a9))))) (i9 (l5 (i := 4) nd rfl (by first | exact Or.inl rfl | exact Or.inr rfl) (i5 i7 i6 (EO.b (j6 C_pieces _ hr (by decide) (by rfl) (ac (c8 (pv 0)) b6) (c7 j4))) (c5 (pv 3)) (fun _ _ => rfl))) (i9 (l5 (i := 5) nd rfl (by first | exact Or.inl rfl | exact Or.inr rfl) (j6 C_less _ hr (by decide) (by rfl) (ac (c8 (pv 1)) (ac (i5 i7 i6 (c5 (pv 2)) (c5 (pv 3)) (fun _ _ => rfl)) b6)) (c7 (c7 j4)))) (i9 (l5 (i := 6) nd rfl (by first | exact Or.inl rfl | exact Or.inr rfl) (j6 C_less _ hr (by decide) (by rfl) (ac (i5 i7 i6 (c5 (pv 2)) (EO.b (j7 B1 B2 (c5 (pv 3)) (EO.b a9))) (fun _ _ => rfl)) (ac (i5 i7 i6 (c5 (pv 2)) (c5 (pv 3)) (fun _ _ => rfl)) b6)) (c7 (c7 j4)))) (j9 (l8 (j6 C_between _ hr (by decide) (by rfl) (ac (i5 i7 i6 (c5 (pv 4)) (EO.b a9) (fun _ _ => rfl)) (ac (i5 i7 i6 (c5 (pv 4)) (EO.b a9) (fun _ _ => rfl)) (ac (j6 C_fraction _ hr (by decide) (by rfl) (ac (j7 m6 m7 (EO.b (i5 i7 i6 (c5 (pv 5)) (EO.b a9) (fun _ _ => rfl))) (EO.b (i5 i7 i6 (c5 (pv 6)) (EO.b a9) (fun _ _ => rfl)))) (ac (j7 m6 m7 (EO.b (i5 i7 i6 (c5 (pv 5)) (EO.b a9) (fun _ _ => rfl))) (EO.b (i5 i7 i6 (c5 (pv 6)) (EO.b a9) (fun _ _ => rfl)))) b6)) (c7 (c7 j4))) b6))) (c7 (c7 (c7 j4))))))))))))
noncomputable abbrev a2q : Stmt := top 32
theorem sc_part_of : FnScope ["line", "begin", "end", "told", "one", "station"] ["line", "begin", "end"] (l7 a2q) := ⟨rfl, rfl, rfl, by decide +kernel, rfl, by decide +kernel, by decide +kernel⟩
set_option maxHeartbeats 4000000 in
theorem b34 {m_place_at : DFn} {m_is_below : DFn} {m_stations : DFn} (C_place_at : Cal P w K mg base 8 "place_at" ["line", "length"] m_place_at) (C_is_below : Cal P w K mg base 1 "is_below" ["one", "other"] m_is_below) (C_stations : Cal P w K mg base 7 "stations" ["line"] m_stations) {f : Addr} {fd : FuncData} (B : Blt mg) (F : GF K mg "part_of" a2q f fd) : Cal P w K mg base 9 "part_of" ["line", "begin", "end"] (a2w m_place_at m_is_below m_stations) :=
 o7 F (fun _ _ _ _ _ _ => on3 fun _ _ _ => rfl) sc_part_of fun cdv A outer s H E g hr =>
  have nd := sc_part_of.nd
  (i9 (F5 (i := 3) nd rfl (by first | exact Or.inl rfl | exact Or.inr rfl) (y9 (ac (j6 C_place_at _ hr (by decide) (by rfl) (ac (c8 (pv 0)) (ac (c8 (pv 1)) b6)) (c7 (c7 j4))) b6))) (i9 (a9n PassesOwn.never rfl (by rfl) B.zip (ac (i5 i7 i6 (c5 (pv 0)) (EO.b a9) (fun _ _ => rfl)) (ac (j6 C_stations _ hr (by decide) (by rfl) (ac (c8 (pv 0)) b6) (c7 j4)) b6)) (F8 rfl (v7 (u7 (t6 (i := 4) nd rfl (by first | exact Or.inl rfl | exact Or.inr rfl))) (v7 (u7 (t6 (i := 5) nd rfl (by first | exact Or.inl rfl | exact Or.inr rfl))) F6))) (j9 (B6 (WO.t (a4q (Q4 (EO.b (j6 C_is_below _ hr (by decide) (by rfl) (ac (c8 (pv 1)) (ac (c8 (pv 5)) b6)) (c7 (c7 j4))))) (a2r (Q4 (EO.b (j6 C_is_below _ hr (by decide) (by rfl) (ac (c8 (pv 5)) (ac (c8 (pv 2)) b6)) (c7 (c7 j4)))))))) (j9 (U5 (pv 3) (c8 (pv 4)))) B9))) (i9 (U5 (pv 3) (j6 C_place_at _ hr (by decide) (by rfl) (ac (c8 (pv 0)) (ac (c8 (pv 2)) b6)) (c7 (c7 j4)))) (j9 (l8 (j3 (ac N0 (ac (L1 N4 N2 (by rfl) B.tuple M9 (bc (c5 (pv 3)) v6)) b6))))))))
noncomputable abbrev a3S : Stmt := top 38
theorem sc_marks_of : FnScope ["line", "pattern", "offset"] ["line", "pattern", "offset"] (l7 a3S) := ⟨rfl, rfl, rfl, by decide +kernel, rfl, by decide +kernel, by decide +kernel⟩
set_option maxHeartbeats 4000000 in
theorem b1W {m_mark_lengths : DFn} {m_part_of : DFn} (C_mark_lengths : Cal P w K mg base 9 "mark_lengths" ["line", "pattern", "offset"] m_mark_lengths) (C_part_of : Cal P w K mg base 9 "part_of" ["line", "begin", "end"] m_part_of) {f : Addr} {fd : FuncData} (B : Blt mg) (F : GF K mg "marks_of" a3S f fd) : Cal P w K mg base 10 "marks_of" ["line", "pattern", "offset"] (a2J m_mark_lengths m_part_of) :=
 o7 F (fun _ _ _ _ _ _ => on3 fun _ _ _ => rfl) sc_marks_of fun cdv A outer s H E g hr =>
  have nd := sc_marks_of.nd
  (j9 (l8 (FO.v (a0S (caps := ["line"]) (idx := [0]) rfl (a0b (by rfl) (.cons rfl .nil) (by decide +kernel) rfl (by decide +kernel) (by rfl) (.cons rfl (by first | exact Or.inl rfl | exact Or.inr rfl) (by first | exact Or.inl rfl | exact Or.inr rfl) .nil)) (L6 (j6 C_mark_lengths _ hr (by decide) (by rfl) (ac (c8 (pv 0)) (ac (c8 (pv 1)) (ac (c8 (pv 2)) b6))) (c7 (c7 (c7 j4))))) (show List.Nodup (["begin", "end", "line"] : List Str) by decide +kernel) (fun _ _ _ _ => rfl) (fun _ _ _ _ => rfl) (fun _ _ _ _ _ => J3) (fun _ _ _ _ _ => (j6 C_part_of _ hr (by decide) (by rfl) (ac (c8 (pv 2)) (ac (c8 (pv 0)) (ac (c8 (pv 1)) b6))) (c7 (c7 (c7 j4)))))))))
noncomputable abbrev a10 : Stmt := top 65
theorem sc_law_right : FnScope ["_law_tape", "_law_line", "_law_change_here", "_law_size_here", "_law_length", "_law_pattern", "_law_offset", "_law_later", "_law_wide", "_law_far", "_law_due", "_law_parts", "_law_share", "_law_one"] ["_law_tape", "_law_line", "_law_change_here"] (l7 a10) := ⟨rfl, rfl, rfl, by decide +kernel, rfl, by decide +kernel, by decide +kernel⟩
set_option maxHeartbeats 4000000 in
theorem b3w {m_place_at : DFn} {m_law_product : DFn} {m_changed_place : DFn} {m_law_draw : DFn} {m_marks_of : DFn} {m_changed_line : DFn} {m_mark_lengths : DFn} {m_line_length : DFn} {m_law_shares : DFn} {m_law_sums : DFn} (C_place_at : Cal P w K mg base 8 "place_at" ["line", "length"] m_place_at) (C_law_product : Cal P w K mg base 3 "_law_product" ["_law_one", "_law_other"] m_law_product) (C_changed_place : Cal P w K mg base 6 "changed_place" ["change", "one"] m_changed_place) (C_law_draw : Cal P w K mg base 1 "_law_draw" ["_law_tape", "_law_many"] m_law_draw) (C_marks_of : Cal P w K mg base 10 "marks_of" ["line", "pattern", "offset"] m_marks_of) (C_changed_line : Cal P w K mg base 8 "changed_line" ["change", "line"] m_changed_line) (C_mark_lengths : Cal P w K mg base 9 "mark_lengths" ["line", "pattern", "offset"] m_mark_lengths) (C_line_length : Cal P w K mg base 8 "line_length" ["line"] m_line_length) (C_law_shares : Cal P w K mg base 4 "_law_shares" ["_law_tape", "_law_length"] m_law_shares) (C_law_sums : Cal P w K mg base 6 "_law_sums" ["_law_line"] m_law_sums) {f : Addr} {fd : FuncData} (B : Blt mg) (F : GF K mg "_law_right" a10 f fd) : Cal P w K mg base 11 "_law_right" ["_law_tape", "_law_line", "_law_change_here"] (a33 m_place_at m_law_product m_changed_place m_law_draw m_marks_of m_changed_line m_mark_lengths m_line_length m_law_shares m_law_sums) :=
 o7 F (fun _ _ _ _ _ _ => on3 fun _ _ _ => rfl) sc_law_right fun cdv A outer s H E g hr =>
  have nd := sc_law_right.nd
  (i9 (l5 (i := 3) nd rfl (by first | exact Or.inl rfl | exact Or.inr rfl) (a1A (v5 (M8 (u64 hr)) N5 (EO.b (i5 i7 i6 (c5 (pv 2)) (EO.b a9) (fun _ _ => rfl))) (EO.b (S0 (by decide +kernel))) (v3 _)) (i5 i7 i6 (c5 (pv 2)) (EO.b a9) (fun _ _ => rfl)) (j3 (ac a9 (ac a9 b6))))) (i9 (l5 (i := 4) nd rfl (by first | exact Or.inl rfl | exact Or.inr rfl) (i5 i7 i6 (EO.b (j6 C_law_sums _ hr (by decide) (by rfl) (ac (c8 (pv 1)) b6) (c7 j4))) (EO.b (C0 B8 B7 (EO.b a9))) (fun _ _ => rfl))) (i9 (P8 (j6 C_law_shares _ hr (by decide) (by rfl) (ac (c8 (pv 0)) (ac (c8 (pv 4)) b6)) (c7 (c7 j4))) (F8 rfl (v7 (u7 (t6 (i := 5) nd rfl (by first | exact Or.inl rfl | exact Or.inr rfl))) (v7 (u7 (t6 (i := 6) nd rfl (by first | exact Or.inl rfl | exact Or.inr rfl))) F6)))) (i9 (l5 (i := 7) nd rfl (by first | exact Or.inl rfl | exact Or.inr rfl) (j6 C_changed_line _ hr (by decide) (by rfl) (ac (c8 (pv 2)) (ac (c8 (pv 1)) b6)) (c7 (c7 j4)))) (i9 (B6 (v5 (T2 (u64 hr)) Q7 (EO.b (D0 (Y9 (u66 hr) hr.gd) W0 (by rfl) B.repr V7 (bc (EO.b (j6 C_line_length _ hr (by decide) (by rfl) (ac (c8 (pv 7)) b6) (c7 j4))) v6))) (EO.b (D0 (Y9 (u66 hr) hr.gd) W0 (by rfl) B.repr V7 (bc (EO.b (j6 C_law_product _ hr (by decide) (by rfl) (ac (c8 (pv 4)) (ac (c8 (pv 3)) b6)) (c7 (c7 j4)))) v6))) (v3 _)) (j9 (l8 N0)) B9) (i9 (l5 (i := 8) nd rfl (by first | exact Or.inl rfl | exact Or.inr rfl) (L1 N4 N2 (by rfl) B.tuple M9 (bc (EO.b (FO.v (a0y (N' := ["_law_one", "_law_size_here"]) (idx := [3]) rfl (R5 (by rfl) (.cons rfl .nil) (by decide +kernel) rfl (by decide +kernel) (by rfl) (.cons rfl (by first | exact Or.inl rfl | exact Or.inr rfl) (by first | exact Or.inl rfl | exact Or.inr rfl) .nil)) (L6 (c8 (pv 5))) (fun _ _ _ _ => t6 (i := 0) (show List.Nodup (["_law_one", "_law_size_here"] : List Str) by decide +kernel) rfl (Or.inl rfl)) (fun _ _ _ _ _ => J3) (fun _ _ _ _ _ => (j6 C_law_product _ hr (by decide) (by rfl) (ac (c8 (pv 0)) (ac (c8 (pv 1)) b6)) (c7 (c7 j4))))))) v6))) (i9 (l5 (i := 9) nd rfl (by first | exact Or.inl rfl | exact Or.inr rfl) (j6 C_law_product _ hr (by decide) (by rfl) (ac (c8 (pv 6)) (ac (c8 (pv 3)) b6)) (c7 (c7 j4)))) (i9 (a09 (i := 10) nd rfl (by first | exact Or.inl rfl | exact Or.inr rfl) (a86 (caps := ["_law_size_here"]) (idx := [3]) rfl (a0b (by rfl) (.cons rfl .nil) (by decide +kernel) rfl (by decide +kernel) (by rfl) (.cons rfl (by first | exact Or.inl rfl | exact Or.inr rfl) (by first | exact Or.inl rfl | exact Or.inr rfl) .nil)) (L6 (j6 C_mark_lengths _ hr (by decide) (by rfl) (ac (c8 (pv 1)) (ac (c8 (pv 5)) (ac (c8 (pv 6)) b6))) (c7 (c7 (c7 j4))))) (show List.Nodup (["_law_low_here", "_law_high", "_law_size_here"] : List Str) by decide +kernel) (fun _ _ _ _ => rfl) (fun _ _ _ _ => rfl) (fun _ _ _ _ _ => J3) (fun _ _ _ _ _ => (j3 (ac (j6 C_law_product _ hr (by decide) (by rfl) (ac (c8 (pv 0)) (ac (c8 (pv 2)) b6)) (c7 (c7 j4))) (ac (j6 C_law_product _ hr (by decide) (by rfl) (ac (c8 (pv 1)) (ac (c8 (pv 2)) b6)) (c7 (c7 j4))) b6)))))) (i9 (B6 (v5 (T2 (u64 hr)) Q7 (EO.b (D0 (Y9 (u66 hr) hr.gd) W0 (by rfl) B.repr V7 (bc (EO.b (j6 C_mark_lengths _ hr (by decide) (by rfl) (ac (c8 (pv 7)) (ac (c8 (pv 8)) (ac (c8 (pv 9)) b6))) (c7 (c7 (c7 j4))))) v6))) (EO.b (D0 (Y9 (u66 hr) hr.gd) W0 (by rfl) B.repr V7 (bc (c5 (pv 10)) v6))) (v3 _)) (j9 (l8 N0)) B9) (i9 (a09 (i := 11) nd rfl (by first | exact Or.inl rfl | exact Or.inr rfl) (a3Y (N' := ["_law_part", "_law_change_here"]) (idx := [2]) rfl (R5 (by rfl) (.cons rfl .nil) (by decide +kernel) rfl (by decide +kernel) (by rfl) (.cons rfl (by first | exact Or.inl rfl | exact Or.inr rfl) (by first | exact Or.inl rfl | exact Or.inr rfl) .nil)) (L6 (j6 C_marks_of _ hr (by decide) (by rfl) (ac (c8 (pv 1)) (ac (c8 (pv 5)) (ac (c8 (pv 6)) b6))) (c7 (c7 (c7 j4))))) (fun _ _ _ _ => t6 (i := 0) (show List.Nodup (["_law_part", "_law_change_here"] : List Str) by decide +kernel) rfl (Or.inl rfl)) (fun _ _ _ _ _ => J3) (fun _ _ _ _ _ => (j6 C_changed_line _ hr (by decide) (by rfl) (ac (c8 (pv 1)) (ac (c8 (pv 0)) b6)) (c7 (c7 j4)))))) (i9 (B6 (v5 (T2 (u64 hr)) Q7 (EO.b (D0 (Y9 (u66 hr) hr.gd) W0 (by rfl) B.repr V7 (bc (EO.b (j6 C_marks_of _ hr (by decide) (by rfl) (ac (c8 (pv 7)) (ac (c8 (pv 8)) (ac (c8 (pv 9)) b6))) (c7 (c7 (c7 j4))))) v6))) (EO.b (D0 (Y9 (u66 hr) hr.gd) W0 (by rfl) B.repr V7 (bc (c5 (pv 11)) v6))) (v3 _)) (j9 (l8 N0)) B9) (i9 (U4 PassesOwn.never rfl (FO.v (y9 (ac (j3 (ac a9 (ac a9 b6))) (ac (j3 (ac a9 (ac a9 b6))) (ac (j3 (ac (j7 B1 B2 (EO.b a9) (EO.b (j6 C_law_draw _ hr (by decide) (by rfl) (ac (c8 (pv 0)) (ac a9 b6)) (c7 (c7 j4))))) (ac a9 b6))) (ac (j3 (ac a9 (ac a9 b6))) b6)))))) (u7 (t6 (i := 12) nd rfl (by first | exact Or.inl rfl | exact Or.inr rfl))) (i9 (l5 (i := 13) nd rfl (by first | exact Or.inl rfl | exact Or.inr rfl) (j6 C_law_product _ hr (by decide) (by rfl) (ac (c8 (pv 4)) (ac (c8 (pv 12)) b6)) (c7 (c7 j4)))) (j9 (B6 (v5 (T2 (u64 hr)) Q7 (EO.b (j6 C_place_at _ hr (by decide) (by rfl) (ac (c8 (pv 7)) (ac (j6 C_law_product _ hr (by decide) (by rfl) (ac (c8 (pv 13)) (ac (c8 (pv 3)) b6)) (c7 (c7 j4))) b6)) (c7 (c7 j4)))) (EO.b (j6 C_changed_place _ hr (by decide) (by rfl) (ac (c8 (pv 2)) (ac (j6 C_place_at _ hr (by decide) (by rfl) (ac (c8 (pv 1)) (ac (c8 (pv 13)) b6)) (c7 (c7 j4))) b6)) (c7 (c7 j4)))) (v3 _)) (j9 (l8 N0)) B9)))) (j9 (l8 N0))))))))))))))
noncomputable abbrev a32 : Stmt := top 64
theorem sc_law_change : FnScope ["_law_tape", "_law_choice", "_law_some", "_law_x"] ["_law_tape"] (l7 a32) := ⟨rfl, rfl, rfl, by decide +kernel, rfl, by decide +kernel, by decide +kernel⟩
set_option maxHeartbeats 4000000 in
theorem a90 {m_law_draw : DFn} (C_law_draw : Cal P w K mg base 1 "_law_draw" ["_law_tape", "_law_many"] m_law_draw) {f : Addr} {fd : FuncData} (B : Blt mg) (F : GF K mg "_law_change" a32 f fd) : Cal P w K mg base 2 "_law_change" ["_law_tape"] (a38 m_law_draw) :=
 o7 F (fun _ _ _ _ _ _ => on1 fun _ => rfl) sc_law_change fun cdv A outer s H E g hr =>
  have nd := sc_law_change.nd
  (i9 (l5 (i := 1) nd rfl (by first | exact Or.inl rfl | exact Or.inr rfl) (j6 C_law_draw _ hr (by decide) (by rfl) (ac (c8 (pv 0)) (ac a9 b6)) (c7 (c7 j4)))) (i9 (B6 (v5 (M8 (u64 hr)) N5 (c5 (pv 1)) (EO.b a9) (v3 _)) (i9 (F5 (i := 2) nd rfl (by first | exact Or.inl rfl | exact Or.inr rfl) (y9 (ac (j3 (ac a9 (ac a9 b6))) (ac (j3 (ac a9 (ac a9 b6))) (ac (j3 (ac (C0 B8 B7 (EO.b a9)) (ac a9 b6))) (ac (j3 (ac a9 (ac a9 b6))) (ac (j3 (ac (C0 B8 B7 (EO.b a9)) (ac a9 b6))) b6))))))) (i9 (l5 (i := 3) nd rfl (by first | exact Or.inl rfl | exact Or.inr rfl) (i5 i7 i6 (c5 (pv 2)) (EO.b (j6 C_law_draw _ hr (by decide) (by rfl) (ac (c8 (pv 0)) (ac a9 b6)) (c7 (c7 j4)))) (fun _ _ => rfl))) (j9 (l8 (j3 (ac (S0 (by decide +kernel)) (ac (c8 (pv 3)) (ac (i5 i7 i6 (c5 (pv 2)) (EO.b (j6 C_law_draw _ hr (by decide) (by rfl) (ac (c8 (pv 0)) (ac a9 b6)) (c7 (c7 j4)))) (fun _ _ => rfl)) b6)))))))) B9) (i9 (B6 (v5 (M8 (u64 hr)) N5 (c5 (pv 1)) (EO.b a9) (v3 _)) (j9 (l8 (j3 (ac (S0 (by decide +kernel)) (ac (i5 i7 i6 (EO.b (FO.v (y9 (ac (j3 (ac a9 (ac a9 b6))) (ac (j3 (ac a9 (ac a9 b6))) (ac (j3 (ac a9 (ac a9 b6))) (ac (j3 (ac a9 (ac a9 b6))) (ac (j3 (ac a9 (ac a9 b6))) b6)))))))) (EO.b (j6 C_law_draw _ hr (by decide) (by rfl) (ac (c8 (pv 0)) (ac a9 b6)) (c7 (c7 j4)))) (fun _ _ => rfl)) b6))))) B9) (j9 (l8 (i5 i7 i6 (EO.b (FO.v (y9 (ac (j3 (ac (S0 (by decide +kernel)) b6)) (ac (j3 (ac (S0 (by decide +kernel)) b6)) b6))))) (EO.b (j7 N6 M2 (c5 (pv 1)) (EO.b a9))) (fun _ _ => rfl)))))))
noncomputable abbrev a24 : Stmt := top 66
theorem sc_law : FnScope ["_law_script", "_law_tape", "_law_k", "_law_line"] ["_law_script"] (l7 a24) := ⟨rfl, rfl, rfl, by decide +kernel, rfl, by decide +kernel, by decide +kernel⟩
set_option maxHeartbeats 4000000 in
theorem b0h {m_law_right : DFn} {m_law_change : DFn} {m_law_exact : DFn} {m_law_new_tape : DFn} (C_law_right : Cal P w K mg base 11 "_law_right" ["_law_tape", "_law_line", "_law_change_here"] m_law_right) (C_law_change : Cal P w K mg base 2 "_law_change" ["_law_tape"] m_law_change) (C_law_exact : Cal P w K mg base 5 "_law_exact" ["_law_tape", "_law_most"] m_law_exact) (C_law_new_tape : Cal P w K mg base 1 "_law_new_tape" ["_law_script"] m_law_new_tape) {f : Addr} {fd : FuncData} (B : Blt mg) (F : Fun K "law" "law" a24 f fd) : FnD P w K mg base 12 f fd ["_law_script"] (a4F m_law_right m_law_change m_law_exact m_law_new_tape) :=
 a4S F sc_law fun cdv A outer s H E g hr =>
  have nd := sc_law.nd
  (i9 (l5 (i := 1) nd rfl (by first | exact Or.inl rfl | exact Or.inr rfl) (j6 C_law_new_tape _ hr (by decide) (by rfl) (ac (c8 (pv 0)) b6) (c7 j4))) (i9 (a6p PassesOwn.never rfl (by rfl) B.range a9 (u7 (t6 (i := 2) nd rfl (by first | exact Or.inl rfl | exact Or.inr rfl))) (i9 (l5 (i := 3) nd rfl (by first | exact Or.inl rfl | exact Or.inr rfl) (j6 C_law_exact _ hr (by decide) (by rfl) (ac (c8 (pv 1)) (ac a9 b6)) (c7 (c7 j4)))) (j9 (B6 (b0J (Q4 (EO.b (j6 C_law_right _ hr (by decide) (by rfl) (ac (c8 (pv 1)) (ac (c8 (pv 3)) (ac (j6 C_law_change _ hr (by decide) (by rfl) (ac (c8 (pv 1)) b6) (c7 j4)) b6))) (c7 (c7 (c7 j4))))))) (j9 (l8 N0)) B9)))) (j9 (l8 N0))))
end
noncomputable abbrev whole : DFn := (a4F (a33 (a0M (a1m (C3 (A4 o9))) (E6 (C3 (A4 o9))) (W9 (D7 o9)) (M5 J9) w6 (S8 (D7 o9) (S7 (M5 J9) (P4 (M0 G3)) (L8 (E6 (C3 (A4 o9))))))) (U8 (G8 F9)) (a1q (C3 (A4 o9)) (P0 (C3 (A4 o9))) (D7 o9) (P5 (E6 (C3 (A4 o9)))) (N8 (E6 (C3 (A4 o9))))) L3 (a2J (a1w w6 (a1s w6) (a0Z w6) (D7 o9) (a1y (W9 (D7 o9)) (a1b (E6 (C3 (A4 o9)))) (a1u (D7 o9))) (a0l (S8 (D7 o9) (S7 (M5 J9) (P4 (M0 G3)) (L8 (E6 (C3 (A4 o9)))))))) (a2w (a0M (a1m (C3 (A4 o9))) (E6 (C3 (A4 o9))) (W9 (D7 o9)) (M5 J9) w6 (S8 (D7 o9) (S7 (M5 J9) (P4 (M0 G3)) (L8 (E6 (C3 (A4 o9))))))) w6 (S8 (D7 o9) (S7 (M5 J9) (P4 (M0 G3)) (L8 (E6 (C3 (A4 o9)))))))) (a1P (a36 (a1q (C3 (A4 o9)) (P0 (C3 (A4 o9))) (D7 o9) (P5 (E6 (C3 (A4 o9)))) (N8 (E6 (C3 (A4 o9))))))) (a1w w6 (a1s w6) (a0Z w6) (D7 o9) (a1y (W9 (D7 o9)) (a1b (E6 (C3 (A4 o9)))) (a1u (D7 o9))) (a0l (S8 (D7 o9) (S7 (M5 J9) (P4 (M0 G3)) (L8 (E6 (C3 (A4 o9)))))))) (a0l (S8 (D7 o9) (S7 (M5 J9) (P4 (M0 G3)) (L8 (E6 (C3 (A4 o9))))))) (a2Z (U8 (G8 F9)) L3) (a3K (W7 (G8 F9)) (a3R Z5 (a3M (W7 (G8 F9)) (U8 (G8 F9)) (a4A (G8 F9)) (a2L (G8 F9)))) X2)) (a38 L3) (a2K L3 (a2l (a1n F9) (W7 (G8 F9)) (U8 (G8 F9)) (a1a L3) L3) (a1T (a1n F9) (W7 (G8 F9)) (U8 (G8 F9)) L3 (a1a L3) (a2X L3))) U7)
set_option maxHeartbeats 4000000 in
theorem all_mk {l : PySem.W.OpenLaw} {w : World} {K : PySem.W.Frag} {h : Heap} {mg : Str → Option Value} {fa : Addr} (X : K.In h) (G : h.Ns mainGlobals mg) (hfa : mg "law" = some (.ref fa)) {f1 f2 f3 f4 f5 f6 f7 f8 f9 f10 f11 f12 f13 f14 f15 f16 f17 f18 f19 f20 f21 f22 f23 f24 f25 f26 f27 f28 f29 f30 f31 f32 f33 f34 f35 f36 f37 f38 f39 f40 f41 f42 f43 f44 f45 f46 f47 f48 f49 f50 f51 f52 f53 f54 f55 : Addr} {d1 d2 d3 d4 d5 d6 d7 d8 d9 d10 d11 d12 d13 d14 d15 d16 d17 d18 d19 d20 d21 d22 d23 d24 d25 d26 d27 d28 d29 d30 d31 d32 d33 d34 d35 d36 d37 d38 d39 d40 d41 d42 d43 d44 d45 d46 d47 d48 d49 d50 d51 d52 d53 d54 d55 : FuncData} {t_MOST_MARKS_1 : Tok}
  (g1 : GF K mg "_law_new_tape" a2p f1 d1)
  (g2 : GF K mg "_law_draw" a3E f2 d2)
  (g3 : GF K mg "_law_start" a3f f3 d3)
  (g4 : GF K mg "_law_divisor" a4y f4 d4)
  (g5 : GF K mg "_law_low" a3r f5 d5)
  (g6 : GF K mg "_law_product" a3H f6 d6)
  (g7 : GF K mg "_law_spot" a2e f7 d7)
  (g8 : GF K mg "_law_plus" a2o f8 d8)
  (g9 : GF K mg "_law_closed" a2R f9 d9)
  (g10 : GF K mg "_law_menu" a3l f10 d10)
  (g11 : GF K mg "_law_open" a21 f11 d11)
  (g12 : GF K mg "_law_exact" a2B f12 d12)
  (g13 : GF K mg "_law_shares" a1O f13 d13)
  (g14 : GF K mg "divisor_of_two" a2x f14 d14)
  (g15 : GF K mg "divisor" a2S f15 d15)
  (g16 : GF K mg "lowest" a4I f16 d16)
  (g17 : GF K mg "place" a27 f17 d17)
  (g18 : GF K mg "plus" a3w f18 d18)
  (g19 : GF K mg "fraction" a4B f19 d19)
  (g20 : GF K mg "across" a3F f20 d20)
  (g21 : GF K mg "up" a4c f21 d21)
  (g22 : GF K mg "changed_place" a1Q f22 d22)
  (g23 : GF K mg "changed_places" a4b f23 d23)
  (g24 : GF K mg "changed_line" a3p f24 d24)
  (g25 : GF K mg "_law_pairs" a25 f25 d25)
  (g26 : GF K mg "_law_xy" a3b f26 d26)
  (g27 : GF K mg "_law_minus" a2i f27 d27)
  (g28 : GF K mg "_law_square" a22 f28 d28)
  (g29 : GF K mg "_law_root" a3h f29 d29)
  (g30 : GF K mg "_law_size" a3a f30 d30)
  (g31 : GF K mg "_law_sums" a20 f31 d31)
  (g32 : GF K mg "above_root" a1V f32 d32)
  (g33 : GF K mg "root_below" a3C f33 d33)
  (g34 : GF K mg "root" a3d f34 d34)
  (g35 : GF K mg "squared" a39 f35 d35)
  (g36 : GF K mg "neighbours" a28 f36 d36)
  (g37 : GF K mg "pieces" a2b f37 d37)
  (g38 : GF K mg "lengths" a37 f38 d38)
  (g39 : GF K mg "stations" a29 f39 d39)
  (g40 : GF K mg "line_length" a2F f40 d40)
  (g41 : GF K mg "sum_of" a3B f41 d41)
  (g42 : GF K mg "less" a3A f42 d42)
  (g43 : GF K mg "times" a3z f43 d43)
  (g44 : GF K mg "first_begin" a4e f44 d44)
  (g45 : GF K mg "is_below" a3q f45 d45)
  (g46 : GF K mg "greater_of" a16 f46 d46)
  (g47 : GF K mg "lesser_of" a3J f47 d47)
  (g48 : GF K mg "mark_lengths" a2Y f48 d48)
  (g49 : GF K mg "between" a4w f49 d49)
  (g50 : GF K mg "place_at" a4D f50 d50)
  (g51 : GF K mg "part_of" a2q f51 d51)
  (g52 : GF K mg "marks_of" a3S f52 d52)
  (g53 : GF K mg "_law_right" a10 f53 d53)
  (g54 : GF K mg "_law_change" a32 f54 d54)
  (g55 : GF K mg "law" a24 f55 d55)
  (g_MOST_MARKS : PySem.W.nsIn K mainGlobals "MOST_MARKS" = some (some (.int 200 t_MOST_MARKS_1)))
  (B : Blt mg) :
  ∃ fd : FuncData, (∀ (s : Shared) (v : Value), BindsTo s fd ⟨[v], []⟩ [("_law_script", v)]) ∧ ∀ base : Heap, K.In base → base.Ns mainGlobals mg → FnOk l.prog w K mg base CX0 12 fa fd ["_law_script"] (spD K 1 whole) := by
 have e := hfa.symm.trans g55.m
 cases e
 refine ⟨d55, a9G g55.F fun _ _ _ _ _ _ _ _ => .of_eq rfl, fun base _ _ => ?_⟩
 have C_MOST_MARKS : Con K mg "MOST_MARKS" (.int 200) := ⟨_, PySem.W.mg_of X G g_MOST_MARKS, (b3d _ _)⟩
 have C_law_new_tape := b3E (P := l.prog) (w := w) (base := base) B g1
 have C_law_draw := b2G (P := l.prog) (w := w) (base := base) B g2
 have C_law_start := b0k C_law_draw B g3
 have C_law_divisor := b1R (P := l.prog) (w := w) (base := base) B g4
 have C_law_low := b0D C_law_divisor B g5
 have C_law_product := b27 C_law_low B g6
 have C_law_spot := a9q C_law_divisor B g7
 have C_law_plus := b1l C_law_low B g8
 have C_law_closed := a9z C_law_spot C_law_plus C_law_product C_law_start C_law_draw B g9
 have C_law_menu := b36 C_law_draw B g10
 have C_law_open := a9A C_law_spot C_law_plus C_law_product C_law_draw C_law_start C_law_menu B g11
 have C_law_exact := b3i C_law_draw C_law_closed C_law_open B g12
 have C_law_shares := a9K C_law_product C_law_draw B g13
 have C_divisor_of_two := a8O (P := l.prog) (w := w) (base := base) B g14
 have C_divisor := b0K C_divisor_of_two B g15
 have C_lowest := a9W C_divisor B g16
 have C_place := b1b C_lowest B g17
 have C_plus := a99 C_divisor_of_two B g18
 have C_fraction := a9D C_lowest B g19
 have C_across := b3t C_fraction B g20
 have C_up := b32 C_fraction B g21
 have C_changed_place := b2j C_lowest C_place C_plus C_up C_across B g22
 have C_changed_places := b02 C_changed_place B g23
 have C_changed_line := b0i C_changed_places B g24
 have C_law_pairs := a87 (P := l.prog) (w := w) (base := base) B g25
 have C_law_xy := b3W C_law_low B g26
 have C_law_minus := b3Q C_law_low B g27
 have C_law_square := a8w C_law_plus C_law_product C_law_minus C_law_xy B g28
 have C_law_root := a8t (P := l.prog) (w := w) (base := base) B g29
 have C_law_size := b19 C_law_root C_law_square B g30
 have C_law_sums := a8e C_law_plus C_law_size C_law_pairs B g31
 have C_above_root := b0O (P := l.prog) (w := w) (base := base) B g32
 have C_root_below := b1y C_above_root B g33
 have C_root := b3z C_root_below B g34
 have C_squared := b3f C_fraction B g35
 have C_neighbours := b0Z (P := l.prog) (w := w) (base := base) B g36
 have C_pieces := b3X C_neighbours B g37
 have C_lengths := b2S C_pieces C_root C_squared B g38
 have C_stations := a8m C_plus C_lengths B g39
 have C_line_length := b1G C_stations B g40
 have C_sum_of := b2K C_plus B g41
 have C_less := a9s C_plus B g42
 have C_times := b1a C_fraction B g43
 have C_first_begin := b0W C_less C_times C_sum_of B g44
 have C_is_below := a8g (P := l.prog) (w := w) (base := base) B g45
 have C_greater_of := b31 C_is_below B g46
 have C_lesser_of := a79 C_is_below B g47
 have C_mark_lengths := b3m C_is_below C_lesser_of C_greater_of C_plus C_first_begin C_line_length C_MOST_MARKS B g48
 have C_between := b17 C_lowest B g49
 have C_place_at := b3l C_between C_fraction C_less C_pieces C_is_below C_stations B g50
 have C_part_of := b34 C_place_at C_is_below C_stations B g51
 have C_marks_of := b1W C_mark_lengths C_part_of B g52
 have C_law_right := b3w C_place_at C_law_product C_changed_place C_law_draw C_marks_of C_changed_line C_mark_lengths C_line_length C_law_shares C_law_sums B g53
 have C_law_change := a90 C_law_draw B g54
 exact b0h C_law_right C_law_change C_law_exact C_law_new_tape B g55.F
end T
open PySem PySem.W PyProof.Rows
set_option maxRecDepth 100000 in
set_option maxHeartbeats 0 in
theorem PySem.Challenge.cw_widelines_k56_whole_marks_of_changed_lin_holds : PySem.Challenge.rw_widelines_k56_whole_marks_of_changed_lin.Holds := by
 w_on; o_law; k_head; (case hw => w_witness2)
 k_fill
 refine DL.walkD (l := PySem.Challenge.rw_widelines_k56_whole_marks_of_changed_lin) (m := T.whole) (k := 12) rfl rfl ⟨rfl, by decide, by decide, rfl⟩ (fun w h Y => PySem.W.kIn_of Y) ?F T.math
 case F =>
  intro w mg fa h KX G hmg
  refine' T.all_mk KX G hmg (DL.gf_mk KX G ?_ ?_ ?_ ?_) (DL.gf_mk KX G ?_ ?_ ?_ ?_) (DL.gf_mk KX G ?_ ?_ ?_ ?_) (DL.gf_mk KX G ?_ ?_ ?_ ?_) (DL.gf_mk KX G ?_ ?_ ?_ ?_) (DL.gf_mk KX G ?_ ?_ ?_ ?_) (DL.gf_mk KX G ?_ ?_ ?_ ?_) (DL.gf_mk KX G ?_ ?_ ?_ ?_) (DL.gf_mk KX G ?_ ?_ ?_ ?_) (DL.gf_mk KX G ?_ ?_ ?_ ?_) (DL.gf_mk KX G ?_ ?_ ?_ ?_) (DL.gf_mk KX G ?_ ?_ ?_ ?_) (DL.gf_mk KX G ?_ ?_ ?_ ?_) (DL.gf_mk KX G ?_ ?_ ?_ ?_) (DL.gf_mk KX G ?_ ?_ ?_ ?_) (DL.gf_mk KX G ?_ ?_ ?_ ?_) (DL.gf_mk KX G ?_ ?_ ?_ ?_) (DL.gf_mk KX G ?_ ?_ ?_ ?_) (DL.gf_mk KX G ?_ ?_ ?_ ?_) (DL.gf_mk KX G ?_ ?_ ?_ ?_) (DL.gf_mk KX G ?_ ?_ ?_ ?_) (DL.gf_mk KX G ?_ ?_ ?_ ?_) (DL.gf_mk KX G ?_ ?_ ?_ ?_) (DL.gf_mk KX G ?_ ?_ ?_ ?_) (DL.gf_mk KX G ?_ ?_ ?_ ?_) (DL.gf_mk KX G ?_ ?_ ?_ ?_) (DL.gf_mk KX G ?_ ?_ ?_ ?_) (DL.gf_mk KX G ?_ ?_ ?_ ?_) (DL.gf_mk KX G ?_ ?_ ?_ ?_) (DL.gf_mk KX G ?_ ?_ ?_ ?_) (DL.gf_mk KX G ?_ ?_ ?_ ?_) (DL.gf_mk KX G ?_ ?_ ?_ ?_) (DL.gf_mk KX G ?_ ?_ ?_ ?_) (DL.gf_mk KX G ?_ ?_ ?_ ?_) (DL.gf_mk KX G ?_ ?_ ?_ ?_) (DL.gf_mk KX G ?_ ?_ ?_ ?_) (DL.gf_mk KX G ?_ ?_ ?_ ?_) (DL.gf_mk KX G ?_ ?_ ?_ ?_) (DL.gf_mk KX G ?_ ?_ ?_ ?_) (DL.gf_mk KX G ?_ ?_ ?_ ?_) (DL.gf_mk KX G ?_ ?_ ?_ ?_) (DL.gf_mk KX G ?_ ?_ ?_ ?_) (DL.gf_mk KX G ?_ ?_ ?_ ?_) (DL.gf_mk KX G ?_ ?_ ?_ ?_) (DL.gf_mk KX G ?_ ?_ ?_ ?_) (DL.gf_mk KX G ?_ ?_ ?_ ?_) (DL.gf_mk KX G ?_ ?_ ?_ ?_) (DL.gf_mk KX G ?_ ?_ ?_ ?_) (DL.gf_mk KX G ?_ ?_ ?_ ?_) (DL.gf_mk KX G ?_ ?_ ?_ ?_) (DL.gf_mk KX G ?_ ?_ ?_ ?_) (DL.gf_mk KX G ?_ ?_ ?_ ?_) (DL.gf_mk KX G ?_ ?_ ?_ ?_) (DL.gf_mk KX G ?_ ?_ ?_ ?_) (DL.gf_mk KX G ?_ ?_ ?_ ?_) ?_ (DL.blt_mk KX G ?_ ?_ ?_ ?_ ?_ ?_ ?_ ?_ ?_ ?_ ?_ ?_ ?_ ?_ ?_ ?_ ?_ ?_ ?_)
  all_goals try k_is
