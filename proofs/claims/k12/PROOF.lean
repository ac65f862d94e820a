import PyProof.Rows.All
import Wide.All
import OpenK.AllK
import Wide.FinOn
import Lean
import PyProof.EqAt
import PyProof.EqKinds
import PyProof.TupleCall
import PySem.Challenge.RW_widelines_k12_what_belongs
set_option Elab.async false
set_option linter.all false
set_option maxRecDepth 100000
set_option bootstrap.genMatcherCode false
set_option genSizeOf false
namespace L2
open PySem PySem.Spec PyProof.Rows

/-- a key: an int or a str -/
abbrev Key := Sum Int Str
def keyIs : Key → Value → Bool
  | .inl k, v => Value.isInt k v
  | .inr x, v => Value.isStrOf x v
def keyH (w : World) : Key → Int
  | .inl k => hashInt k
  | .inr x => hashStr w x
theorem keyIs_shape : ∀ {k : Key} {v : Value}, keyIs k v = true → (∃ i t, k = Sum.inl i ∧ v = Value.int i t) ∨ (∃ x t, k = Sum.inr x ∧ v = Value.str x t)
  | .inl i, v, h => by
    obtain ⟨t, e⟩ := Value.isInt_shape (k := i) (v := v) h
    exact .inl ⟨i, t, rfl, e⟩
  | .inr x, v, h => by
    obtain ⟨t, e⟩ := Value.isStrOf_shape (x := x) (v := v) h
    exact .inr ⟨x, t, rfl, e⟩
theorem keyIs_int (i : Int) (t : Tok) : keyIs (.inl i) (.int i t) = true := by simp [keyIs, Value.isInt]
theorem keyIs_str (x : Str) (t : Tok) : keyIs (.inr x) (.str x t) = true := by simp [keyIs, Value.isStrOf]
theorem key_ll (a b : Int) : decide ((Sum.inl a : Key) = Sum.inl b) = (a == b) := by
  by_cases e : a = b
  · subst e; simp
  · have h : ¬ (Sum.inl a : Key) = Sum.inl b := fun q => e (Sum.inl.inj q)
    rw [decide_eq_false h]
    exact (beq_eq_false_iff_ne.mpr e).symm
theorem key_rr (a b : Str) : decide ((Sum.inr a : Key) = Sum.inr b) = decide (a = b) := by
  by_cases e : a = b
  · subst e; simp
  · have h : ¬ (Sum.inr a : Key) = Sum.inr b := fun q => e (Sum.inr.inj q)
    rw [decide_eq_false h, decide_eq_false e]
theorem key_lr (a : Int) (b : Str) : decide ((Sum.inl a : Key) = Sum.inr b) = false := decide_eq_false (fun q => nomatch q)
theorem key_rl (a : Str) (b : Int) : decide ((Sum.inr a : Key) = Sum.inl b) = false := decide_eq_false (fun q => nomatch q)

def mixKind (prog : Program) (w : World) : PySem.KeyKind prog w Key where
  is := keyIs
  hash := keyH w
  inj := fun v a b ha hb => by
    rcases keyIs_shape ha with ⟨i, t, rfl, rfl⟩ | ⟨x, t, rfl, rfl⟩
    · rcases keyIs_shape hb with ⟨j, u, rfl, e⟩ | ⟨y, u, rfl, e⟩
      · injection e with e1 _; rw [e1]
      · exact nomatch e
    · rcases keyIs_shape hb with ⟨j, u, rfl, e⟩ | ⟨y, u, rfl, e⟩
      · exact nomatch e
      · injection e with e1 _; rw [e1]
  byValue := fun k v h => by
    rcases keyIs_shape h with ⟨i, t, rfl, rfl⟩ | ⟨x, t, rfl, rfl⟩ <;> rfl
  pyHash := fun hv h => by
    rcases keyIs_shape hv with ⟨i, t, rfl, rfl⟩ | ⟨x, t, rfl, rfl⟩
    · exact wpAny_pyHash_int h
    · exact wpAny_pyHash_str h
  eqBool := fun hu hv h => by
    rcases keyIs_shape hu with ⟨i, t, rfl, rfl⟩ | ⟨x, t, rfl, rfl⟩
    · rcases keyIs_shape hv with ⟨j, u, rfl, rfl⟩ | ⟨y, u, rfl, rfl⟩
      · rw [key_ll] at h; exact wpAny_eqBool_int h
      · rw [key_lr] at h; exact SeqAt.EqAt.int_str i t y u _ _ _ _ h
    · rcases keyIs_shape hv with ⟨j, u, rfl, rfl⟩ | ⟨y, u, rfl, rfl⟩
      · rw [key_rl] at h; exact SeqAt.EqAt.str_int x t j u _ _ _ _ h
      · rw [key_rr] at h; exact wpAny_eqBool_str h
  «strs» := fun k x t v h => by
    rcases keyIs_shape h with ⟨i, u, rfl, e⟩ | ⟨y, u, rfl, e⟩
    · exact nomatch e
    · injection e with e1 _
      subst e1
      cases v <;> rfl

theorem mixKind_int (prog : Program) (w : World) (i : Int) (t : Tok) : (mixKind prog w).is (.inl i) (.int i t) = true := keyIs_int i t
theorem mixKind_str (prog : Program) (w : World) (x : Str) (t : Tok) : (mixKind prog w).is (.inr x) (.str x t) = true := keyIs_str x t
end L2

namespace L2
open PySem PySem.Spec PyProof.Rows

/-- a value, without the heap -/
inductive V where
  | non | bl (b : Bool) | int (i : Int) | str (x : Str) | byt (b : Array UInt8) | flt (b : UInt64) | ref (a : Addr) | ty (n : String)
  deriving DecidableEq

def RelV : V → Value → Prop
  | .non, u => u = Value.none
  | .bl b, u => u = Value.bool b
  | .int i, u => ∃ t, u = Value.int i t
  | .str x, u => ∃ t, u = Value.str x t
  | .byt b, u => ∃ t, u = Value.bytes b t
  | .flt b, u => ∃ t, u = Value.float b t
  | .ref a, u => u = Value.ref a
  | .ty n, u => u = Value.type n

abbrev Vals : List V → List Value → Prop := Paired RelV
theorem Vals.length {xs : List V} {us : List Value} (r : Vals xs us) : xs.length = us.length := Paired.length r
theorem Vals.get : ∀ {xs : List V} {us : List Value} {i : Nat} {x : V}, Vals xs us → xs[i]? = some x → ∃ u, us[i]? = some u ∧ RelV x u
  | _, _, _, _, .nil, e => by simp at e
  | _, _, 0, _, .cons r _, e => by simp at e; subst e; exact ⟨_, rfl, r⟩
  | _, _, i + 1, x, .cons _ t, e => by
    obtain ⟨u, h1, h2⟩ := Vals.get (i := i) (x := x) t (by simpa using e)
    exact ⟨u, by simpa using h1, h2⟩
theorem Vals.set {x : V} {u : Value} (r : RelV x u) : ∀ {xs : List V} {us : List Value} (i : Nat), Vals xs us → Vals (xs.set i x) (us.set i u)
  | _, _, _, .nil => .nil
  | _, _, 0, .cons _ t => .cons r t
  | _, _, i + 1, .cons q t => .cons q (Vals.set r i t)
theorem Vals.append : ∀ {xs ys : List V} {us ws : List Value}, Vals xs us → Vals ys ws → Vals (xs ++ ys) (us ++ ws)
  | _, _, _, _, .nil, s => s
  | _, _, _, _, .cons r t, s => .cons r (Vals.append t s)
theorem Vals.take : ∀ {xs : List V} {us : List Value} (n : Nat), Vals xs us → Vals (xs.take n) (us.take n)
  | _, _, 0, _ => .nil
  | _, _, _ + 1, .nil => .nil
  | _, _, n + 1, .cons r t => .cons r (Vals.take n t)
theorem Vals.drop : ∀ {xs : List V} {us : List Value} (n : Nat), Vals xs us → Vals (xs.drop n) (us.drop n)
  | _, _, 0, r => r
  | _, _, _ + 1, .nil => .nil
  | _, _, n + 1, .cons _ t => Vals.drop n t
def RelO : Option V → Option Value → Prop
  | some v, some u => RelV v u
  | none, none => True
  | _, _ => False
def KV {κ : Type} : List (κ × V) → List (κ × Value) → Prop := Paired fun (p : κ × V) (q : κ × Value) => p.1 = q.1 ∧ RelV p.2 q.2

/-- a key of a dict (00_mix): an int or a text -/
def kV : Key → V
  | .inl i => .int i
  | .inr x => .str x

/-- what stands at a tracked address -/
inductive HO where
  /-- a list -/
  | lst (xs : List V)
  /-- a tuple (never changes) -/
  | tup (xs : List V)
  /-- a dict whose keys are ints and texts; one whose keys are tuples of ints and texts (the empty one is both) -/
  | dK (kvs : List (Key × V)) | dT (kvs : List (List Key × V))
  /-- a set of ints: its members, its size -/
  | set (S : Int → Bool) (n : Nat)
  /-- an instance of the class at C, its dict at dx, its attributes -/
  | ins (C dx : Addr) (fs : List (Str × V))
  /-- the dict of the instance at x -/
  | own (x : Addr)
  /-- the dict of an exception -/
  | xd (fs : List (Str × V))
  /-- a bound method, f of x -/
  | met (f x : Addr)
  /-- a range object lo, lo + 1, .. below hi -/
  | rng (lo hi : Int)
  /-- a thing that is known to the object (the script; a dict while a loop walks it): read, never written while it is so -/
  | frz (o : Obj) (u : HO)
  /-- a code object's table -/
  | tbl (ps : Array Value)
  /-- any other thing, by what is true of its one object (a def of one's own: SetO a S n := HO.ext fun h => ..) -/
  | ext (φ : Heap → Prop)

abbrev Hp := Addr → Option HO
def upd (H : Hp) (a : Addr) (o : HO) : Hp := fun b => if b = a then some o else H b
theorem upd_same {H : Hp} {a : Addr} {o : HO} : upd H a o a = some o := by unfold upd; rw [if_pos rfl]
theorem upd_ne {H : Hp} {a b : Addr} {o : HO} (h : b ≠ a) : upd H a o b = H b := by unfold upd; rw [if_neg h]
/-- two objects of different content stand apart -/
theorem ne_of {H : Hp} {a b : Addr} {o u : HO} (h : H a = some o) (h' : H b = some u) (d : o ≠ u) : a ≠ b := by
  intro e; subst e; rw [h] at h'; exact d (Option.some.inj h')
theorem ne_of_none {H : Hp} {a b : Addr} {o : HO} (h : H a = some o) (h' : H b = none) : a ≠ b := by
  intro e; subst e; rw [h] at h'; cases h'

section
variable (P : Program) (w : World)
def ObjOk (H : Hp) (h : Heap) (a : Addr) : HO → Prop
  | .lst xs => xs.length ≤ sizeLine ∧ ∃ (its : List Value) (n : Nat), Vals xs its ∧ h.get? a = some { cls := .type "list", data := .seq its.toArray n }
  | .tup xs => xs.length ≤ sizeLine ∧ ∃ its : List Value, Vals xs its ∧ IsTup h a its.toArray
  | .dK kvs => kvs.length ≤ sizeLine ∧ (a == sysModules) = false ∧ ∃ vs, KV kvs vs ∧ h.DictOf (mixKind P w) a vs
  | .dT kvs => kvs.length ≤ sizeLine ∧ (a == sysModules) = false ∧ ∃ xs : List (List Key × Addr × Value),
      Paired (fun (p : List Key × V) (q : List Key × Addr × Value) => p.1 = q.1 ∧ H q.2.1 = some (.tup (p.1.map kV)) ∧ RelV p.2 q.2.2) kvs xs ∧
      ∃ o es ep, h.get? a = some o ∧ o.ExactDict ∧ o.data = .dict es ep ∧ es.toList = xs.map (entryOfKey (tupleKind (mixKind P w))) ∧ (xs.map (·.1)).Nodup
  | .set S n => h.SetOf (intKind P w) a S n
  | .ins C dx fs => H dx = some (.own a) ∧ fs.length ≤ 1000 ∧ dx ≠ a ∧ h.get? a = some (PySem.W.instObj C dx) ∧
      ∃ mA, h.Ns1 dx mA ∧ (∀ f, RelO (fs.lookup f) (mA f)) ∧ PySem.Within mA (fs.map (·.1))
  | .own _ => ∃ o, h.get? a = some o
  | .xd fs => ∃ mA, h.Ns1 a mA ∧ ∀ f, RelO (fs.lookup f) (mA f)
  | .rng lo hi => ∃ t u v, h.get? a = some { cls := .type "range", data := .fields #[.int lo t, .int hi u, .int 1 v] }
  | .frz o u => h.get? a = some o ∧ ObjOk H h a u
  | .tbl ps => h.get? a = some { cls := .none, data := .fields ps }
  | .met f x => h.get? a = some (PySem.W.methodObj (.ref f) (.ref x))
  | .ext φ => φ h ∧ (∃ o, h.get? a = some o) ∧ ∀ h1 h2 : Heap, φ h1 → (∀ o, h1.get? a = some o → h2.get? a = some o) → φ h2
/-- the abstract heap is held -/
def HOk (H : Hp) (h : Heap) : Prop := ∀ a o, H a = some o → ObjOk P w H h a o
end

section
variable {P : Program} {w : World} {H H' : Hp} {h h' : Heap} {a : Addr} {o : HO}
theorem ObjOk.lt (x : ObjOk P w H h a o) : a < h.objs.size := by
  cases o with
  | lst xs => obtain ⟨_, _, _, _, e⟩ := x; exact Heap.lt_size e
  | tup xs => obtain ⟨_, _, _, p⟩ := x; exact p.lt
  | dK kvs => obtain ⟨_, _, _, _, o, _, _, e, _⟩ := x; exact Heap.lt_size e
  | dT kvs => obtain ⟨_, _, _, _, o, _, _, e, _⟩ := x; exact Heap.lt_size e
  | set S n => obtain ⟨o, _, _, _, e, _⟩ := x; exact Heap.lt_size e
  | ins C dx fs => obtain ⟨_, _, _, e, _⟩ := x; exact Heap.lt_size e
  | own y => obtain ⟨_, e⟩ := x; exact Heap.lt_size e
  | xd fs => obtain ⟨_, ⟨_, _, _, e, _⟩, _⟩ := x; exact Heap.lt_size e
  | rng lo hi => obtain ⟨_, _, _, e⟩ := x; exact Heap.lt_size e
  | frz ob u => obtain ⟨e, _⟩ := x; exact Heap.lt_size e
  | tbl ps => exact Heap.lt_size (show h.get? a = some _ from x)
  | met f y => exact Heap.lt_size (show h.get? a = some _ from x)
  | ext φ => obtain ⟨_, ⟨_, e⟩, _⟩ := x; exact Heap.lt_size e
theorem Paired.mapP {α β : Type} {F G : α → β → Prop} : ∀ {l₁ : List α} {l₂ : List β}, Paired F l₁ l₂ → (∀ a b, F a b → G a b) → Paired G l₁ l₂
  | _, _, .nil, _ => .nil
  | _, _, .cons r t, f => .cons (f _ _ r) (Paired.mapP t f)
/-- what an object's description leans on: its own object, its own dict, the tuples -/
theorem ObjOk.stay (x : ObjOk P w H h a o) (k : ∀ b u, (b = a ∨ H b = some (.own a)) → h.get? b = some u → h'.get? b = some u)
    (ho : ∀ b, H b = some (.own a) → H' b = some (.own a)) (ht : ∀ b xs, H b = some (.tup xs) → H' b = some (.tup xs)) : ObjOk P w H' h' a o := by
  induction o with
  | lst xs => obtain ⟨z, its, n, r, e⟩ := x; exact ⟨z, its, n, r, k _ _ (.inl rfl) e⟩
  | tup xs => obtain ⟨z, its, r, ob, e, c⟩ := x; exact ⟨z, its, r, ob, k _ _ (.inl rfl) e, c⟩
  | dK kvs => obtain ⟨z, y, vs, r, ob, es, ep, e, c⟩ := x; exact ⟨z, y, vs, r, ob, es, ep, k _ _ (.inl rfl) e, c⟩
  | dT kvs =>
    obtain ⟨z, y, xs, r, ob, es, ep, e, c⟩ := x
    exact ⟨z, y, xs, Paired.mapP r fun p q z => ⟨z.1, ht _ _ z.2.1, z.2.2⟩, ob, es, ep, k _ _ (.inl rfl) e, c⟩
  | set S n => obtain ⟨ob, es, ep, t, e, c⟩ := x; exact ⟨ob, es, ep, t, k _ _ (.inl rfl) e, c⟩
  | ins C dx fs =>
    obtain ⟨d, z, ne, e, mA, ⟨od, es, ep, e2, c⟩, r⟩ := x
    exact ⟨ho _ d, z, ne, k _ _ (.inl rfl) e, mA, ⟨od, es, ep, k _ _ (.inr d) e2, c⟩, r⟩
  | own y => obtain ⟨ob, e⟩ := x; exact ⟨ob, k _ _ (.inl rfl) e⟩
  | xd fs => obtain ⟨mA, ⟨od, es, ep, e, c⟩, r⟩ := x; exact ⟨mA, ⟨od, es, ep, k _ _ (.inl rfl) e, c⟩, r⟩
  | rng lo hi => obtain ⟨t, u, v, e⟩ := x; exact ⟨t, u, v, k _ _ (.inl rfl) e⟩
  | frz ob u ih => obtain ⟨e, q⟩ := x; exact ⟨k _ _ (.inl rfl) e, ih q⟩
  | tbl ps =>
    have e : h.get? a = some { cls := .none, data := .fields ps } := x
    show h'.get? a = some { cls := .none, data := .fields ps }
    exact k a _ (.inl rfl) e
  | met f y =>
    have e : h.get? a = some (PySem.W.methodObj (.ref f) (.ref y)) := x
    show h'.get? a = some (PySem.W.methodObj (.ref f) (.ref y))
    exact k a _ (.inl rfl) e
  | ext φ => obtain ⟨p, ⟨o, e⟩, st⟩ := x; exact ⟨st _ _ p fun o q => k _ _ (.inl rfl) q, ⟨o, k _ _ (.inl rfl) e⟩, st⟩
theorem HOk.lt (x : HOk P w H h) (e : H a = some o) : a < h.objs.size := (x a o e).lt
theorem HOk.fresh (x : HOk P w H h) (e : h.objs.size ≤ a) : H a = none := by
  cases q : H a with
  | none => rfl
  | some u => exact absurd (Nat.lt_of_lt_of_le (x.lt q) e) (Nat.lt_irrefl _)
/-- every object of the heap is kept -/
theorem HOk.kept (x : HOk P w H h) (k : ∀ b u, h.get? b = some u → h'.get? b = some u) : HOk P w H h' := fun a o e =>
  (x a o e).stay (fun b u _ q => k b u q) (fun _ q => q) fun _ _ q => q
/-- a new object is laid and tracked -/
theorem HOk.laid (x : HOk P w H h) (k : ∀ b u, h.get? b = some u → h'.get? b = some u) (hp : h.objs.size ≤ a) (new : ObjOk P w (upd H a o) h' a o) : HOk P w (upd H a o) h' := fun b u e => by
  have hn := x.fresh hp
  by_cases hb : b = a
  · subst hb; rw [upd_same] at e; cases e; exact new
  · rw [upd_ne hb] at e
    exact (x b u e).stay (fun c v _ q => k c v q) (fun c q => by rw [upd_ne (ne_of_none q hn)]; exact q) fun c xs q => by rw [upd_ne (ne_of_none q hn)]; exact q
end

/-- what may be read as u: it is u, or a known u -/
def Rd (H : Hp) (a : Addr) (u : HO) : Prop := H a = some u ∨ ∃ o, H a = some (.frz o u)
theorem Rd.of {H : Hp} {a : Addr} {u : HO} (h : H a = some u) : Rd H a u := .inl h
theorem Rd.ok {P : Program} {w : World} {H : Hp} {h : Heap} {a : Addr} {u : HO} (r : Rd H a u) (x : HOk P w H h) : ObjOk P w H h a u := by
  rcases r with r | ⟨o, r⟩
  · exact x a u r
  · obtain ⟨_, q⟩ := x a _ r
    exact q
/-- what may be written -/
def Mut : Option HO → Prop
  | some (.lst _) => True
  | some (.dK _) => True
  | some (.dT _) => True
  | some (.set _ _) => True
  | some (.ins _ _ _) => True
  | some (.ext _) => True
  | _ => False
section
variable {P : Program} {w : World} {H : Hp} {h h' : Heap} {x e : Addr} {o' : HO}
/-- the object at e is changed: x itself, or the dict of the instance x -/
theorem HOk.write (ok : HOk P w H h) (mu : Mut (H x)) (he : e = x ∨ H e = some (.own x)) (k : ∀ b u, b ≠ e → h.get? b = some u → h'.get? b = some u) (heo : ∃ u, h'.get? e = some u)
    (new : ObjOk P w (upd H x o') h' x o') : HOk P w (upd H x o') h' := fun b u q => by
  have nown : ∀ c y, H c = some (.own y) → c ≠ x := fun c y r z => by subst z; rw [r] at mu; exact mu
  have ntup : ∀ c xs, H c = some (.tup xs) → c ≠ x := fun c xs r z => by subst z; rw [r] at mu; exact mu
  by_cases hb : b = x
  · subst hb; rw [upd_same] at q; cases q; exact new
  · rw [upd_ne hb] at q
    by_cases hbe : b = e
    · have q' : H b = some (.own x) := by
        rcases he with z | z
        · exact absurd (hbe.trans z) hb
        · rw [hbe]; exact z
      rw [q] at q'; cases q'
      obtain ⟨v, hv⟩ := heo
      exact ⟨v, by rw [hbe]; exact hv⟩
    · refine (ok b u q).stay (fun c v hc r => k c v ?_ r) (fun c r => by rw [upd_ne (nown c b r)]; exact r) fun c xs r => by rw [upd_ne (ntup c xs r)]; exact r
      rcases hc with rfl | hc
      · exact hbe
      · rintro rfl
        rcases he with z | z
        · exact nown c b hc z
        · rw [hc] at z; cases z; exact hb rfl
end

structure Un (fs ex : List Addr) (H H' : Hp) (h h' : Heap) : Prop where
  keep : ∀ b o, h.get? b = some o → H b = none → b ∉ fs → b ∉ ex → h'.get? b = some o
  slot : ∀ b o, h.get? b = some o → H b = none → b ∈ fs → b ∉ ex → ∃ sl, h'.get? b = some { o with slots := sl }
  free : ∀ b o, h.get? b = some o → H b = none → b ∉ ex → H' b = none
  there : ∀ b o, h.get? b = some o → b ∉ ex → ∃ o', h'.get? b = some o'
  tups : ∀ b xs, H b = some (.tup xs) → H' b = some (.tup xs)
  frzs : ∀ b o u, H b = some (.frz o u) → H' b = some (.frz o u)
  tbls : ∀ b ps, H b = some (.tbl ps) → ∃ more, H' b = some (.tbl (ps ++ more))
section
variable {fs fs' ex ex' : List Addr} {H H1 H2 : Hp} {h h1 h2 h' : Heap} {a x e : Addr} {o : HO}
theorem Un.any (u : Un fs ex H H1 h h1) {b : Addr} {ob : Obj} (q : h.get? b = some ob) (n : H b = none) (hx : b ∉ ex) : ∃ sl, h1.get? b = some { ob with slots := sl } := by
  by_cases hb : b ∈ fs
  · exact u.slot b ob q n hb hx
  · exact ⟨ob.slots, u.keep b ob q n hb hx⟩
theorem Un.trans (a : Un fs ex H H1 h h1) (b : Un fs ex H1 H2 h1 h2) : Un fs ex H H2 h h2 where
  keep := fun c ob q n hc hx => b.keep c ob (a.keep c ob q n hc hx) (a.free c ob q n hx) hc hx
  slot := fun c ob q n hc hx => by
    obtain ⟨sl, e1⟩ := a.slot c ob q n hc hx
    obtain ⟨sl', e2⟩ := b.slot c _ e1 (a.free c ob q n hx) hc hx
    exact ⟨sl', e2⟩
  free := fun c ob q n hx => by
    obtain ⟨o', e1⟩ := a.there c ob q hx
    exact b.free c o' e1 (a.free c ob q n hx) hx
  there := fun c ob q hx => by
    obtain ⟨o', e1⟩ := a.there c ob q hx
    exact b.there c o' e1 hx
  tups := fun c xs q => b.tups c xs (a.tups c xs q)
  frzs := fun c ob xs q => b.frzs c ob xs (a.frzs c ob xs q)
  tbls := fun c ps q => by
    obtain ⟨m1, e1⟩ := a.tbls c ps q
    obtain ⟨m2, e2⟩ := b.tbls c _ e1
    exact ⟨m1 ++ m2, by rw [e2, Array.append_assoc]⟩
theorem Un.kept (k : ∀ b u, h.get? b = some u → h'.get? b = some u) : Un fs ex H H h h' :=
  ⟨fun b ob q _ _ _ => k b ob q, fun b ob q _ _ _ => ⟨ob.slots, k b ob q⟩, fun _ _ _ n _ => n, fun b ob q _ => ⟨ob, k b ob q⟩, fun _ _ q => q, fun _ _ _ q => q, fun _ ps q => ⟨#[], by rw [q]; simp⟩⟩
theorem Un.refl : Un fs ex H H h h := Un.kept fun _ _ q => q
theorem Un.laid (k : ∀ b u, h.get? b = some u → h'.get? b = some u) (hp : h.objs.size ≤ a) (hn : H a = none) : Un fs ex H (upd H a o) h h' where
  keep := fun b u q _ _ _ => k b u q
  slot := fun b u q _ _ _ => ⟨u.slots, k b u q⟩
  free := fun b u q n _ => by rw [upd_ne (Nat.ne_of_lt (Nat.lt_of_lt_of_le (Heap.lt_size q) hp))]; exact n
  there := fun b u q _ => ⟨u, k b u q⟩
  tups := fun b xs q => by rw [upd_ne (ne_of_none q hn)]; exact q
  frzs := fun b u xs q => by rw [upd_ne (ne_of_none q hn)]; exact q
  tbls := fun b ps q => ⟨#[], by rw [upd_ne (ne_of_none q hn), q]; simp⟩
theorem Un.write (mu : Mut (H x)) (he : e = x ∨ H e = some (.own x)) (k : ∀ b u, b ≠ e → h.get? b = some u → h'.get? b = some u) (heo : ∃ u, h'.get? e = some u) : Un fs ex H (upd H x o) h h' := by
  have hx : ∀ b, H b = none → b ≠ x := fun b n z => by subst z; rw [n] at mu; exact mu
  have hb : ∀ b, H b = none → b ≠ e := fun b n z => by
    subst z
    rcases he with r | r
    · exact hx b n r
    · rw [n] at r; cases r
  have hm : ∀ b u, H b = some u → ¬ Mut (some u) → b ≠ x := fun b u q nm z => by subst z; rw [q] at mu; exact nm mu
  refine ⟨fun b u q n _ _ => k b u (hb b n) q, fun b u q n _ _ => ⟨u.slots, k b u (hb b n) q⟩, fun b u q n _ => by rw [upd_ne (hx b n)]; exact n, fun b u q _ => ?_,
    fun b xs q => by rw [upd_ne (hm b _ q fun z => z)]; exact q, fun b u xs q => by rw [upd_ne (hm b _ q fun z => z)]; exact q, fun b ps q => ⟨#[], by rw [upd_ne (hm b _ q fun z => z), q]; simp⟩⟩
  by_cases hbe : b = e
  · subst hbe; exact heo
  · exact ⟨u, k b u hbe q⟩
theorem Un.mono (u : Un fs ex H H1 h h1) (hs : ∀ b ∈ fs, b ∈ fs') (hx : ∀ b ∈ ex, b ∈ ex') : Un fs' ex' H H1 h h1 :=
  ⟨fun b ob q n hb he => u.keep b ob q n (fun z => hb (hs b z)) fun z => he (hx b z), fun _ _ q n _ he => u.any q n fun z => he (hx _ z), fun b ob q n he => u.free b ob q n fun z => he (hx b z), fun b ob q he => u.there b ob q fun z => he (hx b z), u.tups, u.frzs, u.tbls⟩
end

def trk (h : Heap) (H : Hp) : List Addr := (List.range h.objs.size).filter fun a => (H a).isSome
def hidT (h : Heap) (H : Hp) : Heap := PySem.W.hideAll h (trk h H)
theorem hidT_size (h : Heap) (H : Hp) : (hidT h H).objs.size = h.objs.size := PySem.W.hideAll_size _ _
theorem hidT_get {h : Heap} {H : Hp} {b : Addr} {o : Obj} (e : h.get? b = some o) (n : H b = none) : (hidT h H).get? b = some o :=
  PySem.W.hideAll_get _ e fun hm => by
    have q : (H b).isSome = true := (List.mem_filter.mp hm).2
    rw [n] at q; simp at q
theorem of_hidT {h : Heap} {H : Hp} {b : Addr} {o : Obj} (e : (hidT h H).get? b = some o) : h.get? b = some o ∧ H b = none := by
  have e' : h.get? b = some o := PySem.W.of_hideAll (trk h H) e
  refine ⟨e', ?_⟩
  cases q : H b with
  | none => rfl
  | some x =>
    have hm : b ∈ trk h H := List.mem_filter.mpr ⟨List.mem_range.mpr (Heap.lt_size e'), by simp [q]⟩
    have z : (hidT h H).get? b = none := PySem.W.hideAll_none (trk h H) hm
    rw [z] at e; cases e

def allNews (g h : Heap) (L : Addr) : List (Addr × Obj) := (List.range h.objs.size).filterMap fun a => if a = L ∨ (g.get? a).isSome = true then none else (h.get? a).map fun o => (a, o)
def rest (g h : Heap) (L d : Addr) : List (Addr × Obj) := (allNews g h L).filter fun p => decide (p.1 ≠ d)
end L2

namespace L2
open PySem PySem.Spec PyProof.Rows

/-- the module's facts, over the base: the heap at the law's entry without what is tracked there -/
structure Mod (K : PySem.W.Frag) (mg : Str → Option Value) (base : Heap) : Prop where
  kin : K.In base
  glob : base.Ns mainGlobals mg
  blt : ∃ mb, base.Ns builtinsNs mb ∧ ∀ x : Str, x ≠ "__name__" → mb x = bootBuiltins x
  nolimit : base.NoLimit

/-- the context: a def's body (or a comprehension's block) running. base: fixed through the whole law; s₀, H₀: the entry; outer: the frames whose slots others may change (a def's callers); stack: all frames that run;
   ex: iterators that were made ahead of the entry and are walked here (a comprehension's); fn: the names whose cells were made at the entry (a def: all; a comprehension's block: its own); calm: not within an except suite; pn: pins that every state bears; xe: what is wanted of an exception that leaves the code -/
structure Cx where
  prog : Program
  w : World
  K : PySem.W.Frag
  mg : Str → Option Value
  base : Heap
  A : Around
  N : List Str
  s₀ : Shared
  H₀ : Hp
  env : Env
  outer : List Env
  stack : List Env
  ex : List Addr
  fn : Str → Bool
  calm : Bool
  pn : List (Addr × Obj)
  xe : Value → Shared → Prop
/-- the callers' frames -/
def frs (l : List Env) : List Addr := l.filterMap (·.frame)
abbrev Cx.fs (X : Cx) : List Addr := frs X.outer

def Vis (sc : Scope) (x : Str) : Prop := sc.names.lookup x = some .local ∨ sc.names.lookup x = some .cell ∨ sc.names.lookup x = some .free
def Loc (sc : Scope) (x : Str) : Prop := sc.names.lookup x = some .local ∨ sc.names.lookup x = some .cell
def Look (env : Env) (h : Heap) (m : Str → Option Value) (x : Str) (u : Value) : Prop :=
  (env.kindOf x = some .local ∧ m x = some u) ∨ ((env.kindOf x = some .cell ∨ env.kindOf x = some .free) ∧ ∃ c, env.cells.lookup x = some c ∧ h.IsCell c (some u))

structure Cx.Ok (X : Cx) : Prop where
  mod : Mod X.K X.mg X.base
  kind : X.env.scope.kind = .function
  glob : X.env.globals = mainGlobals
  blt : X.env.builtins = builtinsNs
  above : X.s₀.heap.objs.size ≤ X.env.locals
  inj : ∀ x y c, X.env.cells.lookup x = some c → X.env.cells.lookup y = some c → x = y
  has : ∀ x, (X.env.kindOf x = some .cell ∨ X.env.kindOf x = some .free) → ∃ c, X.env.cells.lookup x = some c
  cab : ∀ x c, X.fn x = true → X.env.cells.lookup x = some c → X.s₀.heap.objs.size ≤ c
  hd : X.calm = true → X.A.handled = none
  frames : X.A.frames = some X.stack
  stk : X.stack = X.outer ∨ (X.stack = X.env :: X.outer ∧ X.env.frame = some X.env.locals)
  exf : ∀ b ∈ X.ex, b ≠ X.env.locals ∧ ∀ x c, X.env.cells.lookup x = some c → c ≠ b
  bs : ∀ b o, X.base.get? b = some o → X.s₀.heap.get? b = some o ∧ X.H₀ b = none
  bsz : X.base.objs.size ≤ X.s₀.heap.objs.size
  noex : ∀ b o, X.base.get? b = some o → b ∉ X.ex
  exfs : ∀ b ∈ X.ex, b ∉ X.fs
  funs : X.s₀.heap.FunFrames X.base X.outer
  frf : ∀ b ∈ X.fs, X.H₀ b = none

structure Inv (X : Cx) (pins : List (Addr × Obj)) (σ : List (Option V)) (H : Hp) (s : Shared) : Prop where
  ok : X.Ok
  os : s.os = X.s₀.os
  bare : AllBare s.gens
  base : Un X.fs X.ex X.H₀ H X.s₀.heap s.heap
  loc : ∃ m, s.heap.Ns X.env.locals m ∧ ∀ (i : Nat) (x : Str) (v : V), X.N[i]? = some x → σ[i]? = some (some v) → Vis X.env.scope x → ∃ u, RelV v u ∧ Look X.env s.heap m x u
  cell : ∀ x c, X.env.cells.lookup x = some c → ∃ v, s.heap.IsCell c v
  free : H X.env.locals = none
  freeC : ∀ x c, X.env.cells.lookup x = some c → H c = none
  pin : ∀ p ∈ X.pn ++ pins, s.heap.get? p.1 = some p.2 ∧ H p.1 = none ∧ p.1 ≠ X.env.locals ∧ p.1 ∉ X.fs ∧ ∀ v, p.2.data ≠ .cell v
  hok : HOk X.prog X.w H s.heap
  len : σ.length = X.N.length

section
variable {X : Cx} {pins : List (Addr × Obj)} {σ : List (Option V)} {H H' : Hp} {s : Shared} {h' : Heap}

theorem Cx.Ok.nofr (ok : X.Ok) {b : Addr} {o : Obj} (e : X.base.get? b = some o) : b ∉ X.fs := fun hb => by
  have := (ok.funs.mem hb).1
  rw [e] at this; cases this
theorem Inv.bs (I : Inv X pins σ H s) : ∀ b o, X.base.get? b = some o → s.heap.get? b = some o ∧ H b = none := fun b o e =>
  ⟨I.base.keep b o (I.ok.bs b o e).1 (I.ok.bs b o e).2 (I.ok.nofr e) (I.ok.noex b o e), I.base.free b o (I.ok.bs b o e).1 (I.ok.bs b o e).2 (I.ok.noex b o e)⟩
theorem Inv.bk (I : Inv X pins σ H s) : ∀ b o, X.base.get? b = some o → s.heap.get? b = some o := fun b o e => (I.bs b o e).1
theorem Inv.mod (I : Inv X pins σ H s) : Mod X.K X.mg X.base := I.ok.mod
theorem Inv.kIn (I : Inv X pins σ H s) : X.K.In s.heap := I.ok.mod.kin.keeps I.bk
theorem Inv.nolimit (I : Inv X pins σ H s) : s.heap.NoLimit := I.ok.mod.nolimit.keeps I.bk
/-- the frame over the base: for OpenK's rules (K.In X.base is I.mod.kin) -/
theorem Inv.fr (I : Inv X pins σ H s) : ∃ m, Fr X.base X.env.locals s.heap m :=
  let ⟨m, hn, _⟩ := I.loc
  ⟨m, hn, I.bk, Nat.le_trans I.ok.bsz I.ok.above⟩
theorem Inv.lt (I : Inv X pins σ H s) : X.env.locals < s.heap.objs.size := let ⟨_, hn, _⟩ := I.loc; hn.lt
theorem Inv.sz (I : Inv X pins σ H s) : X.s₀.heap.objs.size ≤ s.heap.objs.size := Nat.le_trans I.ok.above (Nat.le_of_lt I.lt)
theorem Inv.nofs (I : Inv X pins σ H s) {a : Addr} (h : s.heap.objs.size ≤ a) : a ∉ X.fs := fun hb => by
  obtain ⟨_, o, ho, _⟩ := I.ok.funs.mem hb
  exact absurd (Nat.lt_of_lt_of_le (Heap.lt_size ho) (Nat.le_trans I.sz h)) (Nat.lt_irrefl _)
theorem Inv.cne (I : Inv X pins σ H s) : ∀ x c, X.env.cells.lookup x = some c → c ≠ X.env.locals := fun x c e z => by
  obtain ⟨v, o, ho, hd⟩ := I.cell x c e
  obtain ⟨m, ⟨o', es, ep, ho', hd', _⟩, _⟩ := I.loc
  rw [z, ho'] at ho; cases ho; rw [hd'] at hd; cases hd
theorem Inv.funs (I : Inv X pins σ H s) : s.heap.FunFrames X.base X.outer := by
  have all : ∀ (l : List Env), (∀ b ∈ frs l, b ∈ X.fs) → X.s₀.heap.FunFrames X.base l → s.heap.FunFrames X.base l := by
    intro l
    induction l with
    | nil => intro _ _; trivial
    | cons env r ih =>
      intro hs hl
      obtain ⟨hk, ⟨L, o, hf, hn, ho, hd⟩, hr⟩ := hl
      have hL : L ∈ X.fs := hs L (by unfold frs; rw [List.filterMap_cons, hf]; exact List.mem_cons_self)
      obtain ⟨sl, e⟩ := I.base.slot L o ho (I.ok.frf L hL) hL fun z => I.ok.exfs L z hL
      exact ⟨hk, ⟨L, _, hf, hn, e, hd⟩, ih (fun b hb => hs b (by unfold frs; rw [List.filterMap_cons, hf]; exact List.mem_cons_of_mem _ hb)) hr⟩
  exact all X.outer (fun _ hb => hb) I.ok.funs

/-- the frames that run, for a call -/
theorem Inv.stack (I : Inv X pins σ H s) : s.heap.FunFrames X.base X.stack := by
  rcases I.ok.stk with e | ⟨e, hf⟩
  · rw [e]; exact I.funs
  · rw [e]
    obtain ⟨m, hn, _⟩ := I.loc
    refine .cons (by rw [I.ok.kind]; decide) hf hn ?_ I.funs
    exact Heap.get?_none_of_le (Nat.le_trans I.ok.bsz I.ok.above)
theorem Inv.stkSub (I : Inv X pins σ H s) : ∀ b ∈ frs X.stack, b ∈ X.env.locals :: X.fs := fun b hb => by
  rcases I.ok.stk with e | ⟨e, hf⟩
  · rw [e] at hb; exact List.mem_cons_of_mem _ hb
  · rw [e] at hb
    unfold frs at hb
    rw [List.filterMap_cons, hf] at hb
    exact hb
theorem Inv.stkFree (I : Inv X pins σ H s) : ∀ b ∈ frs X.stack, H b = none := fun b hb => by
  rcases List.mem_cons.mp (I.stkSub b hb) with e | hb
  · rw [e]; exact I.free
  · obtain ⟨_, o, ho, _⟩ := I.ok.funs.mem hb
    exact I.base.free b o ho (I.ok.frf b hb) fun z => I.ok.exfs b z hb

/-- THE STEP: the untracked objects but the frame and the records at ch are kept (the callers' frames up to slots), the frame's map is kept, the new abstract heap is held -/
theorem Inv.step {g' : Array GenState} {t' : Nat} {d' : Drawn} {ch : List Addr} (I : Inv X pins σ H s)
    (hch : ∀ b ∈ ch, (b ∈ X.ex ∨ X.s₀.heap.objs.size ≤ b) ∧ b ≠ X.env.locals ∧ (∀ x c, X.env.cells.lookup x = some c → c ≠ b) ∧ ∀ p ∈ X.pn ++ pins, p.1 ≠ b)
    (keep : ∀ b o, b ≠ X.env.locals → b ∉ X.fs → b ∉ ch → s.heap.get? b = some o → H b = none → h'.get? b = some o)
    (slot : ∀ b o, b ≠ X.env.locals → b ∈ X.fs → b ∉ ch → s.heap.get? b = some o → H b = none → ∃ sl, h'.get? b = some { o with slots := sl }) (free : ∀ b o, b ∉ ch → s.heap.get? b = some o → H b = none → H' b = none)
    (there : ∀ b o, b ∉ ch → s.heap.get? b = some o → ∃ o', h'.get? b = some o')
    (tups : ∀ b xs, H b = some (.tup xs) → H' b = some (.tup xs)) (frzs : ∀ b o u, H b = some (.frz o u) → H' b = some (.frz o u)) (tbls : ∀ b ps, H b = some (.tbl ps) → ∃ more, H' b = some (.tbl (ps ++ more)))
    (ns : ∀ m, s.heap.Ns X.env.locals m → h'.Ns X.env.locals m) (hok : HOk X.prog X.w H' h') (hg : AllBare g') :
    Inv X pins σ H' { s with heap := h', gens := g', drawn := d', toks := t' } := by
  have neL : ∀ b o, X.s₀.heap.get? b = some o → b ≠ X.env.locals := fun b o e => Nat.ne_of_lt (Nat.lt_of_lt_of_le (Heap.lt_size e) I.ok.above)
  have neC : ∀ b o, X.s₀.heap.get? b = some o → b ∉ X.ex → b ∉ ch := fun b o e hx hb => by
    rcases (hch b hb).1 with z | z
    · exact hx z
    · exact absurd (Nat.lt_of_lt_of_le (Heap.lt_size e) z) (Nat.lt_irrefl _)
  have cellK : ∀ x c, X.env.cells.lookup x = some c → ∀ v, s.heap.IsCell c v → h'.IsCell c v := fun x c e v ⟨o, ho, hd⟩ => by
    have nch : c ∉ ch := fun z => (hch c z).2.2.1 x c e rfl
    by_cases hc : c ∈ X.fs
    · obtain ⟨sl, q⟩ := slot c o (I.cne x c e) hc nch ho (I.freeC x c e)
      exact ⟨_, q, hd⟩
    · exact ⟨o, keep c o (I.cne x c e) hc nch ho (I.freeC x c e), hd⟩
  refine ⟨I.ok, I.os, hg, ⟨fun b o e n hb hx => ?_, fun b o e n hb hx => ?_, fun b o e n hx => ?_, fun b o e hx => ?_, fun b xs e => tups b xs (I.base.tups b xs e), fun b o xs e => frzs b o xs (I.base.frzs b o xs e), fun b ps e => ?_⟩, ?_, fun x c e => ?_, ?_, fun x c e => ?_, fun p hp => ?_, hok, I.len⟩
  · exact keep b o (neL b o e) hb (neC b o e hx) (I.base.keep b o e n hb hx) (I.base.free b o e n hx)
  · obtain ⟨sl, e1⟩ := I.base.slot b o e n hb hx
    obtain ⟨sl', e2⟩ := slot b _ (neL b o e) hb (neC b o e hx) e1 (I.base.free b o e n hx)
    exact ⟨sl', e2⟩
  · obtain ⟨o', e1⟩ := I.base.there b o e hx
    exact free b o' (neC b o e hx) e1 (I.base.free b o e n hx)
  · obtain ⟨o', e1⟩ := I.base.there b o e hx
    exact there b o' (neC b o e hx) e1
  · obtain ⟨m1, e1⟩ := I.base.tbls b ps e
    obtain ⟨m2, e2⟩ := tbls b _ e1
    exact ⟨m1 ++ m2, by rw [e2, Array.append_assoc]⟩
  · obtain ⟨m, hn, hl⟩ := I.loc
    refine ⟨m, ns m hn, fun i x v e1 e2 e3 => ?_⟩
    obtain ⟨u, r, l⟩ := hl i x v e1 e2 e3
    refine ⟨u, r, ?_⟩
    rcases l with l | ⟨k, c, e, z⟩
    · exact .inl l
    · exact .inr ⟨k, c, e, cellK x c e _ z⟩
  · obtain ⟨v, z⟩ := I.cell x c e
    exact ⟨v, cellK x c e v z⟩
  · obtain ⟨m, ⟨o, _, _, ho, _⟩, _⟩ := I.loc
    exact free _ o (fun z => (hch _ z).2.1 rfl) ho I.free
  · obtain ⟨v, o, ho, hd⟩ := I.cell x c e
    exact free c o (fun z => (hch c z).2.2.1 x c e rfl) ho (I.freeC x c e)
  · obtain ⟨e, n, ne, nf, d⟩ := I.pin p hp
    have nch : p.1 ∉ ch := fun z => (hch p.1 z).2.2.2 p hp rfl
    exact ⟨keep p.1 p.2 ne nf nch e n, free p.1 p.2 nch e n, ne, nf, d⟩
/-- .. where the frame's own object is kept too -/
theorem Inv.un {t' : Nat} (I : Inv X pins σ H s) (u : Un X.fs [] H H' s.heap h') (hok : HOk X.prog X.w H' h') : Inv X pins σ H' { s with heap := h', toks := t' } := by
  obtain ⟨m, ⟨o, es, ep, ho, r⟩, _⟩ := id I.loc
  obtain ⟨sl, hL⟩ := u.any ho I.free (by simp)
  exact I.step (g' := s.gens) (d' := s.drawn) (ch := []) (fun _ z => nomatch z) (fun b o _ hb _ e n => u.keep b o e n hb (by simp)) (fun b o _ hb _ e n => u.slot b o e n hb (by simp)) (fun b o _ e n => u.free b o e n (by simp)) (fun b o _ e => u.there b o e (by simp)) u.tups u.frzs u.tbls (fun m' hm => by
    obtain ⟨o', es', ep', ho', r'⟩ := hm
    rw [ho] at ho'; cases ho'
    exact ⟨_, es', ep', hL, r'⟩) hok I.bare
/-- behind a call (or a comprehension's block): the slots of this frame may have changed too, the records at ch may have turned -/
theorem Inv.call {g' : Array GenState} {t' : Nat} {d' : Drawn} {ch : List Addr} (I : Inv X pins σ H s) (u : Un (frs X.stack) ch H H' s.heap h') (hok : HOk X.prog X.w H' h') (hg : AllBare g')
    (hch : ∀ b ∈ ch, (b ∈ X.ex ∨ X.s₀.heap.objs.size ≤ b) ∧ b ≠ X.env.locals ∧ (∀ x c, X.env.cells.lookup x = some c → c ≠ b) ∧ ∀ p ∈ X.pn ++ pins, p.1 ≠ b) :
    Inv X pins σ H' { s with heap := h', gens := g', drawn := d', toks := t' } := by
  obtain ⟨m, ⟨o, es, ep, ho, r⟩, _⟩ := id I.loc
  obtain ⟨sl, hL⟩ := u.any ho I.free fun z => (hch _ z).2.1 rfl
  exact I.step (ch := ch) hch (fun b o hL hb hc e n => u.keep b o e n (fun z => (List.mem_cons.mp (I.stkSub b z)).elim hL hb) hc) (fun b o _ _ hc e n => u.any e n hc) (fun b o hc e n => u.free b o e n hc) (fun b o hc e => u.there b o e hc) u.tups u.frzs u.tbls (fun m' hm => by
    obtain ⟨o', es', ep', ho', r'⟩ := hm
    rw [ho] at ho'; cases ho'
    exact ⟨_, es', ep', hL, r'⟩) hok hg
/-- an untracked record of ours (an iterator) has turned -/
theorem Inv.turned {t' : Nat} {it : Addr} (I : Inv X pins σ H s) (k : ∀ b o, b ≠ it → s.heap.get? b = some o → h'.get? b = some o) (hn : H it = none) (hL : it ≠ X.env.locals)
    (h1 : it ∈ X.ex ∨ X.s₀.heap.objs.size ≤ it) (h2 : ∀ x c, X.env.cells.lookup x = some c → c ≠ it) (h3 : ∀ p ∈ X.pn ++ pins, p.1 ≠ it) : Inv X pins σ H { s with heap := h', toks := t' } := by
  have nit : ∀ b u, H b = some u → b ≠ it := fun b u e z => by rw [z, hn] at e; cases e
  refine I.step (g' := s.gens) (d' := s.drawn) (ch := [it]) (fun b hb => ?_) (fun b o _ _ hc e _ => k b o (fun z => hc (by simp [z])) e) (fun b o _ _ hc e _ => ⟨o.slots, k b o (fun z => hc (by simp [z])) e⟩) (fun _ _ _ _ n => n)
    (fun b o hc e => ⟨o, k b o (fun z => hc (by simp [z])) e⟩) (fun _ _ e => e) (fun _ _ _ e => e) (fun b ps e => ⟨#[], by rw [e]; simp⟩) (fun m hm => ?_) (fun b u e => ?_) I.bare
  · have e : b = it := by simpa using hb
    subst e
    exact ⟨h1, hL, h2, h3⟩
  · obtain ⟨o, es, ep, ho, r⟩ := hm
    exact ⟨o, es, ep, k _ o (Ne.symm hL) ho, r⟩
  · refine (I.hok b u e).stay (fun c v hc q => k c v ?_ q) (fun _ q => q) fun _ _ q => q
    rcases hc with z | z
    · rw [z]; exact nit b u e
    · exact nit c _ z
theorem Inv.tok (I : Inv X pins σ H s) (t : Nat) : Inv X pins σ H { s with toks := t } := I.un (h' := s.heap) (t' := t) Un.refl I.hok
/-- all objects kept -/
theorem Inv.kept {t' : Nat} (I : Inv X pins σ H s) (k : ∀ b u, s.heap.get? b = some u → h'.get? b = some u) : Inv X pins σ H { s with heap := h', toks := t' } := I.un (Un.kept k) (I.hok.kept k)
/-- a new object laid and tracked -/
theorem Inv.laid {a : Addr} {o : HO} {t' : Nat} (I : Inv X pins σ H s) (k : ∀ b u, s.heap.get? b = some u → h'.get? b = some u) (hp : s.heap.objs.size ≤ a) (new : ObjOk X.prog X.w (upd H a o) h' a o) :
    Inv X pins σ (upd H a o) { s with heap := h', toks := t' } := I.un (Un.laid k hp (I.hok.fresh hp)) (I.hok.laid k hp new)
/-- an object written -/
theorem Inv.write {x e : Addr} {o : HO} {t' : Nat} (I : Inv X pins σ H s) (mu : Mut (H x)) (he : e = x ∨ H e = some (.own x)) (k : ∀ b u, b ≠ e → s.heap.get? b = some u → h'.get? b = some u) (heo : ∃ u, h'.get? e = some u)
    (new : ObjOk X.prog X.w (upd H x o) h' x o) : Inv X pins σ (upd H x o) { s with heap := h', toks := t' } := I.un (Un.write mu he k heo) (I.hok.write mu he k heo new)
/-- forgetting slots, pins -/
theorem Inv.weak {σ' : List (Option V)} (I : Inv X pins σ H s) (hl : σ'.length = σ.length) (w : ∀ (i : Nat) v, σ'[i]? = some (some v) → σ[i]? = some (some v)) : Inv X pins σ' H s :=
  ⟨I.ok, I.os, I.bare, I.base, let ⟨m, hn, hl'⟩ := I.loc; ⟨m, hn, fun i x v e1 e2 e3 => hl' i x v e1 (w i v e2) e3⟩, I.cell, I.free, I.freeC, I.pin, I.hok, hl.trans I.len⟩
theorem Inv.pins_of {pins' : List (Addr × Obj)} (I : Inv X pins σ H s) (h : ∀ p ∈ pins', s.heap.get? p.1 = some p.2 ∧ H p.1 = none ∧ p.1 ≠ X.env.locals ∧ p.1 ∉ X.fs ∧ ∀ v, p.2.data ≠ .cell v) : Inv X pins' σ H s :=
  ⟨I.ok, I.os, I.bare, I.base, I.loc, I.cell, I.free, I.freeC, fun p hp => (List.mem_append.mp hp).elim (fun z => I.pin p (List.mem_append_left _ z)) (h p), I.hok, I.len⟩

theorem nodup_ix {N : List Str} (hN : N.Nodup) {i j : Nat} {x : Str} (a : N[i]? = some x) (b : N[j]? = some x) : i = j := by
  obtain ⟨h1, e1⟩ := List.getElem?_eq_some_iff.mp a
  obtain ⟨h2, e2⟩ := List.getElem?_eq_some_iff.mp b
  exact (List.getElem_inj hN).mp (e1.trans e2.symm)

/-- a name is stored; what changed -/
theorem store_ok2 {M : Model} {A : Around} {E : Value → Shared → Prop} {i : Nat} {x : Str} {v : V} {u : Value} {Q : Unit → Shared → Prop} (I : Inv X pins σ H s) (hN : X.N.Nodup) (hi : X.N[i]? = some x) (hx : Loc X.env.scope x) (r : RelV v u)
    (h : ∀ s', Inv X pins (σ.set i (some v)) H s' → (∃ a, Heap.SameBut a s.heap s'.heap ∧ (a = X.env.locals ∨ X.env.cells.lookup x = some a)) → Q () s') (hf : X.fn x = true ∨ X.env.scope.names.lookup x = some .local := by first | exact .inl rfl | exact .inr rfl | assumption) : wpAny M A (storeName X.env x u) Q E s := by
  obtain ⟨m, hn, hl⟩ := id I.loc
  have hcls : (X.env.scope.kind == .class || (X.env.scope.kind == .module && X.env.locals != X.env.globals)) = false := by rw [I.ok.kind]; rfl
  have hiσ : i < σ.length := by rw [I.len]; exact (List.getElem?_eq_some_iff.mp hi).1
  have cne := I.cne
  have tracked : ∀ {a : Addr} {h' : Heap}, (∃ o, s.heap.get? a = some o ∧ H a = none) → Heap.SameBut a s.heap h' → HOk X.prog X.w H h' := fun {a h'} ha hs b ob e => by
    obtain ⟨_, _, hfree⟩ := ha
    refine (I.hok b ob e).stay (fun c w' hc q => (hs.2 c ?_).trans q) (fun _ q => q) fun _ _ q => q
    rintro rfl
    rcases hc with rfl | hc
    · rw [hfree] at e; cases e
    · rw [hfree] at hc; cases hc
  rcases hx with hk | hk
  · refine wpAny_storeName_local hk hn (fun h' hn' hs => ?_) hcls
    obtain ⟨oL, _, _, hoL, _⟩ := id hn
    refine h _ ⟨I.ok, I.os, I.bare, ⟨fun b o e n hb hx => ?_, fun b o e n hb hx => ?_, I.base.free, fun b o e hx => ?_, I.base.tups, I.base.frzs, I.base.tbls⟩, ⟨_, hn', fun j y v' e1 e2 e3 => ?_⟩, fun y c e => ?_, I.free, I.freeC, fun p hp => ?_, tracked ⟨oL, hoL, I.free⟩ hs, by simpa using I.len⟩ ⟨_, hs, .inl rfl⟩
    · exact (hs.2 b (Nat.ne_of_lt (Nat.lt_of_lt_of_le (Heap.lt_size e) I.ok.above))).trans (I.base.keep b o e n hb hx)
    · obtain ⟨sl, e1⟩ := I.base.slot b o e n hb hx
      exact ⟨sl, (hs.2 b (Nat.ne_of_lt (Nat.lt_of_lt_of_le (Heap.lt_size e) I.ok.above))).trans e1⟩
    · obtain ⟨o', e1⟩ := I.base.there b o e hx
      exact ⟨o', (hs.2 b (Nat.ne_of_lt (Nat.lt_of_lt_of_le (Heap.lt_size e) I.ok.above))).trans e1⟩
    · by_cases hj : j = i
      · subst hj
        rw [hi] at e1; cases e1
        rw [List.getElem?_set_self hiσ] at e2
        cases e2
        exact ⟨u, r, .inl ⟨hk, by simp⟩⟩
      · rw [List.getElem?_set_ne (Ne.symm hj)] at e2
        obtain ⟨u', r', q⟩ := hl j y v' e1 e2 e3
        refine ⟨u', r', ?_⟩
        rcases q with ⟨k, e⟩ | ⟨k, c, e, z⟩
        · refine .inl ⟨k, ?_⟩
          have : y ≠ x := fun e => hj (nodup_ix hN e1 (e ▸ hi))
          simp [this, e]
        · exact .inr ⟨k, c, e, z.sameBut hs (cne y c e)⟩
    · obtain ⟨w', z⟩ := I.cell y c e
      exact ⟨w', z.sameBut hs (cne y c e)⟩
    · obtain ⟨e, n, ne, nf, d⟩ := I.pin p hp
      exact ⟨(hs.2 p.1 ne).trans e, n, ne, nf, d⟩
  · have hfn : X.fn x = true := by
      rcases hf with z | z
      · exact z
      · rw [z] at hk; cases hk
    obtain ⟨c, hc⟩ := I.ok.has x (.inl hk)
    obtain ⟨w', z⟩ := I.cell x c hc
    refine wpAny_storeName_cell I.ok.kind hk hc z (fun h' hc' hs => ?_)
    obtain ⟨oc, hoc, hocd⟩ := id z
    refine h { s with heap := h' } ⟨I.ok, I.os, I.bare, ⟨fun b o e n hb hx => ?_, fun b o e n hb hx => ?_, I.base.free, fun b o e hx => ?_, I.base.tups, I.base.frzs, I.base.tbls⟩, ⟨m, hn.sameBut hs (Ne.symm (cne x c hc)), fun j y v' e1 e2 e3 => ?_⟩, fun y c' e => ?_, I.free, I.freeC, fun p hp => ?_, tracked ⟨oc, hoc, I.freeC x c hc⟩ hs, by simpa using I.len⟩ ⟨c, hs, .inr hc⟩
    · exact (hs.2 b (Nat.ne_of_lt (Nat.lt_of_lt_of_le (Heap.lt_size e) (I.ok.cab x c hfn hc)))).trans (I.base.keep b o e n hb hx)
    · obtain ⟨sl, e1⟩ := I.base.slot b o e n hb hx
      exact ⟨sl, (hs.2 b (Nat.ne_of_lt (Nat.lt_of_lt_of_le (Heap.lt_size e) (I.ok.cab x c hfn hc)))).trans e1⟩
    · obtain ⟨o', e1⟩ := I.base.there b o e hx
      exact ⟨o', (hs.2 b (Nat.ne_of_lt (Nat.lt_of_lt_of_le (Heap.lt_size e) (I.ok.cab x c hfn hc)))).trans e1⟩
    · by_cases hj : j = i
      · subst hj
        rw [hi] at e1; cases e1
        rw [List.getElem?_set_self hiσ] at e2
        cases e2
        exact ⟨u, r, .inr ⟨.inl hk, c, hc, hc'⟩⟩
      · rw [List.getElem?_set_ne (Ne.symm hj)] at e2
        obtain ⟨u', r', q⟩ := hl j y v' e1 e2 e3
        refine ⟨u', r', ?_⟩
        rcases q with q | ⟨k, c', e, z'⟩
        · exact .inl q
        · refine .inr ⟨k, c', e, z'.sameBut hs ?_⟩
          rintro rfl
          exact hj (nodup_ix hN e1 (I.ok.inj _ _ _ e hc ▸ hi))
    · by_cases hcc : c' = c
      · subst hcc; exact ⟨_, hc'⟩
      · obtain ⟨w2, z2⟩ := I.cell y c' e
        exact ⟨w2, z2.sameBut hs hcc⟩
    · obtain ⟨e, n, ne, nf, d⟩ := I.pin p hp
      refine ⟨(hs.2 p.1 ?_).trans e, n, ne, nf, d⟩
      intro q
      rw [q, hoc] at e
      have q' : oc = p.2 := Option.some.inj e
      exact d w' (by rw [← q']; exact hocd)
theorem store_ok {M : Model} {A : Around} {E : Value → Shared → Prop} {i : Nat} {x : Str} {v : V} {u : Value} {Q : Unit → Shared → Prop} (I : Inv X pins σ H s) (hN : X.N.Nodup) (hi : X.N[i]? = some x) (hx : Loc X.env.scope x) (r : RelV v u)
    (h : ∀ s', Inv X pins (σ.set i (some v)) H s' → Q () s') (hf : X.fn x = true ∨ X.env.scope.names.lookup x = some .local := by first | exact .inl rfl | exact .inr rfl | assumption) : wpAny M A (storeName X.env x u) Q E s :=
  store_ok2 I hN hi hx r (fun s' I' _ => h s' I') hf
/-- behind a call or a block, the state as it is -/
theorem Inv.call' {s' : Shared} {ch : List Addr} (I : Inv X pins σ H s) (ho : s'.os = s.os) (u : Un (frs X.stack) ch H H' s.heap s'.heap) (hok : HOk X.prog X.w H' s'.heap) (hg : AllBare s'.gens)
    (hch : ∀ b ∈ ch, (b ∈ X.ex ∨ X.s₀.heap.objs.size ≤ b) ∧ b ≠ X.env.locals ∧ (∀ x c, X.env.cells.lookup x = some c → c ≠ b) ∧ ∀ p ∈ X.pn ++ pins, p.1 ≠ b) : Inv X pins σ H' s' := by
  obtain ⟨h', g', d', t', o'⟩ := s'
  have e : o' = s.os := ho
  subst e
  exact I.call (g' := g') (t' := t') (d' := d') u hok hg hch
end

/-- an exception: its class, its own dict's address (where it has one), the abstract heap behind it -/
abbrev XK := Value → Option Addr → Hp → Prop
abbrev St := List (Option V)
abbrev VK := V → Hp → Prop
/-- an expression's reading; a test's; an argument list's -/
abbrev TE := St → Hp → VK → Prop
abbrev TT := St → Hp → (Bool → Hp → Prop) → Prop
abbrev TA := St → Hp → (List V → Hp → Prop) → Prop
/-- what is wanted behind a statement -/
structure Ends where
  nx : St → Hp → Prop
  rt : VK
  bk : St → Hp → Prop := fun _ _ => False
  ct : St → Hp → Prop := fun _ _ => False
abbrev TS := Ends → St → Hp → Prop

def EP (X : Cx) (pins : List (Addr × Obj)) (σ : St) (Q : VK) (u : Value) (s' : Shared) : Prop := ∃ v H', Inv X pins σ H' s' ∧ RelV v u ∧ Q v H'
def TP (X : Cx) (pins : List (Addr × Obj)) (σ : St) (Q : Bool → Hp → Prop) (b : Bool) (s' : Shared) : Prop := ∃ H', Inv X pins σ H' s' ∧ Q b H'
def AP (X : Cx) (pins : List (Addr × Obj)) (σ : St) (Q : List V → Hp → Prop) (us : List Value) (s' : Shared) : Prop := ∃ vs H', Inv X pins σ H' s' ∧ Vals vs us ∧ Q vs H'
def SP (X : Cx) (pins : List (Addr × Obj)) (D : Ends) (f : Flow) (s' : Shared) : Prop :=
  match f with
  | .next => ∃ σ' H', Inv X pins σ' H' s' ∧ D.nx σ' H'
  | .brk => ∃ σ' H', Inv X pins σ' H' s' ∧ D.bk σ' H'
  | .cont => ∃ σ' H', Inv X pins σ' H' s' ∧ D.ct σ' H'
  | .ret u => ∃ v σ' H', Inv X pins σ' H' s' ∧ RelV v u ∧ D.rt v H'

def PE (X : Cx) (e : Expr) (t : TE) : Prop :=
  ∀ (pins : List (Addr × Obj)) (s : Shared) (σ : St) (H : Hp) (Q : VK), Inv X pins σ H s → t σ H Q → wpAny (model X.prog X.w) X.A (eval e X.env) (EP X pins σ Q) X.xe s
def PT (X : Cx) (e : Expr) (t : TT) : Prop :=
  ∀ (pins : List (Addr × Obj)) (s : Shared) (σ : St) (H : Hp) (Q : Bool → Hp → Prop), Inv X pins σ H s → t σ H Q → wpAny (model X.prog X.w) X.A (isTrue e X.env (eval e X.env)) (TP X pins σ Q) X.xe s
/-- a test whatever its 'whole' is (and, or) -/
def PW (X : Cx) (e : Expr) (t : TT) : Prop :=
  ∀ (whole : Sem Value) (pins : List (Addr × Obj)) (s : Shared) (σ : St) (H : Hp) (Q : Bool → Hp → Prop), Inv X pins σ H s → t σ H Q → wpAny (model X.prog X.w) X.A (isTrue e X.env whole) (TP X pins σ Q) X.xe s
theorem PW.pt {X : Cx} {e : Expr} {t : TT} (h : PW X e t) : PT X e t := h _
/-- an argument list (no star), from the left -/
def PA (X : Cx) (es : List Expr) (t : TA) : Prop :=
  ∀ (pos : Pos) (pins : List (Addr × Obj)) (s : Shared) (σ : St) (H : Hp) (Q : List V → Hp → Prop), Inv X pins σ H s → t σ H Q → wpAny (model X.prog X.w) X.A (spliced (backTo pos (starEach es X.env))) (AP X pins σ Q) X.xe s
def PS (X : Cx) (st : Stmt) (t : TS) : Prop :=
  ∀ (pins : List (Addr × Obj)) (s : Shared) (σ : St) (H : Hp) (D : Ends), Inv X pins σ H s → t D σ H → wpAny (model X.prog X.w) X.A (exec st X.env) (SP X pins D) X.xe s
def PSs (X : Cx) (st : List Stmt) (t : TS) : Prop :=
  ∀ (pins : List (Addr × Obj)) (s : Shared) (σ : St) (H : Hp) (D : Ends), Inv X pins σ H s → t D σ H → wpAny (model X.prog X.w) X.A (execs st X.env) (SP X pins D) X.xe s
/-- weaken the end -/
theorem thn {α : Type} {t : Sem α} {Q Q' : α → Shared → Prop} {M : Model} {A : Around} {E : Value → Shared → Prop} {s : Shared} (h : wpAny M A t Q E s) (hQ : ∀ a s, Q a s → Q' a s) : wpAny M A t Q' E s := wpAny_mono h hQ fun _ _ x => x
end L2

namespace L2
open PySem PySem.Spec PyProof.Rows
section
variable {X : Cx}

def tVar (i : Nat) : TE := fun σ H Q => ∃ v, σ[i]? = some (some v) ∧ Q v H
def tC (v : V) : TE := fun _ H Q => Q v H
theorem pe_var {i : Nat} {x : Str} {pos : Pos} (hN : X.N[i]? = some x) (hv : Vis X.env.scope x) (hd : (x == ("__debug__" : Str)) = false := by decide) (hcd : (x == ("__classdict__" : Str)) = false := by decide) : PE X (.Name x pos) (tVar i) := by
  intro pins s σ H Q I h
  obtain ⟨v, e, h⟩ := h
  obtain ⟨m, hn, hl⟩ := I.loc
  obtain ⟨u, r, l⟩ := hl i x v hN e hv
  have fin : EP X pins σ Q u s := ⟨v, H, I, r, h⟩
  rcases l with ⟨hk, hm⟩ | ⟨hk, c, hc, hcell⟩
  · exact wpAny_Name (wpAny_loadName_local I.ok.kind hk hn hm fin) hd
  · rcases hk with hk | hk
    · exact wpAny_Name (wpAny_loadName_cell I.ok.kind hk hc hcell fin) hd
    · exact wpAny_Name (wpAny_loadName_free I.ok.kind hk hc hcell fin hcd) hd
theorem pe_int {i j pos} : PE X (.Constant (.int i) j pos) (tC (.int i)) := fun _ _ _ H _ I h => wpAny_Constant_int ⟨.int i, H, I.tok _, ⟨_, rfl⟩, h⟩
theorem pe_bl {b j pos} : PE X (.Constant (.bool b) j pos) (tC (.bl b)) := fun _ _ _ H _ I h => Constant_bool ⟨.bl b, H, I, rfl, h⟩
theorem pe_non {j pos} : PE X (.Constant .none j pos) (tC .non) := fun _ _ _ H _ I h => Constant_none ⟨.non, H, I, rfl, h⟩
theorem pe_str {x j pos} : PE X (.Constant (.str x) j pos) (tC (.str x)) := fun _ _ _ H _ I h => Calls.Constant_str ⟨.str x, H, I.tok _, ⟨_, rfl⟩, h⟩

/-- a global name of the def -/
def Gl (X : Cx) (x : Str) : Prop := X.env.kindOf x = some .globalImplicit
theorem ld_glob {E : Value → Shared → Prop} {pins : List (Addr × Obj)} {s : Shared} {σ : St} {H : Hp} {x : Str} {u : Value} {pos : Pos} {Q : Value → Shared → Prop} (I : Inv X pins σ H s) (hg : Gl X x) (hm : X.mg x = some u) (h : Q u s)
    (hd : (x == ("__debug__" : Str)) = false := by decide) : wpAny (model X.prog X.w) X.A (eval (.Name x pos) X.env) Q E s :=
  Calls.Name_function_global I.ok.kind hg (Calls.loadGlobal_global (by rw [I.ok.glob]; exact I.mod.glob.keeps I.bk) hm h) hd
theorem ld_blt {E : Value → Shared → Prop} {pins : List (Addr × Obj)} {s : Shared} {σ : St} {H : Hp} {x : Str} {u : Value} {pos : Pos} {Q : Value → Shared → Prop} (I : Inv X pins σ H s) (hg : Gl X x) (hm : X.mg x = none) (hv : bootBuiltins x = some u) (h : Q u s)
    (hn : x ≠ "__name__" := by decide) (hd : (x == ("__debug__" : Str)) = false := by decide) : wpAny (model X.prog X.w) X.A (eval (.Name x pos) X.env) Q E s := by
  obtain ⟨mb, h1, h2⟩ := I.mod.blt
  exact Calls.Name_function_global I.ok.kind hg (Calls.loadGlobal_builtin (by rw [I.ok.glob]; exact I.mod.glob.keeps I.bk) hm (by rw [I.ok.blt]; exact h1.keeps I.bk) ((h2 x hn).trans hv) h) hd
variable {a b : Expr} {ta tb : TE} {pos : Pos}
def PC (X : Cx) (op : CmpOp) (a b : Expr) (t : TE) : Prop :=
  ∀ (pins : List (Addr × Obj)) (s : Shared) (σ : St) (H : Hp) (Q : VK), Inv X pins σ H s → t σ H Q →
    wpAny (model X.prog X.w) X.A (eval a X.env) (fun v s₁ => wpAny (model X.prog X.w) X.A (eval b X.env) (fun u s₂ => wpAny (model X.prog X.w) X.A (compareOp op v u) (EP X pins σ Q) X.xe s₂) X.xe s₁) X.xe s
variable {tA tB' : TT} {rest : List Expr}
def tAnd (t u : TT) : TT := fun σ H Q => t σ H fun c H1 => if c = true then u σ H1 Q else Q false H1
def tOr (t u : TT) : TT := fun σ H Q => t σ H fun c H1 => if c = true then Q true H1 else u σ H1 Q
theorem pw_and1 (ha : PT X a tA) : PW X (.BoolOp .And [a] pos) tA := by
  intro wh pins s σ H Q I h
  refine isTrue_and (thn (ha pins s σ H Q I h) fun c s1 e => ?_)
  cases c with
  | true => exact isTrue_and_nil e
  | false => exact e
theorem pw_or1 (ha : PT X a tA) : PW X (.BoolOp .Or [a] pos) tA := by
  intro wh pins s σ H Q I h
  refine isTrue_or (thn (ha pins s σ H Q I h) fun c s1 e => ?_)
  cases c with
  | false => exact isTrue_or_nil e
  | true => exact e
theorem pw_and (ha : PT X a tA) (hb : PW X (.BoolOp .And (b :: rest) pos) tB') : PW X (.BoolOp .And (a :: b :: rest) pos) (tAnd tA tB') := by
  intro wh pins s σ H Q I h
  refine isTrue_and (thn (ha pins s σ H _ I h) fun c s1 ⟨H1, I1, q1⟩ => ?_)
  cases c with
  | true => exact hb wh pins s1 σ H1 Q I1 q1
  | false => exact ⟨H1, I1, q1⟩
theorem pw_or (ha : PT X a tA) (hb : PW X (.BoolOp .Or (b :: rest) pos) tB') : PW X (.BoolOp .Or (a :: b :: rest) pos) (tOr tA tB') := by
  intro wh pins s σ H Q I h
  refine isTrue_or (thn (ha pins s σ H _ I h) fun c s1 ⟨H1, I1, q1⟩ => ?_)
  cases c with
  | true => exact ⟨H1, I1, q1⟩
  | false => exact hb wh pins s1 σ H1 Q I1 q1
/-- .. as values (bools) -/
def tAndV (ta tb : TE) : TE := fun σ H Q => ta σ H fun x H1 => ∃ c, x = .bl c ∧ if c = true then tb σ H1 Q else Q (.bl false) H1
def tOrV (ta tb : TE) : TE := fun σ H Q => ta σ H fun x H1 => ∃ c, x = .bl c ∧ if c = true then Q (.bl true) H1 else tb σ H1 Q
theorem pe_one {op} {t : TE} (h : PE X a t) : PE X (.BoolOp op [a] pos) t := fun pins s σ H Q I hw => BoolOp_one (h pins s σ H Q I hw)
theorem pe_and (ha : PE X a ta) (hb : PE X (.BoolOp .And (b :: rest) pos) tb) : PE X (.BoolOp .And (a :: b :: rest) pos) (tAndV ta tb) := by
  intro pins s σ H Q I h
  refine BoolOp_and (thn (ha pins s σ H _ I h) fun v s1 ⟨x, H1, I1, r1, q1⟩ => ?_)
  obtain ⟨c, rfl, q1⟩ := q1
  cases r1
  refine wpAny_truthy_bool ?_
  cases c with
  | true => exact hb pins s1 σ H1 Q I1 q1
  | false => exact ⟨.bl false, H1, I1, rfl, q1⟩
theorem pe_or (ha : PE X a ta) (hb : PE X (.BoolOp .Or (b :: rest) pos) tb) : PE X (.BoolOp .Or (a :: b :: rest) pos) (tOrV ta tb) := by
  intro pins s σ H Q I h
  refine BoolOp_or (thn (ha pins s σ H _ I h) fun v s1 ⟨x, H1, I1, r1, q1⟩ => ?_)
  obtain ⟨c, rfl, q1⟩ := q1
  cases r1
  refine wpAny_truthy_bool ?_
  cases c with
  | false => exact hb pins s1 σ H1 Q I1 q1
  | true => exact ⟨.bl true, H1, I1, rfl, q1⟩
/-- a if t else b -/
def tIf (t : TT) (ta tb : TE) : TE := fun σ H Q => t σ H fun c H1 => if c = true then ta σ H1 Q else tb σ H1 Q
theorem pe_ifExp {c : Expr} (hc : PT X c tA) (ha : PE X a ta) (hb : PE X b tb) : PE X (.IfExp c a b pos) (tIf tA ta tb) := by
  intro pins s σ H Q I h
  refine wpAny_IfExp (thn (hc pins s σ H _ I h) fun d s1 ⟨H1, I1, q1⟩ => ?_)
  cases d with
  | true => exact ha pins s1 σ H1 Q I1 q1
  | false => exact hb pins s1 σ H1 Q I1 q1
end
end L2

namespace L2
open PySem PySem.Spec PyProof.Rows

def SqL (K : PySem.W.Frag) (H : Hp) (a : Addr) (xs : List V) : Prop :=
  Rd H a (.lst xs) ∨
    ∃ (o : Obj) (its : Array Value) (n : Nat), K.lookup a = some o ∧ o.cls = .type "list" ∧ o.dict = none ∧ o.data = .seq its n ∧ its.size ≤ sizeLine ∧ Vals xs its.toList
def SqT (K : PySem.W.Frag) (H : Hp) (a : Addr) (xs : List V) : Prop :=
  Rd H a (.tup xs) ∨
    ∃ (o : Obj) (its : Array Value) (n : Nat), K.lookup a = some o ∧ o.cls = .type "tuple" ∧ o.data = .seq its n ∧ its.size ≤ sizeLine ∧ Vals xs its.toList
def absV : Value → Option V
  | .none => some .non
  | .bool b => some (.bl b)
  | .int i _ => some (.int i)
  | .str x _ => some (.str x)
  | .bytes b _ => some (.byt b)
  | .float b _ => some (.flt b)
  | .ref a => some (.ref a)
  | .type n => some (.ty n)
  | _ => none
theorem RelV.abs {x : V} {u : Value} (r : RelV x u) : absV u = some x := by
  cases x with
  | non => cases r; rfl
  | bl _ => cases r; rfl
  | int _ => obtain ⟨t, rfl⟩ := r; rfl
  | str _ => obtain ⟨t, rfl⟩ := r; rfl
  | byt _ => obtain ⟨t, rfl⟩ := r; rfl
  | flt _ => obtain ⟨t, rfl⟩ := r; rfl
  | ref _ => cases r; rfl
  | ty _ => cases r; rfl
theorem RelV.inj {x y : V} {u : Value} (r : RelV x u) (q : RelV y u) : x = y := Option.some.inj (r.abs.symm.trans q.abs)
theorem Vals.inj : ∀ {xs ys : List V} {us : List Value}, Vals xs us → Vals ys us → xs = ys
  | _, _, _, .nil, .nil => rfl
  | _, _, _, .cons r t, .cons r' t' => by rw [r.inj r', Vals.inj t t']
section
variable {X : Cx} {pins : List (Addr × Obj)} {σ : St} {H : Hp} {s : Shared} {a : Addr} {xs ys : List V}
theorem SqL.of {K : PySem.W.Frag} (h : H a = some (.lst xs)) : SqL K H a xs := .inl (.inl h)
theorem SqT.of {K : PySem.W.Frag} (h : H a = some (.tup xs)) : SqT K H a xs := .inl (.inl h)
theorem Inv.list (I : Inv X pins σ H s) (h : SqL X.K H a xs) : ∃ its : List Value, Vals xs its ∧ PlainL s.heap a its.toArray ∧ xs.length ≤ sizeLine := by
  rcases h with h | ⟨o, its, n, hk, hc, hd, hs, hz, r⟩
  · obtain ⟨z, its, n, r, e⟩ := h.ok I.hok
    exact ⟨its, r, ⟨_, n, e, rfl, rfl, rfl⟩, z⟩
  · refine ⟨its.toList, r, ⟨o, n, I.kIn a o hk, hc, hd, by simpa using hs⟩, ?_⟩
    have e := r.length
    simp only [Array.length_toList] at e
    omega
theorem Inv.tuple (I : Inv X pins σ H s) (h : SqT X.K H a xs) : ∃ its : List Value, Vals xs its ∧ IsTup s.heap a its.toArray ∧ xs.length ≤ sizeLine := by
  rcases h with h | ⟨o, its, n, hk, hc, hs, hz, r⟩
  · obtain ⟨z, its, r, p⟩ := h.ok I.hok
    exact ⟨its, r, p, z⟩
  · refine ⟨its.toList, r, ⟨o, I.kIn a o hk, hc, n, by simpa using hs⟩, ?_⟩
    have e := r.length
    simp only [Array.length_toList] at e
    omega
theorem Inv.list_inj (I : Inv X pins σ H s) (h : SqL X.K H a xs) (h' : SqL X.K H a ys) : xs = ys := by
  obtain ⟨its, r, ⟨o, n, e, _, _, d⟩, _⟩ := I.list h
  obtain ⟨its', r', ⟨o', n', e', _, _, d'⟩, _⟩ := I.list h'
  rw [e] at e'; cases e'
  rw [d] at d'
  injection d' with d1 _
  have : its = its' := by simpa using congrArg Array.toList d1
  subst this
  exact r.inj r'
theorem Inv.tuple_inj (I : Inv X pins σ H s) (h : SqT X.K H a xs) (h' : SqT X.K H a ys) : xs = ys := by
  obtain ⟨its, r, ⟨o, e, _, n, d⟩, _⟩ := I.tuple h
  obtain ⟨its', r', ⟨o', e', _, n', d'⟩, _⟩ := I.tuple h'
  rw [e] at e'; cases e'
  rw [d] at d'
  injection d' with d1 _
  have : its = its' := by simpa using congrArg Array.toList d1
  subst this
  exact r.inj r'
end

abbrev Cx.wish (X : Cx) (E : Value → Shared → Prop) : Cx := { X with xe := E }
/-- no exception leaves -/
abbrev Cx.nox (X : Cx) : Cx := X.wish fun _ _ => False
theorem Cx.Ok.wish {X : Cx} (ok : X.Ok) (E : Value → Shared → Prop) : (X.wish E).Ok :=
  ⟨ok.mod, ok.kind, ok.glob, ok.blt, ok.above, ok.inj, ok.has, ok.cab, ok.hd, ok.frames, ok.stk, ok.exf, ok.bs, ok.bsz, ok.noex, ok.exfs, ok.funs, ok.frf⟩
theorem Cx.Ok.unwish {X : Cx} {E : Value → Shared → Prop} (ok : (X.wish E).Ok) : X.Ok :=
  ⟨ok.mod, ok.kind, ok.glob, ok.blt, ok.above, ok.inj, ok.has, ok.cab, ok.hd, ok.frames, ok.stk, ok.exf, ok.bs, ok.bsz, ok.noex, ok.exfs, ok.funs, ok.frf⟩
section
variable {X : Cx} {pins : List (Addr × Obj)} {σ : St} {H : Hp} {s : Shared} {E : Value → Shared → Prop}
theorem Inv.wish (I : Inv X pins σ H s) (E : Value → Shared → Prop) : Inv (X.wish E) pins σ H s := ⟨I.ok.wish E, I.os, I.bare, I.base, I.loc, I.cell, I.free, I.freeC, I.pin, I.hok, I.len⟩
theorem Inv.unwish (I : Inv (X.wish E) pins σ H s) : Inv X pins σ H s := ⟨I.ok.unwish, I.os, I.bare, I.base, I.loc, I.cell, I.free, I.freeC, I.pin, I.hok, I.len⟩
theorem SP.unwish {D : Ends} {f : Flow} {s' : Shared} (h : SP (X.wish E) pins D f s') : SP X pins D f s' := by
  cases f with
  | next => obtain ⟨σ', H', I, q⟩ := h; exact ⟨σ', H', I.unwish, q⟩
  | brk => obtain ⟨σ', H', I, q⟩ := h; exact ⟨σ', H', I.unwish, q⟩
  | cont => obtain ⟨σ', H', I, q⟩ := h; exact ⟨σ', H', I.unwish, q⟩
  | ret u => obtain ⟨v, σ', H', I, r, q⟩ := h; exact ⟨v, σ', H', I.unwish, r, q⟩
theorem PE.nox {e : Expr} {t : TE} (h : PE X.nox e t) : PE X e t := fun pins s σ H Q I hw =>
  wpAny_mono (h pins s σ H Q (I.wish _) hw) (fun _ _ ⟨v, H', I', r, q⟩ => ⟨v, H', I'.unwish, r, q⟩) fun _ _ z => False.elim z
theorem PT.nox {e : Expr} {t : TT} (h : PT X.nox e t) : PT X e t := fun pins s σ H Q I hw =>
  wpAny_mono (h pins s σ H Q (I.wish _) hw) (fun _ _ ⟨H', I', q⟩ => ⟨H', I'.unwish, q⟩) fun _ _ z => False.elim z
theorem PSs.nox {st : List Stmt} {t : TS} (h : PSs X.nox st t) : PSs X st t := fun pins s σ H D I hw =>
  wpAny_mono (h pins s σ H D (I.wish _) hw) (fun _ _ q => q.unwish) fun _ _ z => False.elim z
end

section
variable {X : Cx} {st : Stmt} {rest : List Stmt} {t u : TS} {e : Expr} {te : TE} {pos : Pos}
def tNext : TS := fun D σ H => D.nx σ H
def tSeq (t u : TS) : TS := fun D σ H => t { D with nx := u D } σ H
theorem pss_nil : PSs X [] tNext := fun _ _ σ H _ I h => wpAny_execs_nil ⟨σ, H, I, h⟩
theorem pss_cons (h1 : PS X st t) (h2 : PSs X rest u) : PSs X (st :: rest) (tSeq t u) := by
  intro pins s σ H D I h
  refine wpAny_execs_cons (thn (h1 pins s σ H { D with nx := u D } I h) fun f s1 q => ?_)
  cases f with
  | next =>
    obtain ⟨σ', H', I', q⟩ := q
    exact h2 pins s1 σ' H' D I' q
  | ret v => exact q
  | brk => exact q
  | cont => exact q
theorem pss_one (h1 : PS X st t) : PSs X [st] t := by
  intro pins s σ H D I h
  refine wpAny_execs_cons (thn (h1 pins s σ H D I h) fun f s1 q => ?_)
  cases f with
  | next => exact wpAny_execs_nil q
  | ret v => exact q
  | brk => exact q
  | cont => exact q
/-- in a def's body nothing is shown -/
theorem Inv.quiet {pins : List (Addr × Obj)} {σ : St} {H : Hp} {s : Shared} (I : Inv X pins σ H s) : interactive X.env = false := by simp [interactive, I.ok.kind]
/-- an expression whose value is dropped -/
def tDrop (te : TE) : TS := fun D σ H => te σ H fun _ H1 => D.nx σ H1
theorem ps_expr (he : PE X e te) (hs : swapsWith e none pos.line X.env = pure false := by rfl) : PS X (.Expr e pos) (tDrop te) := by
  intro pins s σ H D I h
  exact wpAny_Expr_any (thn (he pins s σ H _ I h) fun v s1 ⟨x, H1, I1, r1, q1⟩ => ⟨σ, H1, I1, q1⟩) I.quiet hs
def tRet (te : TE) : TS := fun D σ H => te σ H D.rt
theorem ps_ret (he : PE X e te) : PS X (.Return (some e) pos) (tRet te) := by
  intro pins s σ H D I h
  exact wpAny_Return_some (thn (he pins s σ H _ I h) fun v s1 ⟨x, H1, I1, r1, q1⟩ => ⟨x, σ, H1, I1, r1, q1⟩)
def tIfS (c : TT) (t u : TS) : TS := fun D σ H => c σ H fun b H1 => if b = true then t D σ H1 else u D σ H1
theorem ps_if {c : Expr} {a b : List Stmt} {tc : TT} (hc : PT X c tc) (ha : PSs X a t) (hb : PSs X b u) : PS X (.If c a b pos) (tIfS tc t u) := by
  intro pins s σ H D I h
  refine wpAny_If (thn (hc pins s σ H _ I h) fun d s1 ⟨H1, I1, q1⟩ => ?_)
  cases d with
  | true => exact ha pins s1 σ H1 D I1 q1
  | false => exact hb pins s1 σ H1 D I1 q1
end

abbrev TG := V → St → Hp → (St → Hp → Prop) → Prop
abbrev TGs := List V → St → Hp → (St → Hp → Prop) → Prop
def PG (X : Cx) (target : Expr) (t : TG) : Prop :=
  ∀ (pins : List (Addr × Obj)) (s : Shared) (σ : St) (H : Hp) (v : V) (u : Value) (Q : St → Hp → Prop), Inv X pins σ H s → RelV v u → t v σ H Q →
    wpAny (model X.prog X.w) X.A (assign target X.env u) (fun _ s' => ∃ σ' H', Inv X pins σ' H' s' ∧ Q σ' H') X.xe s
/-- several targets, one after another -/
def PGs (X : Cx) (ts : List Expr) (t : TGs) : Prop :=
  ∀ (pins : List (Addr × Obj)) (s : Shared) (σ : St) (H : Hp) (vs : List V) (us : List Value) (Q : St → Hp → Prop), Inv X pins σ H s → Vals vs us → t vs σ H Q →
    wpAny (model X.prog X.w) X.A (assignInOrder ((assignEach ts X.env).map (·.2)) us) (fun _ s' => ∃ σ' H', Inv X pins σ' H' s' ∧ Q σ' H') X.xe s
section
variable {X : Cx} {pos : Pos}
def gName (i : Nat) : TG := fun v σ H Q => Q (σ.set i (some v)) H
theorem pg_name {i : Nat} {x : Str} (hN : X.N.Nodup) (hi : X.N[i]? = some x) (hx : Loc X.env.scope x) (hf : X.fn x = true ∨ X.env.scope.names.lookup x = some .local := by first | exact .inl rfl | exact .inr rfl | assumption) : PG X (.Name x pos) (gName i) := by
  intro pins s σ H v u Q I r h
  exact wpAny_assign_Name (store_ok I hN hi hx r (fun s' I' => ⟨_, H, I', h⟩) hf)
def gNil : TGs := fun vs σ H Q => vs = [] ∧ Q σ H
def gCons (t : TG) (u : TGs) : TGs := fun vs σ H Q => ∃ v r, vs = v :: r ∧ t v σ H fun σ' H' => u r σ' H' Q
theorem pgs_nil : PGs X [] gNil := by
  intro pins s σ H vs us Q I r h
  obtain ⟨e, h⟩ := h
  subst e
  cases r
  exact assignInOrder_nil ⟨σ, H, I, h⟩
theorem pgs_cons {e : Expr} {es : List Expr} {t : TG} {u : TGs} (h1 : PG X e t) (h2 : PGs X es u)
    (hs : (assignEach (e :: es) X.env).map (·.2) = assign e X.env :: (assignEach es X.env).map (·.2) := by rfl) : PGs X (e :: es) (gCons t u) := by
  intro pins s σ H vs us Q I r h
  obtain ⟨v, vr, e1, h⟩ := h
  subst e1
  cases r with
  | cons r rr =>
    rw [hs]
    refine assignInOrder_cons (thn (h1 pins s σ H _ _ _ I r h) fun _ s1 ⟨σ1, H1, I1, q1⟩ => ?_)
    exact h2 pins s1 σ1 H1 _ _ Q I1 rr q1
/-- (a, b, ..) = a tuple of that length -/
def gTup (K : PySem.W.Frag) (n : Nat) (t : TGs) : TG := fun v σ H Q => ∃ a xs, v = .ref a ∧ SqT K H a xs ∧ xs.length = n ∧ t xs σ H Q
theorem pg_tup {es : List Expr} {k : Nat} {t : TGs} {n : Nat} (hc : X.calm = true) (h : PGs X es t)
    (hn : (assignEach es X.env).length = n := by rfl) (hst : (assignEach es X.env).findIdx? (·.1) = none := by rfl) : PG X (.Tuple es k pos) (gTup X.K n t) := by
  intro pins s σ H v u Q I r hw
  obtain ⟨a, xs, e1, hq, hl, hw⟩ := hw
  subst e1
  cases r
  obtain ⟨its, rv, ht, hz⟩ := I.tuple hq
  refine assign_Tuple_tuple (I.ok.hd hc) ht (by simp [hn, ← hl, rv.length]) hst fun h' hx => ?_
  have I1 : Inv X pins σ H { s with heap := h' } := I.kept (t' := s.toks) fun b o e => hx b o (Nat.ne_of_lt (Heap.lt_size e)) e
  exact h pins _ σ H xs _ Q I1 (by simpa using rv) hw
/-- target = value -/
def tAsg (te : TE) (g : TG) : TS := fun D σ H => te σ H fun x H1 => g x σ H1 D.nx
theorem ps_asg {tg e : Expr} {te : TE} {g : TG} (he : PE X e te) (hg : PG X tg g) (hs : swapsWithSole [tg] e pos.line X.env = pure false := by rfl) (hw : swappedStores [tg] e X.env = pure none := by rfl)
    (h1 : (assignEach [tg] X.env).map (·.2) = [assign tg X.env] := by rfl) : PS X (.Assign [tg] e pos) (tAsg te g) := by
  intro pins s σ H D I h
  refine wpAny_Assign_stores (thn (he pins s σ H _ I h) fun v s1 ⟨x, H1, I1, r1, q1⟩ => ?_) hs hw
  rw [h1]
  exact thn (hg pins s1 σ H1 x v _ I1 r1 q1) fun _ s2 q => q
/-- name = value -/
theorem ps_set {i : Nat} {x : Str} {e : Expr} {te : TE} {pos' : Pos} (hN : X.N.Nodup) (hi : X.N[i]? = some x) (hx : Loc X.env.scope x) (he : PE X e te) (hs : swapsWith e (some (.Name x pos')) pos.line X.env = pure false := by rfl) (hf : X.fn x = true ∨ X.env.scope.names.lookup x = some .local := by first | exact .inl rfl | exact .inr rfl | assumption) :
    PS X (.Assign [.Name x pos'] e pos) (tAsg te (gName i)) := by
  intro pins s σ H D I h
  refine wpAny_Assign_Name (thn (he pins s σ H _ I h) fun v s1 ⟨y, H1, I1, r1, q1⟩ => ?_) hs
  exact store_ok I1 hN hi hx r1 (fun s2 I2 => ⟨_, H1, I2, q1⟩) hf
/-- a, b = x, y with plain local names: stored from the right; the pair itself is not tracked (the opening rows as in PyProof/Rows/TupAssign.lean:23) -/
def tPar (i j : Nat) (ta : TA) : TS := fun D σ H => ta σ H fun vs H1 => ∃ v w, vs = [v, w] ∧ D.nx ((σ.set i (some v)).set j (some w)) H1
theorem ps_par {i j : Nat} {x y : Str} {a b : Expr} {ta : TA} {px py pt : Pos} {kt k2 pt2} (hc : X.calm = true) (hN : X.N.Nodup) (hi : X.N[i]? = some x) (hj : X.N[j]? = some y) (hij : i ≠ j)
    (hx : X.env.scope.names.lookup x = some .local) (hy : X.env.scope.names.lookup y = some .local) (ha : PA X [a, b] ta)
    (hw : swappedStores [.Tuple [.Name x px, .Name y py] kt pt] (.Tuple [a, b] k2 pt2) X.env = pure (some [x, y]))
    (hs : swapsWithSole [.Tuple [.Name x px, .Name y py] kt pt] (.Tuple [a, b] k2 pt2) pos.line X.env = pure false := by rfl) :
    PS X (.Assign [.Tuple [.Name x px, .Name y py] kt pt] (.Tuple [a, b] k2 pt2) pos) (tPar i j ta) := by
  intro pins s σ H D I h
  rw [exec_Assign_arm]
  refine wpAny_bind (wpAny_standAt ?_)
  rw [hs]
  refine wpAny_bind (wpAny_pure ?_)
  rw [if_neg (by decide)]
  refine wpAny_bind (Tuple_ (thn (ha _ pins s σ H _ I h) fun us s1 ⟨vs, H1, I1, r1, q1⟩ => ?_))
  obtain ⟨v, w, e1, q1⟩ := q1
  subst e1
  obtain ⟨u1, u2, rfl, rv, rw'⟩ : ∃ u1 u2, us = [u1, u2] ∧ RelV v u1 ∧ RelV w u2 := by
    cases r1 with
    | cons p q =>
      cases q with
      | cons p' q' =>
        cases q'
        exact ⟨_, _, rfl, p, p'⟩
  refine wpAny_newObj_type ?_ (by show 2 ≤ sizeLine; decide)
  have I2 : Inv X pins σ H1 { s1 with heap := s1.heap.push { cls := .type "tuple", data := .seq [u1, u2].toArray } } := I1.kept (t' := s1.toks) fun b o e => Heap.get?_push_of_some _ e
  rw [hw]
  refine wpAny_bind (wpAny_pure ?_)
  show wpAny (model X.prog X.w) X.A (do rule "assign.swapped-stores"; let items ← unpackItems (.ref s1.heap.objs.size) 2 none; assignInOrder [fun v => bindName X.env y v, fun v => bindName X.env x v] items.reverse; pure Flow.next) _ _ _
  refine wpAny_bind (wpAny_rule (wpAny_bind (unpackItems_tuple (items := #[u1, u2]) (I.ok.hd hc) (IsTup.new s1.heap _) fun h' hx' => ?_)))
  have I3 := I2.kept (h' := h') (t' := s1.toks) fun b o e => hx' b o (Nat.ne_of_lt (Heap.lt_size e)) e
  show wpAny _ _ (assignInOrder [fun v => bindName X.env y v, fun v => bindName X.env x v] [u2, u1] >>= fun _ => pure Flow.next) _ _ _
  refine wpAny_bind (assignInOrder_cons (wpAny_bindName (store_ok I3 hN hj (.inl hy) rw' (fun s2 I4 => ?_) (.inr hy))))
  refine assignInOrder_cons (wpAny_bindName (store_ok I4 hN hi (.inl hx) rv (fun s3 I5 => assignInOrder_nil (wpAny_pure ?_)) (.inr hx)))
  rw [List.set_comm _ _ (Ne.symm hij)] at I5
  exact ⟨_, H1, I5, q1⟩
end

section
variable {X : Cx} {pos : Pos}
/-- the invariant W with its measure -/
def tWhile (c : TT) (tb : TS) : TS := fun D σ H => ∃ W : Nat → St → Hp → Prop, (∃ m, W m σ H) ∧ ∀ m σ H, W m σ H →
  c σ H fun b H1 => if b = true then ∃ N : St → Hp → Prop, (∀ σ' H', N σ' H' → ∃ m', m' < m ∧ W m' σ' H') ∧ tb { D with nx := N, ct := N, bk := D.nx } σ H1 else D.nx σ H1
theorem ps_while {c : Expr} {body : List Stmt} {tc : TT} {tb : TS} (hp : PassesOwn (model X.prog X.w) X.A X.env X.xe) (hc : PT X c tc) (hb : PSs X body tb) : PS X (.While c body [] pos) (tWhile tc tb) := by
  intro pins s σ H D I h
  obtain ⟨W, ⟨m0, w0⟩, turn⟩ := h
  refine wpAny_While (codeAny_whileLoop (fun n s' => ∃ σ' H', Inv X pins σ' H' s' ∧ W n σ' H') ?_ m0 ⟨σ, H, I, w0⟩)
  rintro n s1 ⟨σ1, H1, I1, w1⟩
  refine wpAny_passesOwn hp (thn (hc pins s1 σ1 H1 _ I1 (turn n σ1 H1 w1)) fun b s2 ⟨H2, I2, q2⟩ => ?_)
  cases b with
  | true =>
    obtain ⟨N, hN, q2⟩ := q2
    rw [if_pos rfl]
    refine wpAny_passesOwn hp (thn (hb pins s2 σ1 H2 _ I2 q2) fun f s3 q3 => ?_)
    cases f with
    | next =>
      obtain ⟨σ3, H3, I3, n3⟩ := q3
      obtain ⟨m', hm, w3⟩ := hN σ3 H3 n3
      exact ⟨m', hm, σ3, H3, I3, w3⟩
    | cont =>
      obtain ⟨σ3, H3, I3, n3⟩ := q3
      obtain ⟨m', hm, w3⟩ := hN σ3 H3 n3
      exact ⟨m', hm, σ3, H3, I3, w3⟩
    | brk => exact q3
    | ret v => exact q3
  | false =>
    rw [if_neg Bool.false_ne_true]
    exact wpAny_execs_nil ⟨σ1, H2, I2, q2⟩
end

/-- at turn i: it yields x (the heap may grow), or it stops -/
structure It where
  go : Nat → Hp → Prop
  yld : Nat → Hp → V → Hp → Prop
  stop : Nat → Hp → Prop
/-- the iterator's own objects may turn: they are not the frame's, not pinned, younger than the entry (or a comprehension's own) -/
def FpOk (X : Cx) (pins : List (Addr × Obj)) (H : Hp) (b : Addr) : Prop :=
  H b = none ∧ b ≠ X.env.locals ∧ b ∉ X.fs ∧ (b ∈ X.ex ∨ X.s₀.heap.objs.size ≤ b) ∧ (∀ x c, X.env.cells.lookup x = some c → c ≠ b) ∧ ∀ p ∈ X.pn ++ pins, p.1 ≠ b
theorem Inv.fpOk {X : Cx} {pins : List (Addr × Obj)} {σ : St} {H H' : Hp} {s : Shared} {b : Addr} (I : Inv X pins σ H s) (hb : s.heap.objs.size ≤ b) (hn : H' b = none) : FpOk X pins H' b := by
  refine ⟨hn, Nat.ne_of_gt (Nat.lt_of_lt_of_le I.lt hb), I.nofs hb, .inr (Nat.le_trans I.sz hb), fun x c e z => ?_, fun p hp z => ?_⟩
  · obtain ⟨v, q⟩ := I.cell x c e
    exact absurd (Nat.lt_of_lt_of_le q.lt (by rw [z]; exact hb)) (Nat.lt_irrefl _)
  · exact absurd (Nat.lt_of_lt_of_le (Heap.lt_size (I.pin p hp).1) (by rw [z]; exact hb)) (Nat.lt_irrefl _)
structure Turn (P : Program) (w : World) (K : PySem.W.Frag) (tg : Expr) (J : It) (fp : List Addr) (it : Addr) (tn : Nat → Heap → Prop) : Prop where
  mem : it ∈ fp
  obj : ∀ i h, tn i h → ∀ b ∈ fp, ∃ o, h.get? b = some o ∧ ∀ v, o.data ≠ .cell v
  keep : ∀ i h h', tn i h → (∀ b ∈ fp, ∀ o, h.get? b = some o → h'.get? b = some o) → tn i h'
  item : ∀ (X : Cx), X.prog = P → X.w = w → X.K = K → X.calm = true → ∀ (i : Nat) (pins : List (Addr × Obj)) (s : Shared) (σ : St) (H : Hp) (E : Value → Shared → Prop), Inv X pins σ H s → (∀ b ∈ fp, FpOk X pins H b) → tn i s.heap → J.go i H →
    wpAny (model P w) X.A (pyNext (.ref it)) (fun r s1 => ∃ u, r = some u ∧
      wpAny (model P w) X.A (letOwnedTupleGo tg (.ref it) u) (fun _ s2 => ∃ x H', Inv X pins σ H' s2 ∧ RelV x u ∧ J.yld i H x H' ∧ tn (i + 1) s2.heap ∧ ∀ b ∈ fp, H' b = none) E s1) E s
  done : ∀ (X : Cx), X.prog = P → X.w = w → X.K = K → X.calm = true → ∀ (i : Nat) (pins : List (Addr × Obj)) (s : Shared) (σ : St) (H : Hp) (E : Value → Shared → Prop), Inv X pins σ H s → (∀ b ∈ fp, FpOk X pins H b) → tn i s.heap → J.stop i H →
    wpAny (model P w) X.A (pyNext (.ref it)) (fun r s1 => r = none ∧ Inv X pins σ H s1) E s
  self : ∀ (A : Around) (i : Nat) (s : Shared) (Q : Value → Shared → Prop) (E : Value → Shared → Prop), tn i s.heap → Q (.ref it) s → wpAny (model P w) A (pyIter (.ref it)) Q E s
abbrev TI := St → Hp → (It → Hp → Prop) → Prop
/-- an iterator has come -/
def PIE (X : Cx) (pins : List (Addr × Obj)) (σ : St) (tg : Expr) (R : It → Hp → Prop) (itv : Value) (s2 : Shared) : Prop :=
  ∃ (it : Addr) (fp : List Addr) (tn : Nat → Heap → Prop) (J : It) (H' : Hp), itv = .ref it ∧ Inv X pins σ H' s2 ∧ Turn X.prog X.w X.K tg J fp it tn ∧ tn 0 s2.heap ∧ (∀ b ∈ fp, FpOk X pins H' b) ∧ R J H'
def PI (X : Cx) (tg iter : Expr) (wi : TI) : Prop :=
  ∀ (pins : List (Addr × Obj)) (s : Shared) (σ : St) (H : Hp) (R : It → Hp → Prop), Inv X pins σ H s → wi σ H R →
    wpAny (model X.prog X.w) X.A (eval iter X.env) (fun v s1 => wpAny (model X.prog X.w) X.A (pyIter v) (PIE X pins σ tg R) X.xe s1) X.xe s

/-- the step ahead of the store is nothing for an iterator that keeps no tuple -/
theorem go_of {M : Model} {A : Around} {E : Value → Shared → Prop} {s : Shared} {tg : Expr} {it : Addr} {u : Value} {o : Obj} {n : String} {vs : Array Value} {Q : Unit → Shared → Prop} (ho : s.heap.get? it = some o) (hc : o.cls = .type n) (hd : o.data = .fields vs)
    (hn : ["enumerate", "zip", "dict_itemiterator", "dict_reverseitemiterator", "odict_iterator", "itertools.zip_longest", "itertools.pairwise"].contains n = false) (hQ : Q () s) : wpAny M A (letOwnedTupleGo tg (.ref it) u) Q E s := by
  unfold letOwnedTupleGo
  cases tg <;> first
    | exact wpAny_pure hQ
    | (cases u <;> first
        | exact wpAny_pure hQ
        | (refine wpAny_bind (wpAny_load ho ?_)
           rw [hc, hd]
           show wpAny M A (if (["enumerate", "zip", "dict_itemiterator", "dict_reverseitemiterator", "odict_iterator", "itertools.zip_longest", "itertools.pairwise"].contains n && vs[0]? == some (rawInt _)) = true then _ else _) Q E s
           rw [if_neg (by intro h; rw [hn, Bool.false_and] at h; cases h)]
           exact wpAny_pure hQ))

/-- the list at a, as it stands at each turn (a loop may append to it) -/
def Itl (K : PySem.W.Frag) (a : Addr) : It :=
  ⟨fun i H => ∃ xs x, SqL K H a xs ∧ xs[i]? = some x, fun i H x H' => H' = H ∧ ∀ xs, SqL K H a xs → xs[i]? = some x, fun i H => ∃ xs, SqL K H a xs ∧ xs.length ≤ i⟩
def Itt (K : PySem.W.Frag) (a : Addr) : It :=
  ⟨fun i H => ∃ xs x, SqT K H a xs ∧ xs[i]? = some x, fun i H x H' => H' = H ∧ ∀ xs, SqT K H a xs → xs[i]? = some x, fun i H => ∃ xs, SqT K H a xs ∧ xs.length ≤ i⟩
/-- lo, lo + 1, .. (n of them) -/
def Itr (lo : Int) (n : Nat) : It := ⟨fun i _ => i < n, fun i H x H' => H' = H ∧ x = .int (lo + i), fun i _ => n ≤ i⟩
theorem turn_list {P : Program} {w : World} {K : PySem.W.Frag} {tg : Expr} (a it : Addr) : Turn P w K tg (Itl K a) [it] it (fun i h => h.IsListIter it a i) where
  mem := by simp
  obj := fun i h st b hb => by
    have e : b = it := by simpa using hb
    subst e
    obtain ⟨o, e, c, d⟩ := st
    exact ⟨o, e, fun v z => by rw [d] at z; cases z⟩
  keep := fun i h h' st k => st.at fun o e => k it (by simp) o e
  item := by
    intro X hP hw hK hc i pins s σ H E I hf st hg
    subst hP hw hK
    obtain ⟨xs, x, hq, hx⟩ := hg
    obtain ⟨its, rv, p, hz⟩ := I.list hq
    obtain ⟨u, hu, ru⟩ := rv.get hx
    obtain ⟨f0, f1, f2, f3, f4, f5⟩ := hf it (by simp)
    refine wpAny_pyNext_list_item st p.isList (x := u) (by simpa using hu) fun h' st' sb => ?_
    have I1 : Inv X pins σ H { s with heap := h' } := I.turned (t' := s.toks) (fun b o hb e => (sb.2 b hb).trans e) f0 f1 f3 f4 f5
    obtain ⟨o, e, c, d⟩ := id st'
    exact ⟨u, rfl, go_of (s := { s with heap := h' }) e c d (by decide) ⟨x, H, I1, ru, ⟨rfl, fun ys hy => by rw [I.list_inj hy hq]; exact hx⟩, st', fun b hb => (hf b hb).1⟩⟩
  done := by
    intro X hP hw hK hc i pins s σ H E I hf st hg
    subst hP hw hK
    obtain ⟨xs, hq, hx⟩ := hg
    obtain ⟨its, rv, p, hz⟩ := I.list hq
    obtain ⟨f0, f1, f2, f3, f4, f5⟩ := hf it (by simp)
    have hl := rv.length
    exact wpAny_pyNext_list_end (I.ok.hd hc) st p.isList (by simp; omega) fun h' eb => ⟨rfl, I.turned (t' := s.toks) (fun b o hb e => eb b o hb e) f0 f1 f3 f4 f5⟩
  self := fun _ _ _ _ _ st h => wpAny_pyIter_listiter st h
theorem turn_tuple {P : Program} {w : World} {K : PySem.W.Frag} {tg : Expr} (a it : Addr) : Turn P w K tg (Itt K a) [it] it (fun i h => h.IsTupleIter it a i) where
  mem := by simp
  obj := fun i h st b hb => by
    have e : b = it := by simpa using hb
    subst e
    obtain ⟨o, e, c, d⟩ := st
    exact ⟨o, e, fun v z => by rw [d] at z; cases z⟩
  keep := fun i h h' st k => st.at fun o e => k it (by simp) o e
  item := by
    intro X hP hw hK hc i pins s σ H E I hf st hg
    subst hP hw hK
    obtain ⟨xs, x, hq, hx⟩ := hg
    obtain ⟨its, rv, p, hz⟩ := I.tuple hq
    obtain ⟨u, hu, ru⟩ := rv.get hx
    obtain ⟨f0, f1, f2, f3, f4, f5⟩ := hf it (by simp)
    refine wpAny_pyNext_tuple_item st (show s.heap.IsTuple a its.toArray from p) (x := u) (by simpa using hu) fun h' st' sb => ?_
    have I1 : Inv X pins σ H { s with heap := h' } := I.turned (t' := s.toks) (fun b o hb e => (sb.2 b hb).trans e) f0 f1 f3 f4 f5
    obtain ⟨o, e, c, d⟩ := id st'
    exact ⟨u, rfl, go_of (s := { s with heap := h' }) e c d (by decide) ⟨x, H, I1, ru, ⟨rfl, fun ys hy => by rw [I.tuple_inj hy hq]; exact hx⟩, st', fun b hb => (hf b hb).1⟩⟩
  done := by
    intro X hP hw hK hc i pins s σ H E I hf st hg
    subst hP hw hK
    obtain ⟨xs, hq, hx⟩ := hg
    obtain ⟨its, rv, p, hz⟩ := I.tuple hq
    obtain ⟨f0, f1, f2, f3, f4, f5⟩ := hf it (by simp)
    have hl := rv.length
    exact wpAny_pyNext_tuple_end (I.ok.hd hc) st (show s.heap.IsTuple a its.toArray from p) (by simp; omega) fun h' eb => ⟨rfl, I.turned (t' := s.toks) (fun b o hb e => eb b o hb e) f0 f1 f3 f4 f5⟩
  self := fun _ _ _ _ _ st h => wpAny_pyIter_tupleiter st h
theorem turn_range {P : Program} {w : World} {K : PySem.W.Frag} {tg : Expr} (it : Addr) (lo : Int) (n : Nat) : Turn P w K tg (Itr lo n) [it] it (fun i h => IsRangeIter h it (lo + (i : Nat) * 1) ((n : Int) - (i : Nat)) 1) where
  mem := by simp
  obj := fun i h st b hb => by
    have e : b = it := by simpa using hb
    subst e
    exact ⟨_, st, fun v z => by
      have z' : Data.fields _ = Data.cell v := z
      cases z'⟩
  keep := fun i h h' st k => k it (by simp) _ st
  item := by
    intro X hP hw hK hc i pins s σ H E I hf st hg
    subst hP hw hK
    obtain ⟨f0, f1, f2, f3, f4, f5⟩ := hf it (by simp)
    have W := Walks.range (prog := X.prog) (w := X.w) (I.ok.hd hc) it lo 1 n
    refine W.item i s _ _ hg st fun v h' tk hv st' kk => ?_
    obtain ⟨t, rfl⟩ := hv
    have I1 : Inv X pins σ H { s with heap := h', toks := tk } := I.turned (fun b o hb e => kk b o (by simpa using hb) e) f0 f1 f3 f4 f5
    refine ⟨_, rfl, go_of (s := { s with heap := h', toks := tk }) (n := "range_iterator") st' rfl rfl (by decide) ⟨.int (lo + i), H, I1, ⟨t, ?_⟩, ⟨rfl, rfl⟩, st', fun b hb => (hf b hb).1⟩⟩
    rw [Int.mul_one]
  done := by
    intro X hP hw hK hc i pins s σ H E I hf st hg
    subst hP hw hK
    obtain ⟨f0, f1, f2, f3, f4, f5⟩ := hf it (by simp)
    exact wpAny_pyNext_range_end (I.ok.hd hc) st (by have : n ≤ i := hg; omega) fun h' eb => ⟨rfl, I.turned (t' := s.toks) (fun b o hb e => eb b o hb e) f0 f1 f3 f4 f5⟩
  self := fun _ _ _ _ _ st h => wpAny_pyIter_rangeiter st h
end L2

namespace L2
open PySem PySem.Spec PyProof.Rows
section
variable {X : Cx} {tg : Expr}
/-- a range object just made, walked -/
theorem range_it {pins : List (Addr × Obj)} {σ : St} {H : Hp} {s : Shared} {R : It → Hp → Prop} {E : Value → Shared → Prop} {lo hi : Int} {t u v : Tok} {tk : Nat} (I : Inv X pins σ H s) (h1 : -(2 ^ 62) ≤ lo) (h2 : lo < 2 ^ 62) (h3 : -(2 ^ 62) ≤ hi) (h4 : hi < 2 ^ 62)
    (q : R (Itr lo (hi - lo).toNat) H) : wpAny (model X.prog X.w) X.A (pyIter (.ref s.heap.objs.size)) (PIE X pins σ tg R) E { s with heap := s.heap.push { cls := .type "range", data := .fields #[.int lo t, .int hi u, .int 1 v] }, toks := tk } := by
  refine wpAny_pyIter_range (IsRange.new ..) (small_one h1 h2 h3 h4) ?_
  have I1 : Inv X pins σ H { s with heap := s.heap.push { cls := .type "range", data := .fields #[.int lo t, .int hi u, .int 1 v] }, toks := tk } := I.kept fun b o e => Heap.get?_push_of_some _ e
  refine ⟨(s.heap.push { cls := .type "range", data := .fields #[.int lo t, .int hi u, .int 1 v] }).objs.size, [(s.heap.push { cls := .type "range", data := .fields #[.int lo t, .int hi u, .int 1 v] }).objs.size], _, _, H, rfl,
    I1.kept (t' := tk) fun b o e => Heap.get?_push_of_some _ e, turn_range _ lo (hi - lo).toNat, ?_, fun b hb => ?_, q⟩
  · have e1 : lo + ((0 : Nat) : Int) * 1 = lo := by simp
    have e2 : (((hi - lo).toNat : Nat) : Int) - ((0 : Nat) : Int) = Builtin.Range.rangeSize lo hi 1 := by rw [rangeSize_one]; split <;> omega
    show IsRangeIter _ _ (lo + ((0 : Nat) : Int) * 1) ((((hi - lo).toNat : Nat) : Int) - ((0 : Nat) : Int)) 1
    rw [e1, e2]
    exact Heap.get?_push_size _ rfl
  · have e : b = (s.heap.push { cls := .type "range", data := .fields #[.int lo t, .int hi u, .int 1 v] }).objs.size := by simpa using hb
    subst e
    exact I1.fpOk (Nat.le_refl _) (I1.hok.fresh (Nat.le_refl _))
def iRng1 (ta : TA) : TI := fun σ H R => ta σ H fun vs H1 => ∃ j : Int, vs = [.int j] ∧ -(2 ^ 62) ≤ j ∧ j < 2 ^ 62 ∧ R (Itr 0 j.toNat) H1
theorem pi_range1 {a : Expr} {ta : TA} {p pos : Pos} (hg : Gl X "range") (hm : X.mg "range" = none) (ha : PA X [a] ta) (hs : starEach [a] X.env = [(false, eval a X.env)] := by rfl) : PI X tg (.Call (.Name "range" p) [a] [] pos) (iRng1 ta) := by
  intro pins s σ H R I h
  refine Call_ (ld_blt I hg hm boot_range (PyProof.Rows.callWith_type1 (thn (ha pos pins s σ H _ I h) fun us s1 ⟨vs, H1, I1, r1, q1⟩ => ?_) hs rfl))
  obtain ⟨j, e, q1, q2, q⟩ := q1
  subst e
  cases r1 with
  | cons r rr =>
    cases rr
    obtain ⟨t, rfl⟩ := r
    exact call_range_1 (range_it I1 (by omega) (by omega) q1 q2 (by simpa using q))
/-- W: the invariant by the turn and a measure; N: what the body is to reach -/
def tFor (wi : TI) (g : TG) (tb : TS) : TS := fun D σ H => wi σ H fun J H1 => ∃ W : Nat → Nat → St → Hp → Prop, (∃ m, W 0 m σ H1) ∧ ∀ i m σ H, W i m σ H →
  (J.stop i H ∧ D.nx σ H) ∨ (J.go i H ∧ ∃ N : St → Hp → Prop, (∀ σ' H', N σ' H' → ∃ m', m' < m ∧ W (i + 1) m' σ' H') ∧ ∀ x H', J.yld i H x H' → g x σ H' fun σ2 H2 => tb { D with nx := N, ct := N, bk := D.nx } σ2 H2)
/-- the records at fp as they stand -/
def pinsAt (fp : List Addr) (h : Heap) : List (Addr × Obj) := fp.filterMap fun b => (h.get? b).map fun o => (b, o)
theorem mem_pinsAt {fp : List Addr} {h : Heap} {b : Addr} {o : Obj} (hb : b ∈ fp) (e : h.get? b = some o) : (b, o) ∈ pinsAt fp h := List.mem_filterMap.mpr ⟨b, hb, by rw [e]; rfl⟩
theorem of_pinsAt {fp : List Addr} {h : Heap} {p : Addr × Obj} (hp : p ∈ pinsAt fp h) : p.1 ∈ fp ∧ h.get? p.1 = some p.2 := by
  obtain ⟨b, hb, e⟩ := List.mem_filterMap.mp hp
  cases q : h.get? b with
  | none => rw [q] at e; cases e
  | some o =>
    rw [q] at e
    have e' : (b, o) = p := Option.some.inj e
    subst e'
    exact ⟨hb, q⟩
theorem Inv.pinned {pins : List (Addr × Obj)} {σ : St} {H : Hp} {s : Shared} {fp : List Addr} (I : Inv X pins σ H s) (hf : ∀ b ∈ fp, FpOk X pins H b) (ho : ∀ b ∈ fp, ∃ o, s.heap.get? b = some o ∧ ∀ v, o.data ≠ .cell v) : Inv X (pins ++ pinsAt fp s.heap) σ H s :=
  I.pins_of fun p hp => (List.mem_append.mp hp).elim (fun z => I.pin p (List.mem_append_right _ z)) fun z => by
    obtain ⟨hb, e⟩ := of_pinsAt z
    obtain ⟨f0, f1, f2, _⟩ := hf p.1 hb
    obtain ⟨o, e', d⟩ := ho p.1 hb
    rw [e] at e'; cases e'
    exact ⟨e, f0, f1, f2, d⟩
theorem Inv.unpinned {pins pl : List (Addr × Obj)} {σ : St} {H : Hp} {s : Shared} (I : Inv X (pins ++ pl) σ H s) : Inv X pins σ H s := I.pins_of fun p hp => I.pin p (List.mem_append_right _ (List.mem_append_left _ hp))
theorem ps_for {iter : Expr} {body : List Stmt} {wi : TI} {g : TG} {tb : TS} {pos : Pos} (hp : PassesOwn (model X.prog X.w) X.A X.env X.xe) (hc : X.calm = true) (hi : PI X tg iter wi) (hg : PG X tg g) (hb : PSs X body tb)
    (hs : ∀ x, foldedSetIterable iter X.env x = pure x := by intro _; rfl) : PS X (.For tg iter body [] pos) (tFor wi g tb) := by
  intro pins s σ H D I h
  refine wpAny_For (thn (hi pins s σ H _ I h) fun v s1 h1 => thn h1 fun itv s2 h2 => ?_) hs
  obtain ⟨it, fp, tn, J, H2, e, I2, T, st2, f2, W, ⟨m0, w0⟩, turn⟩ := h2
  subst e
  -- what stays true of the iterator's objects through the loop
  have stat : ∀ {H' : Hp}, (∀ b ∈ fp, H' b = none) → ∀ b ∈ fp, FpOk X pins H' b := fun hn b hb => ⟨hn b hb, (f2 b hb).2⟩
  refine codeAny_forLoop_any (fun n s' => ∃ i σ' H', Inv X pins σ' H' s' ∧ tn i s'.heap ∧ (∀ b ∈ fp, H' b = none) ∧ W i n σ' H') ?_ m0 ⟨0, σ, H2, I2, st2, fun b hb => (f2 b hb).1, w0⟩
  rintro n s3 ⟨i, σ3, H3, I3, st3, fr3, w3⟩
  rcases turn i n σ3 H3 w3 with ⟨stop, qn⟩ | ⟨go, N, hN, step⟩
  · refine wpAny_passesOwn hp (thn (T.done X rfl rfl rfl hc i pins s3 σ3 H3 X.xe I3 (stat fr3) st3 stop) fun r s4 ⟨hr, I4⟩ => ?_)
    subst hr
    exact wpAny_execs_nil ⟨σ3, H3, I4, qn⟩
  · refine wpAny_passesOwn hp (thn (T.item X rfl rfl rfl hc i pins s3 σ3 H3 X.xe I3 (stat fr3) st3 go) fun r s4 ⟨u, hr, h4⟩ => ?_)
    subst hr
    refine wpAny_passesOwn hp (thn h4 fun _ s5 ⟨x, H5, I5, r5, y5, st5, fr5⟩ => ?_)
    have I5' := I5.pinned (stat fr5) (T.obj _ _ st5)
    refine wpAny_passesOwn hp (thn (hg _ s5 σ3 H5 x u _ I5' r5 (step x H5 y5)) fun _ s6 ⟨σ6, H6, I6, q6⟩ => ?_)
    refine wpAny_passesOwn hp (thn (hb _ s6 σ6 H6 _ I6 q6) fun f s7 q7 => ?_)
    have again : ∀ {σ7 : St} {H7 : Hp}, Inv X (pins ++ pinsAt fp s5.heap) σ7 H7 s7 → N σ7 H7 → ∃ m, m < n ∧ ∃ i σ' H', Inv X pins σ' H' s7 ∧ tn i s7.heap ∧ (∀ b ∈ fp, H' b = none) ∧ W i m σ' H' := fun {σ7 H7} I7 n7 => by
      obtain ⟨m', hm, w7⟩ := hN σ7 H7 n7
      refine ⟨m', hm, i + 1, σ7, H7, I7.unpinned, T.keep _ _ _ st5 fun b hb o e => (I7.pin (b, o) (List.mem_append_right _ (List.mem_append_right _ (mem_pinsAt hb e)))).1, fun b hb => ?_, w7⟩
      obtain ⟨o, e, d⟩ := T.obj _ _ st5 b hb
      exact (I7.pin (b, o) (List.mem_append_right _ (List.mem_append_right _ (mem_pinsAt hb e)))).2.1
    cases f with
    | next => obtain ⟨σ7, H7, I7, n7⟩ := q7; exact again I7 n7
    | cont => obtain ⟨σ7, H7, I7, n7⟩ := q7; exact again I7 n7
    | brk => obtain ⟨σ7, H7, I7, q7⟩ := q7; exact ⟨σ7, H7, I7.unpinned, q7⟩
    | ret v => obtain ⟨x7, σ7, H7, I7, r7, q7⟩ := q7; exact ⟨x7, σ7, H7, I7.unpinned, r7, q7⟩
end

/-- over a list that the body leaves as it is -/
theorem for_list {K : PySem.W.Frag} {a : Addr} {xs : List V} {g : TG} {tb : TS} {D : Ends} {σ : St} {H : Hp} (Pv : Nat → St → Hp → Prop) (h0 : Pv 0 σ H) (hl : ∀ i σ H, i ≤ xs.length → Pv i σ H → SqL K H a xs)
    (hs : ∀ i x σ H, xs[i]? = some x → Pv i σ H → g x σ H fun σ2 H2 => tb { D with nx := Pv (i + 1), ct := Pv (i + 1), bk := D.nx } σ2 H2) (hd : ∀ σ H, Pv xs.length σ H → D.nx σ H) :
    ∃ W : Nat → Nat → St → Hp → Prop, (∃ m, W 0 m σ H) ∧ ∀ i m σ H, W i m σ H →
      ((Itl K a).stop i H ∧ D.nx σ H) ∨ ((Itl K a).go i H ∧ ∃ N : St → Hp → Prop, (∀ σ' H', N σ' H' → ∃ m', m' < m ∧ W (i + 1) m' σ' H') ∧ ∀ x H', (Itl K a).yld i H x H' → g x σ H' fun σ2 H2 => tb { D with nx := N, ct := N, bk := D.nx } σ2 H2) := by
  refine ⟨fun i m σ H => m = xs.length - i ∧ i ≤ xs.length ∧ Pv i σ H, ⟨xs.length, by simp, Nat.zero_le _, h0⟩, ?_⟩
  rintro i m σ H ⟨rfl, hi, p⟩
  have q := hl i σ H hi p
  by_cases hlt : i < xs.length
  · refine .inr ⟨⟨xs, xs[i], q, by simp [hlt]⟩, Pv (i + 1), fun σ' H' p' => ⟨xs.length - (i + 1), by omega, rfl, hlt, p'⟩, fun x H' y => ?_⟩
    obtain ⟨e, y⟩ := y
    subst e
    exact hs i x σ _ (y xs q) p
  · have e : i = xs.length := by omega
    subst e
    exact .inl ⟨⟨xs, q, Nat.le_refl _⟩, hd σ H p⟩
theorem for_tup {K : PySem.W.Frag} {a : Addr} {xs : List V} {g : TG} {tb : TS} {D : Ends} {σ : St} {H : Hp} (Pv : Nat → St → Hp → Prop) (h0 : Pv 0 σ H) (hl : ∀ i σ H, i ≤ xs.length → Pv i σ H → SqT K H a xs)
    (hs : ∀ i x σ H, xs[i]? = some x → Pv i σ H → g x σ H fun σ2 H2 => tb { D with nx := Pv (i + 1), ct := Pv (i + 1), bk := D.nx } σ2 H2) (hd : ∀ σ H, Pv xs.length σ H → D.nx σ H) :
    ∃ W : Nat → Nat → St → Hp → Prop, (∃ m, W 0 m σ H) ∧ ∀ i m σ H, W i m σ H →
      ((Itt K a).stop i H ∧ D.nx σ H) ∨ ((Itt K a).go i H ∧ ∃ N : St → Hp → Prop, (∀ σ' H', N σ' H' → ∃ m', m' < m ∧ W (i + 1) m' σ' H') ∧ ∀ x H', (Itt K a).yld i H x H' → g x σ H' fun σ2 H2 => tb { D with nx := N, ct := N, bk := D.nx } σ2 H2) := by
  refine ⟨fun i m σ H => m = xs.length - i ∧ i ≤ xs.length ∧ Pv i σ H, ⟨xs.length, by simp, Nat.zero_le _, h0⟩, ?_⟩
  rintro i m σ H ⟨rfl, hi, p⟩
  have q := hl i σ H hi p
  by_cases hlt : i < xs.length
  · refine .inr ⟨⟨xs, xs[i], q, by simp [hlt]⟩, Pv (i + 1), fun σ' H' p' => ⟨xs.length - (i + 1), by omega, rfl, hlt, p'⟩, fun x H' y => ?_⟩
    obtain ⟨e, y⟩ := y
    subst e
    exact hs i x σ _ (y xs q) p
  · have e : i = xs.length := by omega
    subst e
    exact .inl ⟨⟨xs, q, Nat.le_refl _⟩, hd σ H p⟩
theorem for_range {lo : Int} {n : Nat} {g : TG} {tb : TS} {D : Ends} {σ : St} {H : Hp} (Pv : Nat → St → Hp → Prop) (h0 : Pv 0 σ H)
    (hs : ∀ i σ H, i < n → Pv i σ H → g (.int (lo + i)) σ H fun σ2 H2 => tb { D with nx := Pv (i + 1), ct := Pv (i + 1), bk := D.nx } σ2 H2) (hd : ∀ σ H, Pv n σ H → D.nx σ H) :
    ∃ W : Nat → Nat → St → Hp → Prop, (∃ m, W 0 m σ H) ∧ ∀ i m σ H, W i m σ H →
      ((Itr lo n).stop i H ∧ D.nx σ H) ∨ ((Itr lo n).go i H ∧ ∃ N : St → Hp → Prop, (∀ σ' H', N σ' H' → ∃ m', m' < m ∧ W (i + 1) m' σ' H') ∧ ∀ x H', (Itr lo n).yld i H x H' → g x σ H' fun σ2 H2 => tb { D with nx := N, ct := N, bk := D.nx } σ2 H2) := by
  refine ⟨fun i m σ H => m = n - i ∧ i ≤ n ∧ Pv i σ H, ⟨n, by simp, Nat.zero_le _, h0⟩, ?_⟩
  rintro i m σ H ⟨rfl, hi, p⟩
  by_cases hlt : i < n
  · refine .inr ⟨hlt, Pv (i + 1), fun σ' H' p' => ⟨n - (i + 1), by omega, rfl, hlt, p'⟩, fun x H' y => ?_⟩
    obtain ⟨e, y⟩ := y
    subst e y
    exact hs i σ _ hlt p
  · have e : i = n := by omega
    subst e
    exact .inl ⟨Nat.le_refl _, hd σ H p⟩
end L2

namespace L2
open PySem PySem.Spec PyProof.Rows

abbrev R2 := V → V → Hp → VK → Prop
/-- a two-place operation on values: f is binaryOp op, inplaceOp op or compareOp op -/
def OpR (X : Cx) (f : Value → Value → Sem Value) (r : R2) : Prop :=
  ∀ (pins : List (Addr × Obj)) (s : Shared) (σ : St) (H : Hp) (x y : V) (v u : Value) (Q : VK), Inv X pins σ H s → RelV x v → RelV y u → r x y H Q →
    wpAny (model X.prog X.w) X.A (f v u) (EP X pins σ Q) X.xe s
/-- a one-place operation -/
def UnR (X : Cx) (f : Value → Sem Value) (r : V → Hp → VK → Prop) : Prop :=
  ∀ (pins : List (Addr × Obj)) (s : Shared) (σ : St) (H : Hp) (x : V) (v : Value) (Q : VK), Inv X pins σ H s → RelV x v → r x H Q →
    wpAny (model X.prog X.w) X.A (f v) (EP X pins σ Q) X.xe s
/-- a call of a value that is known (a builtin, a type) with values -/
def CallR (X : Cx) (f : Value) (r : List V → Hp → VK → Prop) : Prop :=
  ∀ (pins : List (Addr × Obj)) (s : Shared) (σ : St) (H : Hp) (xs : List V) (us : List Value) (Q : VK), Inv X pins σ H s → Vals xs us → r xs H Q →
    wpAny (model X.prog X.w) X.A (call f us) (EP X pins σ Q) X.xe s
/-- a value's truth -/
def TruR (X : Cx) (r : V → Hp → (Bool → Hp → Prop) → Prop) : Prop :=
  ∀ (pins : List (Addr × Obj)) (s : Shared) (σ : St) (H : Hp) (x : V) (v : Value) (Q : Bool → Hp → Prop), Inv X pins σ H s → RelV x v → r x H Q →
    wpAny (model X.prog X.w) X.A (truthy v) (TP X pins σ Q) X.xe s

def tOp (r : R2) (ta tb : TE) : TE := fun σ H Q => ta σ H fun x H1 => tb σ H1 fun y H2 => r x y H2 Q
def tUn (r : V → Hp → VK → Prop) (ta : TE) : TE := fun σ H Q => ta σ H fun x H1 => r x H1 Q
/-- ints in, under C, and a value out -/
def rI (C : Int → Int → Prop) (g : Int → Int → V) : R2 := fun x y H Q => ∃ i j, x = .int i ∧ y = .int j ∧ C i j ∧ Q (g i j) H
def rI0 (g : Int → Int → V) : R2 := fun x y H Q => ∃ i j, x = .int i ∧ y = .int j ∧ Q (g i j) H
def rU (g : Int → V) : V → Hp → VK → Prop := fun x H Q => ∃ i, x = .int i ∧ Q (g i) H

section
variable {X : Cx} {a b c : Expr} {ta tb tc : TE} {pos : Pos}

theorem binT (ha : PE X a ta) (hb : PE X b tb) {pins : List (Addr × Obj)} {s : Shared} {σ : St} {H : Hp} {R : V → V → Hp → Prop} (I : Inv X pins σ H s)
    (h : ta σ H fun x H1 => tb σ H1 fun y H2 => R x y H2) {Q : Value → Shared → Prop} {f : Value → Value → Sem Value}
    (hf : ∀ v u s2 x y H2, Inv X pins σ H2 s2 → RelV x v → RelV y u → R x y H2 → wpAny (model X.prog X.w) X.A (f v u) Q X.xe s2) :
    wpAny (model X.prog X.w) X.A (eval a X.env) (fun v s₁ => wpAny (model X.prog X.w) X.A (eval b X.env) (fun u s₂ => wpAny (model X.prog X.w) X.A (f v u) Q X.xe s₂) X.xe s₁) X.xe s := by
  refine thn (ha pins s σ H _ I h) fun v s1 ⟨x, H1, I1, r1, q1⟩ => ?_
  refine thn (hb pins s1 σ H1 _ I1 q1) fun u s2 ⟨y, H2, I2, r2, q2⟩ => ?_
  exact hf v u s2 x y H2 I2 r1 r2 q2

theorem pe_op {op : Operator} {r : R2} (ho : OpR X (binaryOp op) r) (ha : PE X a ta) (hb : PE X b tb) : PE X (.BinOp a op b pos) (tOp r ta tb) := by
  intro pins s σ H Q I h
  exact wpAny_BinOp (binT ha hb I h fun v u s2 x y H2 I2 rx ry q => ho pins s2 σ H2 x y v u Q I2 rx ry q)
theorem pe_un {op : UnaryOp} {r : V → Hp → VK → Prop} (ho : UnR X (unaryOp op) r) (ha : PE X a ta) : PE X (.UnaryOp op a pos) (tUn r ta) := by
  intro pins s σ H Q I h
  exact UnaryOp_ (thn (ha pins s σ H _ I h) fun v s1 ⟨x, H1, I1, r1, q1⟩ => ho pins s1 σ H1 x v Q I1 r1 q1)
theorem opI {f : Value → Value → Sem Value} {C : Int → Int → Prop} {g : Int → Int → Int}
    (rule : ∀ (i j : Int) (t u : Tok) (s : Shared) (Q : Value → Shared → Prop) (E : Value → Shared → Prop), C i j → Q (.int (g i j) s.toks) { s with toks := s.toks + 1 } → wpAny (model X.prog X.w) X.A (f (.int i t) (.int j u)) Q E s) :
    OpR X f (rI C fun i j => .int (g i j)) := by
  intro pins s σ H x y v u Q I rx ry h
  obtain ⟨i, j, rfl, rfl, hc, q⟩ := h
  obtain ⟨t, rfl⟩ := rx
  obtain ⟨t', rfl⟩ := ry
  exact rule i j t t' s _ _ hc ⟨.int (g i j), H, I.tok _, ⟨_, rfl⟩, q⟩
theorem opI0 {f : Value → Value → Sem Value} {g : Int → Int → Int}
    (rule : ∀ (i j : Int) (t u : Tok) (s : Shared) (Q : Value → Shared → Prop) (E : Value → Shared → Prop), Q (.int (g i j) s.toks) { s with toks := s.toks + 1 } → wpAny (model X.prog X.w) X.A (f (.int i t) (.int j u)) Q E s) :
    OpR X f (rI0 fun i j => .int (g i j)) := by
  intro pins s σ H x y v u Q I rx ry h
  obtain ⟨i, j, rfl, rfl, q⟩ := h
  obtain ⟨t, rfl⟩ := rx
  obtain ⟨t', rfl⟩ := ry
  exact rule i j t t' s _ _ ⟨.int (g i j), H, I.tok _, ⟨_, rfl⟩, q⟩
theorem opB0 {f : Value → Value → Sem Value} {g : Int → Int → Bool}
    (rule : ∀ (i j : Int) (t u : Tok) (s : Shared) (Q : Value → Shared → Prop) (E : Value → Shared → Prop), Q (.bool (g i j)) s → wpAny (model X.prog X.w) X.A (f (.int i t) (.int j u)) Q E s) :
    OpR X f (rI0 fun i j => .bl (g i j)) := by
  intro pins s σ H x y v u Q I rx ry h
  obtain ⟨i, j, rfl, rfl, q⟩ := h
  obtain ⟨t, rfl⟩ := rx
  obtain ⟨t', rfl⟩ := ry
  exact rule i j t t' s _ _ ⟨.bl (g i j), H, I, rfl, q⟩

def CPow (i j : Int) : Prop := 0 ≤ j ∧ j ≤ 1000000 ∧ i.natAbs < 2 ^ 64
def CMul (i j : Int) : Prop := (-(2 ^ 64) < i ∧ i < 2 ^ 64) ∨ (-(2 ^ 64) < j ∧ j < 2 ^ 64)
theorem CMul.ok {i j : Int} (h : CMul i j) : IntMulOk i j := by
  rcases h with ⟨h1, h2⟩ | ⟨h1, h2⟩
  · exact .of_left (intBits_le_64 h1 h2)
  · exact .of_right (intBits_le_64 h1 h2)
theorem op_add : OpR X (binaryOp .Add) (rI0 fun i j => .int (i + j)) := opI0 fun _ _ _ _ _ _ _ q => add_int q
theorem op_sub : OpR X (binaryOp .Sub) (rI0 fun i j => .int (i - j)) := opI0 fun _ _ _ _ _ _ _ q => sub_int q
theorem op_modN : OpR X (binaryOp .Mod) (rI (fun _ j => j ≠ 0) fun i j => .int (i.fmod j)) := opI fun _ _ _ _ _ _ _ hc q => mod_int' hc q
theorem op_pow : OpR X (binaryOp .Pow) (rI CPow fun i j => .int (i ^ j.toNat)) := opI fun _ _ _ _ _ _ _ hc q => pow_int_small hc.1 hc.2.1 hc.2.2 q
theorem unI {f : Value → Sem Value} {g : Int → Int}
    (rule : ∀ (i : Int) (t : Tok) (s : Shared) (Q : Value → Shared → Prop) (E : Value → Shared → Prop), Q (.int (g i) s.toks) { s with toks := s.toks + 1 } → wpAny (model X.prog X.w) X.A (f (.int i t)) Q E s) :
    UnR X f (rU fun i => .int (g i)) := by
  intro pins s σ H x v Q I rx h
  obtain ⟨i, rfl, q⟩ := h
  obtain ⟨t, rfl⟩ := rx
  exact rule i t s _ _ ⟨.int (g i), H, I.tok _, ⟨_, rfl⟩, q⟩
theorem un_neg : UnR X (unaryOp .USub) (rU fun i => .int (-i)) := unI fun _ _ _ _ _ q => neg_int q
end

/-- the scalars that == tells apart as data does -/
def scal : V → V → Bool
  | .non, .non => true | .non, .int _ => true | .int _, .non => true | .non, .bl _ => true | .bl _, .non => true | .non, .str _ => true | .str _, .non => true
  | .int _, .int _ => true | .bl _, .bl _ => true | .str _, .str _ => true | .byt _, .byt _ => true
  | .int _, .str _ => true | .str _, .int _ => true | .bl _, .str _ => true | .str _, .bl _ => true
  | _, _ => false
def rEq : R2 := fun x y H Q => scal x y = true ∧ Q (.bl (decide (x = y))) H
def rNe : R2 := fun x y H Q => scal x y = true ∧ Q (.bl (!decide (x = y))) H

theorem dec_int {i j : Int} : decide (V.int i = V.int j) = (i == j) := by
  rw [Bool.eq_iff_iff]
  simp
theorem dec_bl {i j : Bool} : decide (V.bl i = V.bl j) = (i == j) := by
  rw [Bool.eq_iff_iff]
  simp
theorem dec_str {i j : Str} : decide (V.str i = V.str j) = (i == j) := by
  rw [Bool.eq_iff_iff]
  simp
theorem dec_byt {i j : Array UInt8} : decide (V.byt i = V.byt j) = (i.toList == j.toList) := by
  rw [Bool.eq_iff_iff]
  cases i
  cases j
  simp

section
variable {X : Cx} {a b c : Expr} {ta tb tc : TE} {pos : Pos}
theorem fin_bl {pins : List (Addr × Obj)} {σ : St} {H : Hp} {s : Shared} {Q : VK} {k k' : Bool} (I : Inv X pins σ H s) (q : Q (.bl k) H) (e : k = k') : EP X pins σ Q (.bool k') s := by
  subst e
  exact ⟨.bl k, H, I, rfl, q⟩
theorem op_eq : OpR X (compareOp .Eq) rEq := by
  intro pins s σ H x y v u Q I rx ry h
  obtain ⟨hs, q⟩ := h
  cases x with
  | non =>
    cases rx
    cases y with
    | non => cases ry; exact PySem.EqNone.eq_none_none (fin_bl I q (by simp))
    | bl j => cases ry; exact PySem.EqNone.eq_none_bool (fin_bl I q (by simp))
    | int j => obtain ⟨t', rfl⟩ := ry; exact PySem.EqNone.eq_none_int (fin_bl I q (by simp))
    | str j => obtain ⟨t', rfl⟩ := ry; exact PySem.EqNone.eq_none_str (fin_bl I q (by simp))
    | _ => exact absurd (show false = true from hs) Bool.false_ne_true
  | bl i =>
    cases rx
    cases y with
    | non => cases ry; exact PySem.EqNone.eq_bool_none (fin_bl I q (by simp))
    | bl j => cases ry; exact eq_bool (fin_bl I q dec_bl)
    | str j => obtain ⟨t', rfl⟩ := ry; exact PySem.EqMixed.eq_bool_str (fin_bl I q (by simp))
    | _ => exact absurd (show false = true from hs) Bool.false_ne_true
  | int i =>
    obtain ⟨t, rfl⟩ := rx
    cases y with
    | non => cases ry; exact PySem.EqNone.eq_int_none (fin_bl I q (by simp))
    | int j => obtain ⟨t', rfl⟩ := ry; exact eq_int (fin_bl I q dec_int)
    | str j => obtain ⟨t', rfl⟩ := ry; exact PySem.EqMixed.eq_int_str (fin_bl I q (by simp))
    | _ => exact absurd (show false = true from hs) Bool.false_ne_true
  | str i =>
    obtain ⟨t, rfl⟩ := rx
    cases y with
    | non => cases ry; exact PySem.EqNone.eq_str_none (fin_bl I q (by simp))
    | bl j => cases ry; exact PySem.EqMixed.eq_str_bool (fin_bl I q (by simp))
    | int j => obtain ⟨t', rfl⟩ := ry; exact PySem.EqMixed.eq_str_int (fin_bl I q (by simp))
    | str j => obtain ⟨t', rfl⟩ := ry; exact eq_str (fin_bl I q dec_str)
    | _ => exact absurd (show false = true from hs) Bool.false_ne_true
  | byt i =>
    obtain ⟨t, rfl⟩ := rx
    cases y with
    | byt j => obtain ⟨t', rfl⟩ := ry; exact PySem.W.eq_bytes (fin_bl I q dec_byt)
    | _ => exact absurd (show false = true from hs) Bool.false_ne_true
  | _ => cases y <;> exact absurd (show false = true from hs) Bool.false_ne_true
theorem op_ne : OpR X (compareOp .NotEq) rNe := by
  intro pins s σ H x y v u Q I rx ry h
  obtain ⟨hs, q⟩ := h
  cases x with
  | non =>
    cases rx
    cases y with
    | non => cases ry; exact PySem.EqNone.ne_none_none (fin_bl I q (by simp))
    | bl j => cases ry; exact PySem.EqNone.ne_none_bool (fin_bl I q (by simp))
    | int j => obtain ⟨t', rfl⟩ := ry; exact PySem.EqNone.ne_none_int (fin_bl I q (by simp))
    | str j => obtain ⟨t', rfl⟩ := ry; exact PySem.EqNone.ne_none_str (fin_bl I q (by simp))
    | _ => exact absurd (show false = true from hs) Bool.false_ne_true
  | bl i =>
    cases rx
    cases y with
    | non => cases ry; exact PySem.EqNone.ne_bool_none (fin_bl I q (by simp))
    | bl j => cases ry; exact ne_bool (fin_bl I q (congrArg not dec_bl))
    | str j => obtain ⟨t', rfl⟩ := ry; exact PySem.EqMixed.ne_bool_str (fin_bl I q (by simp))
    | _ => exact absurd (show false = true from hs) Bool.false_ne_true
  | int i =>
    obtain ⟨t, rfl⟩ := rx
    cases y with
    | non => cases ry; exact PySem.EqNone.ne_int_none (fin_bl I q (by simp))
    | int j => obtain ⟨t', rfl⟩ := ry; exact ne_int (fin_bl I q (congrArg not dec_int))
    | str j => obtain ⟨t', rfl⟩ := ry; exact PySem.EqMixed.ne_int_str (fin_bl I q (by simp))
    | _ => exact absurd (show false = true from hs) Bool.false_ne_true
  | str i =>
    obtain ⟨t, rfl⟩ := rx
    cases y with
    | non => cases ry; exact PySem.EqNone.ne_str_none (fin_bl I q (by simp))
    | bl j => cases ry; exact PySem.EqMixed.ne_str_bool (fin_bl I q (by simp))
    | int j => obtain ⟨t', rfl⟩ := ry; exact PySem.EqMixed.ne_str_int (fin_bl I q (by simp))
    | str j => obtain ⟨t', rfl⟩ := ry; exact ne_str (fin_bl I q (congrArg not dec_str))
    | _ => exact absurd (show false = true from hs) Bool.false_ne_true
  | byt i =>
    obtain ⟨t, rfl⟩ := rx
    cases y with
    | byt j => obtain ⟨t', rfl⟩ := ry; exact PySem.W.ne_bytes (fin_bl I q (congrArg not dec_byt))
    | _ => exact absurd (show false = true from hs) Bool.false_ne_true
  | _ => cases y <;> exact absurd (show false = true from hs) Bool.false_ne_true

theorem op_lt : OpR X (compareOp .Lt) (rI0 fun i j => .bl (decide (i < j))) := opB0 fun _ _ _ _ _ _ _ q => lt_int q
theorem op_le : OpR X (compareOp .LtE) (rI0 fun i j => .bl (decide (i ≤ j))) := opB0 fun _ _ _ _ _ _ _ q => le_int q
theorem op_gt : OpR X (compareOp .Gt) (rI0 fun i j => .bl (decide (j < i))) := opB0 fun _ _ _ _ _ _ _ q => gt_int q
theorem op_ge : OpR X (compareOp .GtE) (rI0 fun i j => .bl (decide (j ≤ i))) := opB0 fun _ _ _ _ _ _ _ q => ge_int q
/-- is None, is not None: the right side a value none -/
theorem op_isN : OpR X (compareOp .Is) (fun x y H Q => y = .non ∧ Q (.bl (decide (x = .non))) H) := by
  intro pins s σ H x y v u Q I rx ry h
  obtain ⟨rfl, q⟩ := h
  cases ry
  refine is_none_gen (fin_bl I q ?_)
  cases x <;> first
    | (cases rx; rfl)
    | (obtain ⟨t, rfl⟩ := rx; rfl)
/-- two rules for one operation: by cases -/
theorem OpR.or {f : Value → Value → Sem Value} {r r' : R2} (h : OpR X f r) (h' : OpR X f r') : OpR X f (fun x y H Q => r x y H Q ∨ r' x y H Q) := by
  intro pins s σ H x y v u Q I rx ry q
  rcases q with q | q
  · exact h pins s σ H x y v u Q I rx ry q
  · exact h' pins s σ H x y v u Q I rx ry q

theorem nomark (b : Expr) {op : CmpOp} (h : op ≠ .In := by decide) (h2 : op ≠ .NotIn := by decide) : behindInMarks op b = false := by
  have e1 : (op == CmpOp.In) = false := by cases op <;> first | rfl | exact absurd rfl h
  have e2 : (op == CmpOp.NotIn) = false := by cases op <;> first | rfl | exact absurd rfl h2
  cases b <;> simp [behindInMarks, e1, e2]
/-- a comparison as a value; hm: nomark b, or (for in, not in) by with_unfolding_all rfl -/
theorem pe_cmpR {op : CmpOp} {r : R2} (ho : OpR X (compareOp op) r) (ha : PE X a ta) (hb : PE X b tb) (hm : behindInMarks op b = false) : PE X (.Compare a [op] [b] pos) (tOp r ta tb) := by
  intro pins s σ H Q I h
  exact wpAny_Compare1 (binT ha hb I h fun v u s2 x y H2 I2 rx ry q => ho pins s2 σ H2 x y v u Q I2 rx ry q) hm
/-- a reading of a value as a test -/
def tTest (t : TE) : TT := fun σ H Q => t σ H fun x H' => ∃ k, x = .bl k ∧ Q k H'
theorem pt_cmpR {op : CmpOp} {r : R2} (ho : OpR X (compareOp op) r) (ha : PE X a ta) (hb : PE X b tb) (hm : behindInMarks op b = false) : PT X (.Compare a [op] [b] pos) (tTest (tOp r ta tb)) := by
  intro pins s σ H Q I h
  refine wpAny_isTrue_Compare1 (thn (ha pins s σ H _ I h) fun v s1 ⟨x, H1, I1, r1, q1⟩ => thn (hb pins s1 σ H1 _ I1 q1) fun u s2 ⟨y, H2, I2, r2, q2⟩ =>
    thn (ho pins s2 σ H2 x y v u _ I2 r1 r2 q2) fun c s3 ⟨z, H3, I3, r3, k, e, q3⟩ => ?_) hm
  subst e
  cases r3
  exact wpAny_truthy_bool ⟨H3, I3, q3⟩
/-- a value's truth by the abstract heap -/
def TruV (K : PySem.W.Frag) (x : V) (H : Hp) (k : Bool) : Prop :=
  match x with
  | .non => k = false
  | .bl b => k = b
  | .int i => k = (i != 0)
  | .str y => y.length ≤ sizeLine ∧ k = ((y.length : Int) != 0)
  | .byt y => y.size ≤ sizeLine ∧ k = ((y.size : Int) != 0)
  | .ref p => (∃ xs, SqL K H p xs ∧ k = !xs.isEmpty) ∨ (∃ xs, SqT K H p xs ∧ k = !xs.isEmpty) ∨ ∃ kvs, H p = some (.dK kvs) ∧ k = !kvs.isEmpty
  | _ => False
theorem isEmpty_kv {κ : Type} {kvs : List (κ × V)} {vs : List (κ × Value)} (r : KV kvs vs) : (!vs.isEmpty) = !kvs.isEmpty := by
  cases r <;> rfl
theorem isEmpty_of {xs : List V} {its : List Value} (r : Vals xs its) : (!its.toArray.isEmpty) = !xs.isEmpty := by
  cases r <;> simp
theorem line63 : (sizeLine : Nat) < 2 ^ 63 := by rw [sizeLine_eq]; decide
theorem tru_ok : TruR X (fun x H Q => ∃ k, TruV X.K x H k ∧ Q k H) := by
  intro pins s σ H x v Q I rx h
  obtain ⟨k, e, q⟩ := h
  have hl := line63
  have hs : sizeLine = 16777216 := sizeLine_eq
  cases x with
  | non =>
    cases rx
    have e' : k = false := e
    subst e'
    exact truthy_none ⟨H, I, q⟩
  | bl b =>
    cases rx
    have e' : k = b := e
    subst e'
    exact wpAny_truthy_bool ⟨H, I, q⟩
  | int i =>
    obtain ⟨t, rfl⟩ := rx
    have e' : k = (i != 0) := e
    subst e'
    exact PySem.P.truthy_int ⟨H, I, q⟩
  | str y =>
    obtain ⟨t, rfl⟩ := rx
    obtain ⟨hy, e'⟩ : y.length ≤ sizeLine ∧ k = ((y.length : Int) != 0) := e
    subst e'
    exact PySem.P.truthy_str (by omega) ⟨H, I.tok _, q⟩
  | byt y =>
    obtain ⟨t, rfl⟩ := rx
    obtain ⟨hy, e'⟩ : y.size ≤ sizeLine ∧ k = ((y.size : Int) != 0) := e
    subst e'
    exact PySem.W.truthy_bytes (by omega) ⟨H, I.tok _, q⟩
  | ref p =>
    cases rx
    have e' : (∃ xs, SqL X.K H p xs ∧ k = !xs.isEmpty) ∨ (∃ xs, SqT X.K H p xs ∧ k = !xs.isEmpty) ∨ ∃ kvs, H p = some (.dK kvs) ∧ k = !kvs.isEmpty := e
    rcases e' with ⟨xs, hx, e'⟩ | ⟨xs, hx, e'⟩ | ⟨kvs, hx, e'⟩
    · subst e'
      obtain ⟨its, r, pl, hz⟩ := I.list hx
      have hlen := r.length
      exact wpAny_truthy_list pl.isList (by simp only [List.size_toArray]; omega) ⟨H, I.tok _, by rw [isEmpty_of r]; exact q⟩
    · subst e'
      obtain ⟨its, r, pl, hz⟩ := I.tuple hx
      have hlen := r.length
      exact truthy_tuple pl (by simp only [List.size_toArray]; omega) ⟨H, I.tok _, by rw [isEmpty_of r]; exact q⟩
    · subst e'
      obtain ⟨hz, hS, vs, r, m⟩ : kvs.length ≤ sizeLine ∧ (p == sysModules) = false ∧ ∃ vs, KV kvs vs ∧ s.heap.DictOf (mixKind X.prog X.w) p vs := I.hok p _ hx
      have hlen : kvs.length = vs.length := Paired.length r
      exact wpAny_truthy_dict hS m (by omega) ⟨H, I.tok _, by rw [isEmpty_kv r]; exact q⟩
  | _ => exact (show False from e).elim
/-- any expression whose test is its value's truth (a name, a call, a subscript, a field ..: he by fun _ => rfl) -/
theorem pt_truth (ha : PE X a ta) (he : ∀ whole, isTrue a X.env whole = (do let v ← whole; standAt a.pos; holding [v] (truthy v))) :
    PT X a (fun σ H Q => ta σ H fun x H' => ∃ k, TruV X.K x H' k ∧ Q k H') := by
  intro pins s σ H Q I h
  exact isTrue_plain (thn (ha pins s σ H _ I h) fun v s1 ⟨x, H1, I1, r1, q1⟩ => tru_ok pins s1 σ H1 x v Q I1 r1 q1) (he _)

theorem op_add_str : OpR X (binaryOp .Add) (fun x y H Q => ∃ i j, x = .str i ∧ y = .str j ∧ i.length + j.length ≤ sizeLine ∧ Q (.str (i ++ j)) H) := by
  intro pins s σ H x y v u Q I rx ry h
  obtain ⟨i, j, rfl, rfl, hz, q⟩ := h
  obtain ⟨t, rfl⟩ := rx
  obtain ⟨t', rfl⟩ := ry
  exact add_str (fun t' tk => ⟨.str (i ++ j), H, I.tok _, ⟨_, rfl⟩, q⟩) hz
theorem vals1 {x : V} {us : List Value} (r : Vals [x] us) : ∃ u, us = [u] ∧ RelV x u := by
  cases r with
  | cons r1 r2 => cases r2; exact ⟨_, rfl, r1⟩
theorem call_abs : CallR X (.builtin "abs") (fun xs H Q => ∃ i, xs = [.int i] ∧ Q (.int (if i < 0 then -i else i)) H) := by
  intro pins s σ H xs us Q I r h
  obtain ⟨i, rfl, q⟩ := h
  obtain ⟨u, rfl, t, rfl⟩ := vals1 r
  exact call_abs_int fun u tk => ⟨.int (if i < 0 then -i else i), H, I.tok _, ⟨_, rfl⟩, q⟩
theorem call_int1 : CallR X (.type "int") (fun xs H Q => (∃ i, xs = [.int i] ∧ Q (.int i) H) ∨ ∃ k, xs = [.bl k] ∧ Q (.int (if k then 1 else 0)) H) := by
  intro pins s σ H xs us Q I r h
  rcases h with ⟨i, rfl, q⟩ | ⟨k, rfl, q⟩
  · obtain ⟨u, rfl, t, rfl⟩ := vals1 r
    exact call_int_int ⟨.int i, H, I, ⟨_, rfl⟩, q⟩
  · obtain ⟨u, rfl, r1⟩ := vals1 r
    cases r1
    exact call_int_bool ⟨.int (if k then 1 else 0), H, I.tok _, ⟨_, rfl⟩, q⟩
end
end L2

namespace L2
open PySem PySem.Spec PyProof.Rows

structure ObjM (h : Heap) (x dx C : Addr) (mA : Str → Option Value) : Prop where
  obj : h.get? x = some (PySem.W.instObj C dx)
  ns : h.Ns1 dx mA
  ne : dx ≠ x

section
variable {prog : Program} {w : World} {A : Around} {E : Value → Shared → Prop} {s : Shared} {K : PySem.W.Frag} {x dx C f : Addr} {mA : Str → Option Value} {name : Str} {v : Value}

end

theorem RelO.some_of {v : V} {o : Option Value} (r : RelO (some v) o) : ∃ u, o = some u ∧ RelV v u := by
  cases o with
  | none => exact (show False from r).elim
  | some u => exact ⟨u, rfl, r⟩
section
variable {P : Program} {w : World} {H H' : Hp} {h h' : Heap} {a C dx : Addr} {fs fs' : List (Str × V)}
end

structure Cls (K : PySem.W.Frag) (C : Addr) : Prop where
  pg : PySem.W.plainGet K C Str.empty = true
  hd : PySem.W.hasDictIn K C = true
  po : PySem.W.plainOver K C = true
  sa : PySem.W.findIn K (.ref C) "__setattr__" = some (some (.builtin "object.__setattr__"))
theorem Cls.get {K : PySem.W.Frag} {C : Addr} (c : Cls K C) (f : Str) : PySem.W.plainGet K C f = true := c.pg
/-- a constant of the class -/
structure Con (K : PySem.W.Frag) (C : Addr) (f : Str) (v : V) (u : Value) : Prop where
  at_ : PySem.W.findIn K (.ref C) f = some (some u)
  rel : RelV v u
  get : PySem.W.specialIn K u "__get__" = some none
  cp : PySem.W.copiedNames.contains f = false
/-- a method: a plain def of the class or of one above it -/
structure Meth (K : PySem.W.Frag) (C : Addr) (m : Str) (f : Addr) : Prop where
  at_ : PySem.W.findIn K (.ref C) m = some (some (.ref f))
  fn : PySem.W.isFn K (.ref f) = true
  kp : PySem.W.keepIn K (.ref f) = true

section
variable {X : Cx} {pins : List (Addr × Obj)} {σ : St} {H : Hp} {s : Shared} {a C dx : Addr} {fs : List (Str × V)} {f : Str} {v : V} {A : Around} {E : Value → Shared → Prop}

/-- a new instance, tracked, without attributes -/
theorem Inv.made (I : Inv X pins σ H s) : Inv X pins σ (upd (upd H s.heap.objs.size (.own (s.heap.objs.size + 1))) (s.heap.objs.size + 1) (.ins C s.heap.objs.size []))
    { s with heap := (s.heap.push PySem.W.emptyDict).push (PySem.W.instObj C s.heap.objs.size) } := by
  have e1 : (s.heap.push PySem.W.emptyDict).get? s.heap.objs.size = some PySem.W.emptyDict := Heap.get?_push_size s.heap rfl
  have e2 : ((s.heap.push PySem.W.emptyDict).push (PySem.W.instObj C s.heap.objs.size)).get? (s.heap.objs.size + 1) = some (PySem.W.instObj C s.heap.objs.size) := by
    have := Heap.get?_push_size (s.heap.push PySem.W.emptyDict) (o := PySem.W.instObj C s.heap.objs.size) rfl
    rwa [Heap.size_push] at this
  have e3 : (s.heap.push PySem.W.emptyDict).Ns s.heap.objs.size (fun _ => none) := ⟨PySem.W.emptyDict, #[], _, e1, rfl, (fun e he => absurd he (by simp)), fun _ => rfl⟩
  have I1 := I.laid (a := s.heap.objs.size) (o := .own (s.heap.objs.size + 1)) (h' := s.heap.push PySem.W.emptyDict) (t' := s.toks) (fun b u q => Heap.get?_push_of_some _ q) (Nat.le_refl _) ⟨_, e1⟩
  refine I1.laid (a := s.heap.objs.size + 1) (o := .ins C s.heap.objs.size []) (t' := s.toks) (fun b u q => Heap.get?_push_of_some _ q) (Nat.le_of_eq (Heap.size_push _ _)) ?_
  have ne : s.heap.objs.size ≠ s.heap.objs.size + 1 := Nat.ne_of_lt (Nat.lt_succ_self _)
  refine ⟨by rw [upd_ne ne, upd_same], Nat.zero_le _, ne, e2, fun _ => none, (Heap.Ns1.of_empty e3).at fun o q => Heap.get?_push_of_some _ q, fun _ => True.intro, fun y hy => absurd rfl hy⟩

end

section
variable {X : Cx} {o e value : Expr} {f : Str} {pos pos' tpos : Pos} {ta tv : TE}
def rAdd : V → V → Hp → VK → Prop := fun x y H Q => ∃ i j, x = .int i ∧ y = .int j ∧ Q (.int (i + j)) H
end

section
variable {X : Cx} {pins : List (Addr × Obj)} {σ : St} {H : Hp} {s : Shared} {A : Around} {E : Value → Shared → Prop} {Q : Value → Shared → Prop} {c : Value} {b : Bool}
/-- the type of a value, as the fragment's deciders take it; for an instance its class -/
inductive TyOf (K : PySem.W.Frag) (H : Hp) : V → Value → Prop where
  | non : TyOf K H .non (.type "NoneType")
  | bl (x : Bool) : TyOf K H (.bl x) (.type "bool")
  | int (i : Int) : TyOf K H (.int i) (.type "int")
  | str (x : Str) : TyOf K H (.str x) (.type "str")
  | flt (x : UInt64) : TyOf K H (.flt x) (.type "float")
  | lst {a : Addr} {xs : List V} (e : H a = some (.lst xs)) : TyOf K H (.ref a) (.type "list")
  | frz {a : Addr} {o : Obj} {xs : List V} (e : H a = some (.frz o (.lst xs))) : TyOf K H (.ref a) (.type "list")
  | tup {a : Addr} {xs : List V} (e : H a = some (.tup xs)) : TyOf K H (.ref a) (.type "tuple")
  | dK {a : Addr} {kvs : List (Key × V)} (e : H a = some (.dK kvs)) : TyOf K H (.ref a) (.type "dict")
  | dT {a : Addr} {kvs : List (List Key × V)} (e : H a = some (.dT kvs)) : TyOf K H (.ref a) (.type "dict")
  | ins {a C dx : Addr} {fs : List (Str × V)} (e : H a = some (.ins C dx fs)) (cl : Cls K C) (ha : PySem.W.findIn K (.ref C) "__class__" = some (some (.builtin "object.__class__")))
      (hn : PySem.W.specialIn K (.builtin "object.__class__") "__get__" = some (some (.builtin "getset_descriptor.__get__"))) (htk : PySem.W.takesIn K (.builtin "object.__class__") = some true)
      (hm : PySem.W.mroIn K C (.type "object") = some true) : TyOf K H (.ref a) (.ref C)
end
end L2

namespace L2
open PySem PySem.Spec PyProof.Rows

structure Room (k : Nat) (A : Around) : Prop where
  hd : A.handled = none
  dp : A.depth + 3 * k + 5 < recursionLimit
  un : A.units + 16 * k + 200 < cLine
  gd : A.guards = some []
theorem Room.mono {j k : Nat} {A : Around} (r : Room k A) (h : j ≤ k) : Room j A := ⟨r.hd, by have := r.dp; omega, by have := r.un; omega, r.gd⟩
theorem Room.deeper {k : Nat} {A : Around} (r : Room (k + 1) A) (env : Env) : Room k (A.deeper env) :=
  ⟨r.hd, by have := r.dp; show A.depth + 1 + 3 * k + 5 < _; omega, by have := r.un; show A.units + 3 + 16 * k + 200 < _; omega, r.gd⟩
theorem Room.in1 {k : Nat} {A : Around} (r : Room (k + 1) A) : Room k A.in1 :=
  ⟨r.hd, by have := r.dp; show A.depth + 3 * k + 5 < _; omega, by have := r.un; show A.units + 1 + 16 * k + 200 < _; omega, r.gd⟩
theorem Room.depth {k : Nat} {A : Around} (r : Room k A) : A.depth < recursionLimit := by have := r.dp; omega
theorem Room.units {k : Nat} {A : Around} (r : Room k A) : A.units + 64 < cLine := by have := r.un; omega
def tNil : TA := fun _ H Q => Q [] H
def tCons (ta : TE) (tr : TA) : TA := fun σ H Q => ta σ H fun x H1 => tr σ H1 fun xs H2 => Q (x :: xs) H2
section
variable {X : Cx} {e : Expr} {es : List Expr} {te : TE} {t : TA} {pos : Pos}
theorem pa_nil : PA X [] tNil := fun _ _ _ _ H Q I h => Calls.spliced_nil ⟨[], H, I, .nil, h⟩
theorem pa_cons (ha : PE X e te) (hr : PA X es t) (hs : starEach (e :: es) X.env = (false, eval e X.env) :: starEach es X.env := by rfl) : PA X (e :: es) (tCons te t) := by
  intro pos pins s σ H Q I h
  rw [hs]
  show wpAny _ _ (spliced ((false, eval e X.env) :: backTo pos (starEach es X.env))) _ _ s
  refine Calls.spliced_cons (thn (ha pins s σ H _ I h) fun u s1 ⟨x, H1, I1, r1, q1⟩ => ?_)
  exact thn (hr pos pins s1 σ H1 _ I1 q1) fun us s2 ⟨xs, H2, I2, r2, q2⟩ => ⟨x :: xs, H2, I2, .cons r1 r2, q2⟩

/-- a tuple, a list of written items -/
def tTup (t : TA) : TE := fun σ H Q => t σ H fun xs H1 => xs.length ≤ sizeLine ∧ ∀ p, H1 p = none → Q (.ref p) (upd H1 p (.tup xs))
def tLst (t : TA) : TE := fun σ H Q => t σ H fun xs H1 => xs.length ≤ sizeLine ∧ ∀ p, H1 p = none → Q (.ref p) (upd H1 p (.lst xs))
theorem pe_tup {x1} (h : PA X es t) : PE X (.Tuple es x1 pos) (tTup t) := by
  intro pins s σ H Q I hq
  refine wpAny_Tuple_spliced (thn (h pos pins s σ H _ I hq) fun us s1 ⟨xs, H1, I1, r, z, q⟩ => ⟨by rw [← r.length]; exact z, ?_⟩)
  have hf : H1 s1.heap.objs.size = none := I1.hok.fresh (Nat.le_refl _)
  refine ⟨.ref s1.heap.objs.size, upd H1 s1.heap.objs.size (.tup xs), I1.laid (t' := s1.toks) (fun b u e => Heap.get?_push_of_some _ e) (Nat.le_refl _) ?_, rfl, q _ hf⟩
  exact ⟨z, us, r, ⟨_, Heap.get?_push_size _ rfl, rfl, _, rfl⟩⟩
theorem pe_lst (h : PA X es t) : PE X (.List es pos) (tLst t) := by
  intro pins s σ H Q I hq
  refine wpAny_List_spliced (thn (h pos pins s σ H _ I hq) fun us s1 ⟨xs, H1, I1, r, z, q⟩ => ⟨by rw [← r.length]; exact z, ?_⟩)
  have hf : H1 s1.heap.objs.size = none := I1.hok.fresh (Nat.le_refl _)
  refine ⟨.ref s1.heap.objs.size, upd H1 s1.heap.objs.size (.lst xs), I1.laid (t' := s1.toks) (fun b u e => Heap.get?_push_of_some _ e) (Nat.le_refl _) ?_, rfl, q _ hf⟩
  exact ⟨z, us, 0, r, Heap.get?_push_size _ rfl⟩
end

/-- a def's promise: the bound arguments in the parameters' order, the heap, the wanted end, the wanted exception -/
abbrev Sp := List V → Hp → VK → XK → Prop
/-- how an exception lies behind a call (file 08 gives it): the callers' frames, abstract heap and state ahead of the call, the wish, the exception, the state -/
abbrev CXT := List Env → Hp → Shared → XK → Value → Shared → Prop

/-- the state at a call -/
structure Env0 (P : Program) (w : World) (K : PySem.W.Frag) (mg : Str → Option Value) (base : Heap) (A : Around) (outer : List Env) (s : Shared) (H : Hp) : Prop where
  frames : A.frames = some outer
  mod : Mod K mg base
  bs : ∀ b o, base.get? b = some o → s.heap.get? b = some o ∧ H b = none
  bsz : base.objs.size ≤ s.heap.objs.size
  funs : s.heap.FunFrames base outer
  frf : ∀ b ∈ frs outer, H b = none
  hok : HOk P w H s.heap
  bare : AllBare s.gens
/-- a call's end -/
def CE (outer : List Env) (P : Program) (w : World) (H : Hp) (s : Shared) (Q : VK) (u : Value) (s' : Shared) : Prop :=
  ∃ v H', s'.os = s.os ∧ AllBare s'.gens ∧ Un (frs outer) [] H H' s.heap s'.heap ∧ HOk P w H' s'.heap ∧ RelV v u ∧ Q v H'
def CR (CX : CXT) (outer : List Env) (P : Program) (w : World) (H : Hp) (s : Shared) (Q : VK) (E : XK) (r : Result) (s' : Shared) : Prop :=
  match r with
  | .ok (.ret u) => CE outer P w H s Q u s'
  | .ok _ => False
  | .error e => CX outer H s E e s'
structure FnOk (P : Program) (w : World) (K : PySem.W.Frag) (mg : Str → Option Value) (base : Heap) (CX : CXT) (k : Nat) (f : Addr) (fd : FuncData) (ps : List Str) (sp : Sp) : Prop where
  len : ∀ vs H Q E, sp vs H Q E → vs.length = ps.length
  run : ∀ (A : Around) (outer : List Env) (s : Shared) (H : Hp) (args : Args) (us : List Value) (vs : List V) (Q : VK) (E : XK), Room k A → Env0 P w K mg base A outer s H → BindsTo s fd args (ps.zip us) → Vals vs us → sp vs H Q E →
    codeAny (model P w) A (.call (.ref f) args) (CR CX outer P w H s Q E) s
theorem FnOk.mono {P : Program} {w : World} {K : PySem.W.Frag} {mg : Str → Option Value} {base : Heap} {CX : CXT} {j k : Nat} {f : Addr} {fd : FuncData} {ps : List Str} {sp : Sp} (F : FnOk P w K mg base CX j f fd ps sp) (h : j ≤ k) :
    FnOk P w K mg base CX k f fd ps sp := ⟨F.len, fun A outer s H args us vs Q E hr => F.run A outer s H args us vs Q E (hr.mono h)⟩
/-- a weaker promise -/
theorem FnOk.imp {P : Program} {w : World} {K : PySem.W.Frag} {mg : Str → Option Value} {base : Heap} {CX : CXT} {k : Nat} {f : Addr} {fd : FuncData} {ps : List Str} {sp sp' : Sp} (F : FnOk P w K mg base CX k f fd ps sp)
    (h : ∀ vs H Q E, sp' vs H Q E → sp vs H Q E) : FnOk P w K mg base CX k f fd ps sp' :=
  ⟨fun vs H Q E q => F.len vs H Q E (h _ _ _ _ q), fun A outer s H args us vs Q E hr he hb hv hs => F.run A outer s H args us vs Q E hr he hb hv (h _ _ _ _ hs)⟩

theorem Env0.in1 {P : Program} {w : World} {K : PySem.W.Frag} {mg : Str → Option Value} {base : Heap} {A : Around} {outer : List Env} {s : Shared} {H : Hp} (e : Env0 P w K mg base A outer s H) :
    Env0 P w K mg base A.in1 outer s H := ⟨e.frames, e.mod, e.bs, e.bsz, e.funs, e.frf, e.hok, e.bare⟩

section
variable {X : Cx} {pins : List (Addr × Obj)} {σ : St} {H : Hp} {s s' : Shared}
/-- from a body: what a callee wants -/
theorem Inv.env0 (I : Inv X pins σ H s) : Env0 X.prog X.w X.K X.mg X.base X.A X.stack s H :=
  ⟨I.ok.frames, I.ok.mod, I.bs, Nat.le_trans I.ok.bsz I.sz, I.stack, I.stkFree, I.hok, I.bare⟩
/-- behind a call -/
theorem Inv.after {Q : VK} {u : Value} (I : Inv X pins σ H s) (h : CE X.stack X.prog X.w H s Q u s') : EP X pins σ Q u s' := by
  obtain ⟨v, H', os, bare, un, hok, r, q⟩ := h
  obtain ⟨hh, g, d, t, os'⟩ := s'
  obtain rfl : os' = s.os := os
  exact ⟨v, H', I.call (h' := hh) (g' := g) (d' := d) (t' := t) (ch := []) un hok bare (fun b z => absurd z (by simp)), r, q⟩
end

/-- f(..): the written arguments, then the defaults dvs; E: what is wanted of an exception -/
def tCall (sp : Sp) (dvs : List V) (E : XK) (t : TA) : TE := fun σ H Q => t σ H fun vs H1 => sp (vs ++ dvs) H1 Q E
/-- how the parameters are bound: us the positional arguments, kw the keywords' values by name, ds the defaults that fill up -/
def Binds (K : PySem.W.Frag) (fd : FuncData) (ps : List Str) (ds : List Value) : Prop :=
  ∀ (s : Shared) (us : List Value), K.In s.heap → (us ++ ds).length = ps.length → BindsTo s fd ⟨us, []⟩ (ps.zip (us ++ ds))
/-- every parameter is given -/
theorem Binds.all {K : PySem.W.Frag} {fd : FuncData} {ps : List Str} (h : ∀ us : List Value, us.length = ps.length → bindArgs fd ⟨us, []⟩ = pure (ps.zip us)) : Binds K fd ps [] := fun s us _ hl => by
  rw [List.append_nil] at hl ⊢
  exact .of_eq (h us hl)

/-- an exception of a callee reaches what this body wants of exceptions -/
def Passes (CX : CXT) (X : Cx) (E : XK) : Prop := ∀ (pins : List (Addr × Obj)) (σ : St) (H : Hp) (s : Shared) (e : Value) (s' : Shared), Inv X pins σ H s → CX X.stack H s E e s' → X.xe e s'

section
variable {X : Cx} {CX : CXT} {k : Nat} {f C : Addr} {fd : FuncData} {ps : List Str} {sp : Sp} {dvs : List V} {ds : List Value} {E : XK} {x m : Str} {p pos apos : Pos} {e o : Expr} {es : List Expr} {ta : TE} {t : TA}

/-- the callee runs -/
theorem run_fn {pins : List (Addr × Obj)} {σ : St} {H : Hp} {s : Shared} {Q : VK} {us : List Value} {vs : List V} (F : FnOk X.prog X.w X.K X.mg X.base CX k f fd ps sp) (hr : Room k X.A) (hb : Binds X.K fd ps ds) (hd : Vals dvs ds) (hx : Passes CX X E)
    (I : Inv X pins σ H s) (r : Vals vs us) (h : sp (vs ++ dvs) H Q E) : wpAny (model X.prog X.w) X.A (call (.ref f) us) (EP X pins σ Q) X.xe s := by
  have r2 : Vals (vs ++ dvs) (us ++ ds) := r.append hd
  have hl : (us ++ ds).length = ps.length := by rw [← r2.length]; exact F.len _ _ _ _ h
  refine wpAny_call (codeAny_mono (F.run X.A X.stack s H ⟨us, []⟩ (us ++ ds) (vs ++ dvs) Q E hr I.env0 (hb s us I.kIn hl) r2 h) fun r s' hq => ?_)
  cases r with
  | error e => exact hx pins σ H s e s' I hq
  | ok fl =>
    cases fl with
    | ret u => exact I.after hq
    | next => exact False.elim hq
    | brk => exact False.elim hq
    | cont => exact False.elim hq

theorem pe_call (F : FnOk X.prog X.w X.K X.mg X.base CX k f fd ps sp) (hr : Room k X.A) (hg : Gl X x) (hm : X.mg x = some (.ref f)) (hk : PySem.W.keepIn X.K (.ref f) = true) (hb : Binds X.K fd ps ds) (hd : Vals dvs ds) (hx : Passes CX X E)
    (ha : PA X (e :: es) t) (hdb : (x == ("__debug__" : Str)) = false := by decide) (he : starEach (e :: es) X.env = (false, eval e X.env) :: starEach es X.env := by rfl) (hpl : (backTo pos (starEach es X.env)).any (·.1) = false := by rfl) :
    PE X (.Call (.Name x p) (e :: es) [] pos) (tCall sp dvs E t) := by
  intro pins s σ H Q I h
  refine wpAny_Call_Name_kw (ld_glob I hg hm ?_ hdb)
  refine PySem.W.callWith_K (h₀ := X.base) I.ok.mod.kin hk (thn (ha pos pins s σ H _ I h) fun us s1 ⟨vs, H1, I1, r, q⟩ => ⟨I1.kIn, ?_⟩) he hpl
  exact run_fn F hr hb hd hx I1 r q
/-- what a class must have to be made -/
structure Mk (K : PySem.W.Frag) (C f : Addr) : Prop where
  makes : PySem.W.makesIn K C = true
  init : PySem.W.findIn K (.ref C) "__init__" = some (some (.ref f))
  fn : PySem.W.isFn K (.ref f) = true
  kp : PySem.W.keepIn K (.ref C) = true

end

section
variable {X : Cx} {CX : CXT} {k : Nat} {f C : Addr} {fd : FuncData} {ps ks : List Str} {sp : Sp} {E : XK} {x m : Str} {p pos apos kpos : Pos} {e o : Expr} {es : List Expr} {kws : List Keyword} {te ta : TE} {t tk : TA} {nm : Option Str}
/-- how a call with keywords binds: g puts the positional values us and the keywords' values ws (names ks) in the parameters' order, defaults among them -/
structure KBinds (K : PySem.W.Frag) (fd : FuncData) (ps ks : List Str) (g : List Value → List Value → List Value) (gV : List V → List V → List V) : Prop where
  to : ∀ (s : Shared) (us ws : List Value), K.In s.heap → (g us ws).length = ps.length → BindsTo s fd ⟨us, ks.zip ws⟩ (ps.zip (g us ws))
  rel : ∀ {vs : List V} {us : List Value} {zs : List V} {ws : List Value}, Vals vs us → Vals zs ws → Vals (gV vs zs) (g us ws)
variable {g : List Value → List Value → List Value} {gV : List V → List V → List V}
end

/-- names: the parameters first -/
structure FnScope (N P : List Str) (sc : Scope) : Prop where
  kind : sc.kind = .function
  co : sc.isCoroutine = false
  gen : sc.isGenerator = false
  nd : N.Nodup
  pre : N.take P.length = P
  par : ∀ x ∈ P, sc.names.lookup x = some .local ∨ sc.names.lookup x = some .cell
  nofree : ∀ y ∈ sc.names, y.2 ≠ .free

theorem bindL_out {kindOf : Str → Option NameKind} {x : Str} : ∀ {binds : List (Str × Value)} {m : Str → Option Value}, (∀ v, (x, v) ∉ binds) → bindL kindOf binds m x = m x
  | [], _, _ => rfl
  | (n, v) :: r, m, h => by
    unfold bindL
    rw [bindL_out fun w hw => h w (List.mem_cons_of_mem _ hw)]
    split
    · have : x ≠ n := by rintro rfl; exact h v List.mem_cons_self
      simp [this]
    · rfl
theorem bindC_out {kindOf : Str → Option NameKind} {x : Str} : ∀ {binds : List (Str × Value)} {m : Str → Option Value}, (∀ v, (x, v) ∉ binds) → bindC kindOf binds m x = m x
  | [], _, _ => rfl
  | (n, v) :: r, m, h => by
    unfold bindC
    rw [bindC_out fun w hw => h w (List.mem_cons_of_mem _ hw)]
    split
    · rfl
    · have : x ≠ n := by rintro rfl; exact h v List.mem_cons_self
      simp [this]
theorem bindL_get {kindOf : Str → Option NameKind} {x : Str} {v : Value} : ∀ {P : List Str} {vs : List Value} {i : Nat} {m : Str → Option Value}, P.Nodup → P[i]? = some x → vs[i]? = some v → kindOf x = some .local →
    bindL kindOf (P.zip vs) m x = some v
  | [], _, _, _, _, h, _, _ => by simp at h
  | _ :: _, [], _, _, _, _, h, _ => by simp at h
  | p :: P, w :: vs, 0, m, nd, h1, h2, hk => by
    simp at h1 h2; subst h1; subst h2
    show bindL kindOf ((p, w) :: P.zip vs) m p = _
    unfold bindL
    rw [bindL_out fun v hv => (List.nodup_cons.mp nd).1 (List.of_mem_zip hv).1, if_pos hk]
    simp
  | p :: P, w :: vs, i + 1, m, nd, h1, h2, hk => by
    show bindL kindOf ((p, w) :: P.zip vs) m x = _
    unfold bindL
    exact bindL_get (i := i) (List.nodup_cons.mp nd).2 (by simpa using h1) (by simpa using h2) hk
theorem bindC_get {kindOf : Str → Option NameKind} {x : Str} {v : Value} : ∀ {P : List Str} {vs : List Value} {i : Nat} {m : Str → Option Value}, P.Nodup → P[i]? = some x → vs[i]? = some v → kindOf x ≠ some .local →
    bindC kindOf (P.zip vs) m x = some v
  | [], _, _, _, _, h, _, _ => by simp at h
  | _ :: _, [], _, _, _, _, h, _ => by simp at h
  | p :: P, w :: vs, 0, m, nd, h1, h2, hk => by
    simp at h1 h2; subst h1; subst h2
    show bindC kindOf ((p, w) :: P.zip vs) m p = _
    unfold bindC
    rw [bindC_out fun v hv => (List.nodup_cons.mp nd).1 (List.of_mem_zip hv).1, if_neg hk]
    simp
  | p :: P, w :: vs, i + 1, m, nd, h1, h2, hk => by
    show bindC kindOf ((p, w) :: P.zip vs) m x = _
    unfold bindC
    exact bindC_get (i := i) (List.nodup_cons.mp nd).2 (by simpa using h1) (by simpa using h2) hk

/-- the names' values at the entry -/
def start (N : List Str) (vs : List V) : St := vs.map some ++ List.replicate (N.length - vs.length) none

/-- the context of a def's body, at its entry; an exception leaves the frame, then lies as CX says -/
def cxOf (CX : CXT) (P : Program) (w : World) (K : PySem.W.Frag) (mg : Str → Option Value) (base : Heap) (N : List Str) (qual : Str) (scope : Scope) (f : Addr) (cd : Value) (A : Around) (outer : List Env) (s : Shared) (H : Hp) (E : XK) : Cx where
  prog := P
  w := w
  K := K
  mg := mg
  base := base
  A := A.deeper (envOfC qual scope s.heap.objs.size f cd)
  N := N
  s₀ := s
  H₀ := H
  env := envOfC qual scope s.heap.objs.size f cd
  outer := outer
  stack := envOfC qual scope s.heap.objs.size f cd :: outer
  ex := []
  calm := true
  fn := fun _ => true
  pn := []
  xe := fun e s' => wpAny (model P w) (A.deeper (envOfC qual scope s.heap.objs.size f cd)) (leaving (envOfC qual scope s.heap.objs.size f cd) e) (fun _ s'' => CX outer H s E e s'') (fun e' s'' => CX outer H s E e' s'') s'

theorem cell_has {sc : Scope} {n : Nat} {x : Str} (h : sc.names.lookup x = some .cell) : ∃ c, (cellsFrom n sc.names []).lookup x = some c := by
  have q := PySem.W.cellsFrom_some sc.names n [] (.inl h)
  exact Option.isSome_iff_exists.mp q

theorem inv_start {CX : CXT} {P : Program} {w : World} {K : PySem.W.Frag} {mg : Str → Option Value} {base : Heap} {N ps : List Str} {qual : Str} {scope : Scope} {f : Addr} {cd : Value} {A : Around} {outer : List Env} {s s1 : Shared} {H : Hp} {E : XK} {us : List Value} {vs : List V}
    (S : FnScope N ps scope) (hd : A.handled = none) (e0 : Env0 P w K mg base A outer s H) (hl : vs.length = ps.length) (r : Vals vs us)
    (x : InCallC s s.heap.objs.size (bindL (envOfC qual scope s.heap.objs.size f cd).kindOf (ps.zip us) fun _ => none) (cellsFrom (s.heap.objs.size + 1) scope.names []) (bindC (envOfC qual scope s.heap.objs.size f cd).kindOf (ps.zip us) fun _ => none) s1) :
    Inv (cxOf CX P w K mg base N qual scope f cd A outer s H E) [] (start N vs) H s1 := by
  have hpl : ps.length ≤ N.length := by have := congrArg List.length S.pre; rw [List.length_take] at this; omega
  obtain ⟨h1, tk, rfl, hk⟩ := x.done
  have noA : ∀ b : Addr, b ∉ (cxOf CX P w K mg base N qual scope f cd A outer s H E).ex := fun b z => absurd (show b ∈ ([] : List Addr) from z) (by simp)
  refine ⟨⟨e0.mod, S.kind, rfl, rfl, Nat.le_refl _, fun y z c h1 h2 => ?_, fun y hy => ?_, fun y c _ h => ?_, fun _ => hd, Around.frames_deeper e0.frames, .inr ⟨rfl, rfl⟩, fun b z => absurd z (noA b), e0.bs, e0.bsz, fun b _ _ => noA b, fun b z => absurd z (noA b), e0.funs, e0.frf⟩,
    rfl, e0.bare, Un.kept hk, ⟨_, x.toInCall.ns, fun i y v h1 h2 h3 => ?_⟩, fun y c h => ⟨_, x.cell y c h⟩, e0.hok.fresh (Nat.le_refl _), fun y c h => ?_, fun p hp => absurd (show p ∈ ([] : List (Addr × Obj)) from hp) (by simp), e0.hok.kept hk, ?_⟩
  · exact name_of_addr x.apart (PySem.mem_of_lookup h1) (PySem.mem_of_lookup h2)
  · have hy : scope.names.lookup y = some .cell ∨ scope.names.lookup y = some .free := hy
    rcases hy with hy | hy
    · exact cell_has hy
    · exact absurd rfl (S.nofree _ (PySem.mem_of_lookup hy))
  · exact Nat.le_of_lt (x.above y c (PySem.mem_of_lookup h))
  · have hi : i < vs.length := by
      unfold start at h2
      by_cases hi : i < vs.length
      · exact hi
      · rw [List.getElem?_append_right (by simpa using hi)] at h2
        rw [List.getElem?_replicate] at h2
        split at h2 <;> cases h2
    have ha : vs[i]? = some v := by
      unfold start at h2
      rw [List.getElem?_append_left (by simpa using hi), List.getElem?_map] at h2
      cases e : vs[i]? with
      | none => rw [e] at h2; cases h2
      | some a => rw [e] at h2; cases h2; rfl
    obtain ⟨u, hu, rv⟩ := r.get ha
    have hp : ps[i]? = some y := by
      rw [← S.pre, List.getElem?_take_of_lt (by omega)]; exact h1
    have ndP : ps.Nodup := by rw [← S.pre]; exact S.nd.sublist (List.take_sublist _ _)
    refine ⟨u, rv, ?_⟩
    rcases S.par y (List.mem_of_getElem? hp) with k | k
    · exact .inl ⟨k, bindL_get ndP hp hu k⟩
    · obtain ⟨c, e⟩ := cell_has (n := s.heap.objs.size + 1) k
      refine .inr ⟨.inl k, c, e, ?_⟩
      have q := x.cell y c e
      rw [bindC_get ndP hp hu (by show scope.names.lookup y ≠ _; rw [k]; decide)] at q
      exact q
  · exact e0.hok.fresh (Nat.le_of_lt (x.above y c (PySem.mem_of_lookup h)))
  · unfold start
    show _ = N.length
    rw [List.length_append, List.length_map, List.length_replicate]
    omega

/-- THE RULE: a def (or a method) of the text, by its body. The body's reading t is chosen for each entry; it is run at the parameters' values -/
theorem fn_of {CX : CXT} {P : Program} {w : World} {K : PySem.W.Frag} {mg : Str → Option Value} {base : Heap} {k : Nat} {f : Addr} {name qual : Str} {params : Arguments} {body : List Stmt} {scope : Scope} {dV kV doc pm cdv ct oc : Value} {an od : Option Addr}
    {osl : Array (Option Value)} {N ps : List Str} {sp : Sp} (lk : K.lookup f = some ⟨oc, od, .func (PySem.W.fnOf name qual params body scope dV kV doc pm an cdv ct), osl⟩) (hcd : PySem.W.codeIn K cdv qual = true) (S : FnScope N ps scope)
    (len : ∀ vs H Q E, sp vs H Q E → vs.length = ps.length)
    (hbody : ∀ (A : Around) (outer : List Env) (s : Shared) (H : Hp) (vs : List V) (Q : VK) (E : XK), Room k (A.deeper (envOfC qual scope s.heap.objs.size f cdv)) → sp vs H Q E →
      ∃ t, PSs (cxOf CX P w K mg base N qual scope f cdv A outer s H E) body t ∧ t { nx := fun _ H' => Q .non H', rt := Q } (start N vs) H) :
    FnOk P w K mg base CX (k + 1) f (PySem.W.fnOf name qual params body scope dV kV doc pm an cdv ct) ps sp := by
  refine ⟨len, fun A outer s H args us vs Q E hr e0 hb r hsp => ?_⟩
  have hl := len _ _ _ _ hsp
  have KX : K.In s.heap := e0.mod.kin.keeps fun b o e => (e0.bs b o e).1
  have lim : s.heap.NoLimit := e0.mod.nolimit.keeps fun b o e => (e0.bs b o e).1
  have hkind : ∀ y ∈ ps.zip us, scope.names.lookup y.1 = some .local ∨ (scope.names.lookup y.1 = some .cell ∧ ((cellsFrom (s.heap.objs.size + 1) scope.names []).lookup y.1).isSome = true) := fun ⟨n, v⟩ hy => by
    rcases S.par n (List.of_mem_zip hy).1 with q | q
    · exact .inl q
    · exact .inr ⟨q, PySem.W.cellsFrom_some _ _ _ (.inl q)⟩
  refine codeAny_call_function hr.depth (KX _ _ lk) rfl S.co S.gen rfl (PySem.W.codeRec_of KX hcd) (hb _ _ _ _ ?_)
  refine wpAny_newFunctionEnv_cells S.kind hkind fun env he s1 x => ?_
  subst he
  refine ⟨lim.keeps x.toInCall.keep, codeAny_func ?_⟩
  obtain ⟨t, ht, hq⟩ := hbody A outer s H vs Q E (hr.deeper _) hsp
  have I : Inv (cxOf CX P w K mg base N qual scope f cdv A outer s H E) [] (start N vs) H s1 := inv_start S hr.hd e0 hl r x
  refine wpAny_mono (ht [] s1 (start N vs) H _ I hq) (fun fl s' hs => ?_) fun e s' hs => hs
  have fin : ∀ {σ' : St} {H' : Hp} {v : V} {u : Value}, Inv (cxOf CX P w K mg base N qual scope f cdv A outer s H E) [] σ' H' s' → RelV v u → Q v H' → CE outer P w H s Q u s' :=
    fun {σ' H' v u} J rv q => ⟨v, H', J.os, J.bare, J.base, J.hok, rv, q⟩
  cases fl with
  | ret u =>
    obtain ⟨v, σ', H', J, rv, q⟩ := hs
    exact fin J rv q
  | next =>
    obtain ⟨σ', H', J, q⟩ := hs
    exact fin (v := V.non) (u := Value.none) J rfl q
  | brk =>
    obtain ⟨_, _, _, q⟩ := hs
    exact False.elim q
  | cont =>
    obtain ⟨_, _, _, q⟩ := hs
    exact False.elim q
end L2

namespace L2
open PySem PySem.Spec PyProof.Rows
section
variable {X : Cx} {x : Str} {p pos : Pos} {e : Expr} {es : List Expr} {t : TA} {id T : String} {r : List V → Hp → VK → Prop}

def tCB (r : List V → Hp → VK → Prop) (t : TA) : TE := fun σ H Q => t σ H fun vs H1 => r vs H1 Q
/-- f(e, ..), f a built-in function -/
theorem pe_callB (hc : CallR X (.builtin id) r) (hg : Gl X x) (hm : X.mg x = none) (hv : bootBuiltins x = some (.builtin id)) (ha : PA X (e :: es) t) (hn : x ≠ "__name__" := by decide) (hdb : (x == ("__debug__" : Str)) = false := by decide)
    (he : starEach (e :: es) X.env = (false, eval e X.env) :: starEach es X.env := by rfl) (hpl : (backTo pos (starEach es X.env)).any (·.1) = false := by rfl) : PE X (.Call (.Name x p) (e :: es) [] pos) (tCB r t) := by
  intro pins s σ H Q I h
  refine wpAny_Call_Name_kw (ld_blt I hg hm hv ?_ hn hdb)
  exact PyProof.Rows.callWith_builtin1 (thn (ha pos pins s σ H _ I h) fun us s1 ⟨vs, H1, I1, r1, q1⟩ => hc pins s1 σ H1 vs us Q I1 r1 q1) he hpl
/-- T(e, ..), T a built-in type -/
theorem pe_callTy (hc : CallR X (.type T) r) (hg : Gl X x) (hm : X.mg x = none) (hv : bootBuiltins x = some (.type T)) (ha : PA X (e :: es) t) (hn : x ≠ "__name__" := by decide) (hdb : (x == ("__debug__" : Str)) = false := by decide)
    (he : starEach (e :: es) X.env = (false, eval e X.env) :: starEach es X.env := by rfl) (hpl : (backTo pos (starEach es X.env)).any (·.1) = false := by rfl) : PE X (.Call (.Name x p) (e :: es) [] pos) (tCB r t) := by
  intro pins s σ H Q I h
  refine wpAny_Call_Name_kw (ld_blt I hg hm hv ?_ hn hdb)
  exact PyProof.Rows.callWith_type1 (thn (ha pos pins s σ H _ I h) fun us s1 ⟨vs, H1, I1, r1, q1⟩ => hc pins s1 σ H1 vs us Q I1 r1 q1) he hpl
end
end L2

namespace HT
open PySem PyProof.Rows

section
open PySem.SeqAt
open PySem.AutoSeq1 (wpAny_loadPart')
open PySem.MeetsSeq PySem.MeetsSeq2 PySem.MeetsSeq3

end

section
variable {prog : Program} {w : World} {A : Around} {E : Value → Shared → Prop} {s : Shared}

/-- t + u, t not empty -/
theorem cat_tup {t b : Addr} {vs ws : List Value} {Q : Value → Shared → Prop} (ht : IsTup s.heap t vs.toArray) (hb : IsTup s.heap b ws.toArray) (hv : vs ≠ [])
    (h1 : ws = [] → Q (.ref t) s) (h2 : ws ≠ [] → Q (.ref s.heap.objs.size) { s with heap := s.heap.push { cls := .type "tuple", data := .seq (vs ++ ws).toArray } })
    (hsz : vs.length + ws.length ≤ sizeLine) : wpAny (model prog w) A (binaryOp .Add (.ref t) (.ref b)) Q E s := by
  obtain ⟨⟨cls, dd, data, sl⟩, ho, hc, n, hd⟩ := id ht
  obtain ⟨⟨cls2, dd2, data2, sl2⟩, ho2, hc2, n2, hd2⟩ := id hb
  simp only at hc hd hc2 hd2
  subst hc hd hc2 hd2
  have e : vs.toArray ++ ws.toArray = (vs ++ ws).toArray := by simp
  by_cases hw : ws = []
  · exact concat_meets ⟨_, ho, rfl⟩ ⟨_, ho2, rfl⟩ noFill_tuple_add seq_tuple_add PySem.F.slot_tuple_add PySem.F.entry_tuple_add (PySem.F.args_tuple_add_2 _ _)
      (tuple_addW1 t b vs.toArray ws.toArray n n2 dd dd2 sl sl2 (by simpa using hv) (by simp [hw])) ⟨ho, ho2, h1 hw⟩
  · refine concat_meets ⟨_, ho, rfl⟩ ⟨_, ho2, rfl⟩ noFill_tuple_add seq_tuple_add PySem.F.slot_tuple_add PySem.F.entry_tuple_add (PySem.F.args_tuple_add_2 _ _)
      (tuple_addW2 t b vs.toArray ws.toArray n n2 dd dd2 sl sl2 (by simpa using hv) (by simpa using hw) (by rw [List.size_toArray, List.size_toArray]; exact hsz)) ⟨ho, ho2, ?_⟩
    rw [e]
    exact h2 hw

/-- a slice's bound as a place among n (d where it is left out) -/
def sIx (n d : Nat) : Option Int → Nat
  | none => d
  | some v => if v < 0 then (v + (n : Int)).toNat else min v.toNat n
theorem sIx_nat (n d k : Nat) : sIx n d (some (k : Int)) = min k n := by
  show (if (k : Int) < 0 then ((k : Int) + (n : Int)).toNat else min (k : Int).toNat n) = min k n
  rw [if_neg (by omega), Int.toNat_natCast]
theorem sIx_le (n d : Nat) (hd : d ≤ n) (o : Option Int) : sIx n d o ≤ n := by
  cases o with
  | none => exact hd
  | some v =>
    show (if v < 0 then (v + (n : Int)).toNat else min v.toNat n) ≤ n
    by_cases hv : v < 0
    · rw [if_pos hv]; omega
    · rw [if_neg hv]; exact Nat.min_le_right _ _
theorem clip_eq (v : Int) (n d : Nat) : (if v < 0 then max (v + (n : Int)) 0 else min v (n : Int)) = ((sIx n d (some v) : Nat) : Int) := by
  show (if v < 0 then max (v + (n : Int)) 0 else min v (n : Int)) = (((if v < 0 then (v + (n : Int)).toNat else min v.toNat n) : Nat) : Int)
  by_cases hv : v < 0
  · simp only [if_pos hv]; omega
  · simp only [if_neg hv]; omega
theorem adjust_gen (lo hi : Option Int) (n : Nat) : Builtin.Slice.sliceAdjust lo hi 1 (n : Int) = (((sIx n 0 lo : Nat) : Int), ((sIx n n hi : Nat) : Int)) := by
  have h1 : ¬ ((1 : Int) < 0) := by omega
  unfold Builtin.Slice.sliceAdjust
  simp only [h1, if_false]
  refine Prod.ext ?_ ?_
  · cases lo with
    | none => rfl
    | some v => exact clip_eq v n 0
  · cases hi with
    | none => rfl
    | some v => exact clip_eq v n n
theorem places_gen (i j : Nat) : Builtin.Slice.slicePlaces (i : Int) (j : Int) 1 = j - i := by
  unfold Builtin.Slice.slicePlaces
  have h1 : (1 : Int) > 0 := by omega
  simp only [h1, if_true, Int.ediv_one]
  split <;> omega
theorem slicePart_ {v : Value} {o : Option Int} {Q : Option Int → Shared → Prop} (p : IsPart v o) (h : Q o s) : wpAny (model prog w) A (Builtin.Slice.slicePartIndex v) Q E s := by
  cases p with
  | none => exact slicePart_none h
  | int i t => exact slicePart_int h
theorem sliceApplied_gen {sl : Addr} {vl vu : Value} {lo hi : Option Int} {n : Nat} {Q : Int × Int × Nat → Shared → Prop} (hs : s.heap.IsSliceOf sl vl vu .none) (pl : IsPart vl lo) (pu : IsPart vu hi)
    (h : Q (((sIx n 0 lo : Nat) : Int), 1, sIx n n hi - sIx n 0 lo) s) : wpAny (model prog w) A (Builtin.Slice.sliceApplied (.ref sl) (pure (n : Int))) Q E s := by
  obtain ⟨os, hos, hcs, hds⟩ := id hs
  unfold Builtin.Slice.sliceApplied Builtin.Slice.sliceFields
  refine wpAny_bind (wpAny_bind (wpAny_field hos hds (x := vl) rfl (wpAny_bind (wpAny_field hos hds (x := vu) rfl (wpAny_bind (wpAny_field hos hds (x := .none) rfl (wpAny_pure ?_)))))))
  refine wpAny_bind (slicePart_none ?_)
  show wpAny _ _ (if ((1 : Int) == 0) = true then _ else _) _ _ s
  rw [if_neg (by decide)]
  refine wpAny_bind (slicePart_ pl (wpAny_bind (slicePart_ pu (wpAny_bind (wpAny_pure ?_)))))
  show wpAny _ _ (match Builtin.Slice.sliceAdjust lo hi 1 (n : Int) with | (lo, hi) => pure (lo, (1 : Int), Builtin.Slice.slicePlaces lo hi 1)) _ _ s
  rw [adjust_gen lo hi n]
  show wpAny _ _ (pure (((sIx n 0 lo : Nat) : Int), (1 : Int), Builtin.Slice.slicePlaces ((sIx n 0 lo : Nat) : Int) ((sIx n n hi : Nat) : Int) 1)) _ _ s
  rw [places_gen]
  exact wpAny_pure h
theorem pick_gen (xs : Array Value) (i k : Nat) : ((List.range k).filterMap fun (m : Nat) => xs[((i : Int) + (m : Int) * 1).toNat]?).toArray = ((xs.toList.drop i).take k).toArray := by
  have e : (fun (m : Nat) => xs[((i : Int) + (m : Int) * 1).toNat]?) = fun m => xs[i + m]? := by
    funext m
    have : ((i : Int) + (m : Int) * 1).toNat = i + m := by omega
    rw [this]
  rw [e]
  have := pick_run xs i k
  rw [List.filterMap_map] at this
  have e2 : ((fun x => xs[x]?) ∘ fun x => i + x) = fun m => xs[i + m]? := rfl
  rw [e2] at this
  rw [this]

theorem getItem_tuple_cut {t sl : Addr} {items : Array Value} {vl vu : Value} {lo hi : Option Int} {Q : Value → Shared → Prop} (ht : IsTup s.heap t items) (hs : s.heap.IsSliceOf sl vl vu .none) (pl : IsPart vl lo) (pu : IsPart vu hi)
    (hw : ¬ (sIx items.size 0 lo = 0 ∧ sIx items.size items.size hi = items.size))
    (h : Q (.ref s.heap.objs.size) { s with heap := s.heap.push { cls := .type "tuple", data := .seq ((items.toList.drop (sIx items.size 0 lo)).take (sIx items.size items.size hi - sIx items.size 0 lo)).toArray } })
    (hsz : items.size ≤ sizeLine) : wpAny (model prog w) A (getItem (.ref t) (.ref sl)) Q E s := by
  have htake : sizeOk (.seq ((items.toList.drop (sIx items.size 0 lo)).take (sIx items.size items.size hi - sIx items.size 0 lo)).toArray) := by
    show ((items.toList.drop (sIx items.size 0 lo)).take (sIx items.size items.size hi - sIx items.size 0 lo)).toArray.size ≤ sizeLine
    rw [List.size_toArray, List.length_take, List.length_drop, Array.length_toList]
    omega
  have hj : sIx items.size items.size hi ≤ items.size := sIx_le _ _ (Nat.le_refl _) hi
  obtain ⟨os, hos, hcs, hds⟩ := id hs
  have hTs : s.TypeIs (.ref sl) "slice" := ⟨os, hos, hcs⟩
  unfold getItem
  try with_reducible refine wpAny_holding ?_
  first | refine wpAny_bind (wpAny_pure ?_) | skip
  refine wpAny_bind (wpAny_sequenceKey ht.typeIs (by decide) ?_)
  refine wpAny_bind (wpAny_callSpecial?_slot (name := Str.ofString "__getitem__") ht.typeIs PyProof.Rows.slot_tuple_getitem
    (wpAny_call_entry PyProof.Rows.slot_tuple_getitem ht.typeIs entry_tuple_getitem ?_ (args_tuple_getitem _ _)))
  show wpAny _ _ (Builtin.Tuple.tupleItemsOf (.ref t) >>= _) _ _ s
  refine wpAny_bind (tupleItemsOf_ ht ?_)
  refine wpAny_bind (wpAny_typeOf hTs ?_)
  rw [if_pos (by decide)]
  refine wpAny_bind (sliceApplied_gen hs pl pu ?_)
  have hno : ¬ ((((sIx items.size 0 lo : Nat) : Int) == 0 && (1 : Int) == 1 && (sIx items.size items.size hi - sIx items.size 0 lo) == items.size) = true) := by
    intro q
    rw [Bool.and_eq_true, Bool.and_eq_true] at q
    have q1 : ((sIx items.size 0 lo : Nat) : Int) = 0 := eq_of_beq q.1.1
    have q2 : sIx items.size items.size hi - sIx items.size 0 lo = items.size := eq_of_beq q.2
    exact hw ⟨by omega, by omega⟩
  show wpAny _ _ (if (((sIx items.size 0 lo : Nat) : Int) == 0 && (1 : Int) == 1 && (sIx items.size items.size hi - sIx items.size 0 lo) == items.size) = true then _ else _) _ _ s
  rw [if_neg hno, pick_gen]
  first
    | exact wpAny_bind (m := Builtin.Tuple.tupleExact _) (wpAny_newObj_type (wpAny_pure ⟨_, rfl, wpAny_pure h⟩) htake)
    | exact wpAny_bind (m := Builtin.Tuple.tupleExact _) (wpAny_newObj_type (wpAny_bind (wpAny_pure (wpAny_pure ⟨_, rfl, wpAny_pure h⟩))) htake)
    | exact wpAny_bind (wpAny_bind (m := Builtin.Tuple.tupleExact _) (wpAny_newObj_type (wpAny_pure (wpAny_pure ⟨_, rfl, wpAny_pure h⟩)) htake))
    | exact wpAny_bind (wpAny_bind (m := Builtin.Tuple.tupleExact _) (wpAny_newObj_type (wpAny_pure ⟨_, rfl, wpAny_pure h⟩) htake))
end
end HT

namespace L2
open PySem PySem.Spec PyProof.Rows

abbrev TO := St → Hp → (Option Int → Hp → Prop) → Prop
/-- a slice's part (left out, or an int) -/
def PO (X : Cx) (e : Option Expr) (t : TO) : Prop :=
  ∀ (pins : List (Addr × Obj)) (s : Shared) (σ : St) (H : Hp) (Q : Option Int → Hp → Prop), Inv X pins σ H s → t σ H Q →
    wpAny (model X.prog X.w) X.A (evalPart e X.env) (fun u s' => ∃ o H', Inv X pins σ H' s' ∧ IsPart u o ∧ Q o H') X.xe s
def tNoPart : TO := fun _ H Q => Q none H
def tPart (t : TE) : TO := fun σ H Q => t σ H fun x H1 => ∃ i, x = .int i ∧ Q (some i) H1

section
variable {X : Cx} {e : Expr} {te : TE} {lo hi : Option Expr} {tl th : TO} {pos p2 : Pos}

theorem po_none : PO X none tNoPart := by
  intro pins s σ H Q I h
  rw [evalPart_none]
  exact wpAny_pure ⟨none, H, I, .none, h⟩
theorem po_some (h : PE X e te) : PO X (some e) (tPart te) := by
  intro pins s σ H Q I hw
  rw [evalPart_some]
  refine thn (h pins s σ H _ I hw) fun u s1 ⟨x, H1, I1, r1, q1⟩ => ?_
  obtain ⟨i, rfl, q⟩ := q1
  obtain ⟨t, rfl⟩ := r1
  exact ⟨some i, H1, I1, .int i t, q⟩

/-- what a slice of a value is, by values: the slice object stands at sl -/
def SlR (X : Cx) (r : V → Option Int → Option Int → Hp → VK → Prop) : Prop :=
  ∀ (pins : List (Addr × Obj)) (s : Shared) (σ : St) (H : Hp) (x : V) (v vl vu : Value) (lo hi : Option Int) (sl : Addr) (Q : VK), Inv X pins σ H s → RelV x v → s.heap.IsSliceOf sl vl vu .none → IsPart vl lo → IsPart vu hi → r x lo hi H Q →
    ∃ T id, typeLookup (.type T) "__getitem__" = pure (some (.builtin id)) ∧ s.TypeIs v T ∧ wpAny (model X.prog X.w) X.A (getItem v (.ref sl)) (EP X pins σ Q) X.xe s
theorem SlR.or {r r' : V → Option Int → Option Int → Hp → VK → Prop} (h : SlR X r) (h' : SlR X r') : SlR X (fun x lo hi H Q => r x lo hi H Q ∨ r' x lo hi H Q) := by
  intro pins s σ H x v vl vu lo hi sl Q I rx hs pl pu q
  rcases q with q | q
  · exact h pins s σ H x v vl vu lo hi sl Q I rx hs pl pu q
  · exact h' pins s σ H x v vl vu lo hi sl Q I rx hs pl pu q
def tSl (r : V → Option Int → Option Int → Hp → VK → Prop) (te : TE) (tl th : TO) : TE := fun σ H Q => te σ H fun x H1 => tl σ H1 fun l H2 => th σ H2 fun u H3 => r x l u H3 Q
/-- a[lo:hi], any a -/
theorem pe_slice {r : V → Option Int → Option Int → Hp → VK → Prop} (hr : SlR X r) (he : PE X e te) (hl : PO X lo tl) (hu : PO X hi th) : PE X (.Subscript e (.Slice lo hi none p2) pos) (tSl r te tl th) := by
  intro pins s σ H Q I h
  refine Subscript_ (thn (he pins s σ H _ I h) fun v s1 ⟨x, H1, I1, r1, q1⟩ => ?_)
  refine wpAny_Slice (thn (hl pins s1 σ H1 _ I1 q1) fun vl s2 ⟨l, H2, I2, pl, q2⟩ => thn (hu pins s2 σ H2 _ I2 q2) fun vu s3 ⟨u, H3, I3, pu, q3⟩ => ?_)
  rw [evalPart_none]
  refine wpAny_pure ?_
  have I4 : Inv X pins σ H3 { s3 with heap := s3.heap.push { cls := .type "slice", data := .fields #[vl, vu, .none] } } := I3.kept (t' := s3.toks) fun b ob q => Heap.get?_push_of_some _ q
  obtain ⟨T, id, hT, ht, hg⟩ := hr pins { s3 with heap := s3.heap.push { cls := .type "slice", data := .fields #[vl, vu, .none] } } σ H3 x v vl vu l u s3.heap.objs.size Q I4 r1 (Heap.IsSliceOf.new ..) pl pu q3
  show wpAny (model X.prog X.w) X.A (subscriptTail e (.Slice lo hi none p2) v (.ref s3.heap.objs.size)) (EP X pins σ Q) X.xe { s3 with heap := s3.heap.push { cls := .type "slice", data := .fields #[vl, vu, .none] } }
  exact tail_any (ops := [.ref s3.heap.objs.size, v]) ht hT hg (by with_unfolding_all rfl)

/-- the items of xs[lo:hi] -/
def cutV (xs : List V) (lo hi : Option Int) : List V := (xs.drop (HT.sIx xs.length 0 lo)).take (HT.sIx xs.length xs.length hi - HT.sIx xs.length 0 lo)
theorem cutV_length (xs : List V) (lo hi : Option Int) : (cutV xs lo hi).length ≤ xs.length := by
  unfold cutV
  rw [List.length_take, List.length_drop]
  omega
/-- t[lo:hi], not the whole of it (the whole would be t itself) -/
def rSlT (K : PySem.W.Frag) : V → Option Int → Option Int → Hp → VK → Prop := fun x lo hi H Q => ∃ a xs, x = .ref a ∧ SqT K H a xs ∧
  ¬ (HT.sIx xs.length 0 lo = 0 ∧ HT.sIx xs.length xs.length hi = xs.length) ∧ ∀ p, H p = none → Q (.ref p) (upd H p (.tup (cutV xs lo hi)))
theorem sl_tup : SlR X (rSlT X.K) := by
  intro pins s σ H x v vl vu lo hi sl Q I rx hs pl pu h
  obtain ⟨a, xs, rfl, hx, hw, q⟩ := h
  cases rx
  obtain ⟨its, r, ht, hz⟩ := I.tuple hx
  have hlen : its.toArray.size = xs.length := by rw [List.size_toArray]; exact r.length.symm
  refine ⟨"tuple", _, PyProof.Rows.slot_tuple_getitem.lookup, ht.typeIs, ?_⟩
  refine HT.getItem_tuple_cut ht hs pl pu (by rw [hlen]; exact hw) ?_ (by rw [hlen]; exact hz)
  rw [hlen]
  refine ⟨.ref s.heap.objs.size, _, I.laid (t' := s.toks) (o := .tup (cutV xs lo hi)) (fun b ob q => Heap.get?_push_of_some _ q) (Nat.le_refl _) ?_, rfl, q _ (I.hok.fresh (Nat.le_refl _))⟩
  exact ⟨Nat.le_trans (cutV_length xs lo hi) hz, _, (r.drop (HT.sIx xs.length 0 lo)).take (HT.sIx xs.length xs.length hi - HT.sIx xs.length 0 lo), IsTup.new _ _⟩

/-- t + u, t not empty: u empty gives t itself -/
def rCatT (K : PySem.W.Frag) : R2 := fun x y H Q => ∃ a b xs ys, x = .ref a ∧ y = .ref b ∧ SqT K H a xs ∧ SqT K H b ys ∧ xs ≠ [] ∧ xs.length + ys.length ≤ sizeLine ∧
  (ys = [] → Q (.ref a) H) ∧ (ys ≠ [] → ∀ p, H p = none → Q (.ref p) (upd H p (.tup (xs ++ ys))))
theorem Vals.nil_iff {xs : List V} {us : List Value} (r : Vals xs us) : us = [] ↔ xs = [] := by
  cases r with
  | nil => simp
  | cons _ _ => simp
theorem op_catT : OpR X (binaryOp .Add) (rCatT X.K) := by
  intro pins s σ H x y v u Q I rx ry h
  obtain ⟨a, b, xs, ys, rfl, rfl, ha, hb, hx, hz, q1, q2⟩ := h
  cases rx
  cases ry
  obtain ⟨its, r1, p1, _⟩ := I.tuple ha
  obtain ⟨its2, r2, p2, _⟩ := I.tuple hb
  refine HT.cat_tup p1 p2 (fun z => hx (r1.nil_iff.mp z)) (fun z => ⟨.ref a, H, I, rfl, q1 (r2.nil_iff.mp z)⟩) (fun z => ?_) (by rw [← r1.length, ← r2.length]; exact hz)
  refine ⟨.ref s.heap.objs.size, _, I.laid (t' := s.toks) (o := .tup (xs ++ ys)) (fun b ob q => Heap.get?_push_of_some _ q) (Nat.le_refl _) ?_, rfl, q2 (fun w => z (r2.nil_iff.mpr w)) _ (I.hok.fresh (Nat.le_refl _))⟩
  exact ⟨by rw [List.length_append]; exact hz, _, r1.append r2, IsTup.new _ _⟩
end
end L2

namespace L2
open PySem PySem.Spec PyProof.Rows

/-- the place that an index of any sign means -/
def ixN (n : Nat) (i : Int) : Option Nat := if 0 ≤ i then (if i < n then some i.toNat else none) else if -(n : Int) ≤ i then some (i + n).toNat else none
def atI {α : Type} (xs : List α) (i : Int) : Option α := (ixN xs.length i).bind fun j => xs[j]?
theorem ixN_seq {n : Nat} {i : Int} {j : Nat} (h : ixN n i = some j) : seqIndex? i n = some j ∧ j < n ∧ -(n : Int) ≤ i ∧ i < n := by
  unfold ixN at h
  by_cases h0 : 0 ≤ i
  · rw [if_pos h0] at h
    by_cases h1 : i < n
    · rw [if_pos h1] at h
      have e : i.toNat = j := Option.some.inj h
      exact ⟨by rw [seqIndex_of h0 h1, e], by omega, by omega, h1⟩
    · rw [if_neg h1] at h; cases h
  · rw [if_neg h0] at h
    by_cases h1 : -(n : Int) ≤ i
    · rw [if_pos h1] at h
      have e : (i + n).toNat = j := Option.some.inj h
      exact ⟨by rw [seqIndex_neg (by omega) h1, e], by omega, h1, by omega⟩
    · rw [if_neg h1] at h; cases h
theorem atI_get {α : Type} {xs : List α} {i : Int} {v : α} (h : atI xs i = some v) : ∃ j, seqIndex? i xs.length = some j ∧ xs[j]? = some v ∧ j < xs.length ∧ -(xs.length : Int) ≤ i ∧ i < xs.length := by
  unfold atI at h
  cases e : ixN xs.length i with
  | none => rw [e] at h; cases h
  | some j =>
    rw [e] at h
    obtain ⟨h1, h2, h3, h4⟩ := ixN_seq e
    exact ⟨j, h1, h, h2, h3, h4⟩
theorem atI_last {α : Type} (xs : List α) (v : α) : atI (xs ++ [v]) (-1) = some v := by
  have hl : (xs ++ [v]).length = xs.length + 1 := by simp
  have e : ixN (xs ++ [v]).length (-1) = some xs.length := by
    unfold ixN
    rw [hl, if_neg (by decide), if_pos (by omega)]
    congr 1
    omega
  unfold atI
  rw [e]
  show (xs ++ [v])[xs.length]? = some v
  simp

/-- what stands as an index of a plain subscript -/
def PlainIx (b : Expr) : Prop := ∀ o i, subscripted b false o i = operate [o, i] (getItem o i)
/-- a subscript by values -/
def IxR (X : Cx) (r : R2) : Prop :=
  ∀ (value slice : Expr) (pins : List (Addr × Obj)) (s : Shared) (σ : St) (H : Hp) (x y : V) (v u : Value) (Q : VK), Inv X pins σ H s → RelV x v → RelV y u → r x y H Q →
    subscripted slice false v u = operate [v, u] (getItem v u) → wpAny (model X.prog X.w) X.A (subscriptTail value slice v u) (EP X pins σ Q) X.xe s
/-- a call of a builtin's method by values: the receiver, the arguments -/
def MtR (X : Cx) (id : String) (r : V → List V → Hp → VK → Prop) : Prop :=
  ∀ (pins : List (Addr × Obj)) (s : Shared) (σ : St) (H : Hp) (x : V) (xs : List V) (v : Value) (us : List Value) (Q : VK), Inv X pins σ H s → RelV x v → Vals xs us → r x xs H Q →
    wpAny (model X.prog X.w) X.A (call (.builtin id) (v :: us)) (EP X pins σ Q) X.xe s
section
variable {X : Cx} {a b : Expr} {ta tb : TE} {pos : Pos}
theorem IxR.or {r r' : R2} (h : IxR X r) (h' : IxR X r') : IxR X (fun x y H Q => r x y H Q ∨ r' x y H Q) := by
  intro value slice pins s σ H x y v u Q I rx ry q hs
  rcases q with q | q
  · exact h value slice pins s σ H x y v u Q I rx ry q hs
  · exact h' value slice pins s σ H x y v u Q I rx ry q hs
theorem MtR.or {id : String} {r r' : V → List V → Hp → VK → Prop} (h : MtR X id r) (h' : MtR X id r') : MtR X id (fun x xs H Q => r x xs H Q ∨ r' x xs H Q) := by
  intro pins s σ H x xs v us Q I rx rs q
  rcases q with q | q
  · exact h pins s σ H x xs v us Q I rx rs q
  · exact h' pins s σ H x xs v us Q I rx rs q
/-- a[b] -/
theorem pe_ix {r : R2} (hr : IxR X r) (ha : PE X a ta) (hb : PE X b tb) (hs : PlainIx b) : PE X (.Subscript a b pos) (tOp r ta tb) := by
  intro pins s σ H Q I h
  exact Subscript_ (binT ha hb I h fun v u s2 x y H2 I2 rx ry q => hr a b pins s2 σ H2 x y v u Q I2 rx ry q (hs _ _))

def rIxL (K : PySem.W.Frag) : R2 := fun x y H Q => ∃ p xs i v, x = .ref p ∧ y = .int i ∧ SqL K H p xs ∧ atI xs i = some v ∧ Q v H
def rIxT (K : PySem.W.Frag) : R2 := fun x y H Q => ∃ p xs i v, x = .ref p ∧ y = .int i ∧ SqT K H p xs ∧ atI xs i = some v ∧ Q v H
theorem ix_list : IxR X (rIxL X.K) := by
  intro value slice pins s σ H x y v u Q I rx ry h hs
  obtain ⟨p, xs, i, z, rfl, rfl, hq, he, q⟩ := h
  cases rx
  obtain ⟨t, rfl⟩ := ry
  obtain ⟨its, r, pl, hz⟩ := I.list hq
  obtain ⟨j, h1, h2, h3, h4, h5⟩ := atI_get he
  obtain ⟨w, ew, rw'⟩ := r.get h2
  have hl := r.length
  have hn := line63
  have fin : EP X pins σ Q w s := ⟨z, H, I, rw', q⟩
  by_cases h0 : 0 ≤ i
  · have hj : i.toNat = j := by
      rw [seqIndex_of h0 h5] at h1
      exact Option.some.inj h1
    exact item_listR pl.isList h0 (by omega) (by rw [hj]; simpa using ew) fin hs
  · have hj : (i + (its.toArray.size : Int)).toNat = j := by
      rw [seqIndex_neg (by omega) h4] at h1
      rw [List.size_toArray, ← hl]
      exact Option.some.inj h1
    exact subscriptTail_builtinR (x := w) pl.isList.typeIs slot_list_getitem.lookup
      (wpAny_getItem_list_neg (Q := fun r s' => r = w ∧ EP X pins σ Q r s') pl.isList (by omega) (by rw [List.size_toArray] <;> omega) (by omega) (by rw [hj]; simpa using ew) ⟨rfl, fin⟩) hs
theorem ix_tup : IxR X (rIxT X.K) := by
  intro value slice pins s σ H x y v u Q I rx ry h hs
  obtain ⟨p, xs, i, z, rfl, rfl, hq, he, q⟩ := h
  cases rx
  obtain ⟨t, rfl⟩ := ry
  obtain ⟨its, r, pl, hz⟩ := I.tuple hq
  obtain ⟨j, h1, h2, h3, h4, h5⟩ := atI_get he
  obtain ⟨w, ew, rw'⟩ := r.get h2
  have hl := r.length
  have hn := line63
  have fin : EP X pins σ Q w s := ⟨z, H, I, rw', q⟩
  exact subscriptTail_builtinR (x := w) pl.typeIs slot_tuple_getitem.lookup
    (getItem_tuple (j := j) (Q := fun r s' => r = w ∧ EP X pins σ Q r s') pl (by omega) (by omega) (by rw [List.size_toArray, ← hl]; exact h1) (by simpa using ew) ⟨rfl, fin⟩) hs
theorem Inv.lst {pins : List (Addr × Obj)} {σ : St} {H : Hp} {s : Shared} {p : Addr} {xs : List V} (I : Inv X pins σ H s) (h : H p = some (.lst xs)) :
    ∃ (its : List Value) (n : Nat), Vals xs its ∧ s.heap.get? p = some { cls := .type "list", data := .seq its.toArray n } ∧ xs.length ≤ sizeLine := by
  obtain ⟨z, its, n, r, e⟩ := I.hok p _ h
  exact ⟨its, n, r, e, z⟩
theorem slice_bounds (lo hi : Option Int) (n : Nat) : (sliceBounds lo hi none n).1 = ((HT.sIx n 0 lo : Nat) : Int) ∧ (sliceBounds lo hi none n).2.1 = ((HT.sIx n n hi : Nat) : Int) ∧ (sliceBounds lo hi none n).2.2 = 1 := by
  refine ⟨?_, ?_, rfl⟩
  · cases lo with
    | none => simp [sliceBounds, HT.sIx]
    | some i =>
      simp only [sliceBounds, HT.sIx, Option.getD_none, show (1 : Int) > 0 by decide, if_true]
      by_cases h : i < 0
      · simp only [h, if_true] <;> omega
      · simp only [h, if_false] <;> omega
  · cases hi with
    | none => simp [sliceBounds, HT.sIx]
    | some i =>
      simp only [sliceBounds, HT.sIx, Option.getD_none, show (1 : Int) > 0 by decide, if_true]
      by_cases h : i < 0
      · simp only [h, if_true] <;> omega
      · simp only [h, if_false] <;> omega
theorem slicePick_cut (its : List Value) (lo hi : Option Int) : slicePick its.toArray lo hi none = ((its.drop (HT.sIx its.length 0 lo)).take (HT.sIx its.length its.length hi - HT.sIx its.length 0 lo)).toArray := by
  obtain ⟨h1, h2, h3⟩ := slice_bounds lo hi its.toArray.size
  unfold slicePick
  rw [h1, h2, h3]
  simp only [sliceRange_one, pick_run, List.size_toArray] <;> rfl
/-- xs[lo:hi] of a list: a new list -/
def rSlL (K : PySem.W.Frag) : V → Option Int → Option Int → Hp → VK → Prop := fun x lo hi H Q => ∃ a xs, x = .ref a ∧ SqL K H a xs ∧ ∀ p, H p = none → Q (.ref p) (upd H p (.lst (cutV xs lo hi)))
theorem sl_list : SlR X (rSlL X.K) := by
  intro pins s σ H x v vl vu lo hi sl Q I rx hs pl pu h
  obtain ⟨a, xs, rfl, hx, q⟩ := h
  cases rx
  obtain ⟨its, r, ht, hz⟩ := I.list hx
  have hlen := r.length
  refine ⟨"list", _, slot_list_getitem.lookup, ht.isList.typeIs, ?_⟩
  refine wpAny_getItem_list_slice ht.isList hs pl pu .none (by simp) ?_ (by rw [List.size_toArray] <;> omega)
  rw [slicePick_cut, ← hlen]
  refine ⟨.ref s.heap.objs.size, _, I.laid (t' := s.toks) (o := .lst (cutV xs lo hi)) (fun b ob q => Heap.get?_push_of_some _ q) (Nat.le_refl _) ?_, rfl, q _ (I.hok.fresh (Nat.le_refl _))⟩
  exact ⟨Nat.le_trans (cutV_length xs lo hi) hz, _, 0, (r.drop (HT.sIx xs.length 0 lo)).take (HT.sIx xs.length xs.length hi - HT.sIx xs.length 0 lo), Heap.get?_push_size _ rfl⟩

theorem call_len_seq : CallR X (.builtin "len") (fun xs H Q => ∃ p ys, xs = [.ref p] ∧ (SqL X.K H p ys ∨ SqT X.K H p ys) ∧ Q (.int ys.length) H) := by
  intro pins s σ H xs us Q I r h
  obtain ⟨p, ys, rfl, hq, q⟩ := h
  obtain ⟨u, rfl, rx⟩ := vals1 r
  cases rx
  have hn := line63
  rcases hq with hq | hq
  · obtain ⟨its, r', pl, hz⟩ := I.list hq
    have hlen := r'.length
    exact Calls.call_len_list pl.isList (by simp only [List.size_toArray] <;> omega) ⟨.int ys.length, H, I.tok _, ⟨s.toks + 1, by rw [List.size_toArray, hlen]⟩, q⟩
  · obtain ⟨its, r', pl, hz⟩ := I.tuple hq
    have hlen := r'.length
    exact len_tuple pl (by simp only [List.size_toArray] <;> omega) ⟨.int ys.length, H, I.tok _, ⟨s.toks + 1, by rw [List.size_toArray, hlen]⟩, q⟩
theorem call_len_str : CallR X (.builtin "len") (fun xs H Q => ∃ z, xs = [.str z] ∧ z.length ≤ sizeLine ∧ Q (.int z.length) H) := by
  intro pins s σ H xs us Q I r h
  obtain ⟨z, rfl, hz, q⟩ := h
  obtain ⟨u, rfl, t, rfl⟩ := vals1 r
  have hn := line63
  exact len_str (by omega) ⟨.int z.length, H, I.tok _, ⟨_, rfl⟩, q⟩
theorem CallR.or {f : Value} {r r' : List V → Hp → VK → Prop} (h : CallR X f r) (h' : CallR X f r') : CallR X f (fun xs H Q => r xs H Q ∨ r' xs H Q) := by
  intro pins s σ H xs us Q I rs q
  rcases q with q | q
  · exact h pins s σ H xs us Q I rs q
  · exact h' pins s σ H xs us Q I rs q
theorem call_tuple_of : CallR X (.type "tuple") (fun xs H Q => ∃ p ys, xs = [.ref p] ∧ ((SqL X.K H p ys ∧ ∀ l, H l = none → Q (.ref l) (upd H l (.tup ys))) ∨ (SqT X.K H p ys ∧ Q (.ref p) H))) := by
  intro pins s σ H xs us Q I r h
  obtain ⟨p, ys, rfl, h⟩ := h
  obtain ⟨u, rfl, rx⟩ := vals1 r
  cases rx
  rcases h with ⟨hq, q⟩ | ⟨hq, q⟩
  · obtain ⟨its, r', pl, hz⟩ := I.list hq
    have hlen := r'.length
    refine call_tuple_list pl.isList (fun h' kp => ?_) (by simp only [List.size_toArray] <;> omega)
    have I1 : Inv X pins σ H { s with heap := h' } := I.kept (t' := s.toks) kp
    have I2 : Inv X pins σ (upd H h'.objs.size (.tup ys)) { s with heap := h'.push { cls := .type "tuple", data := .seq its.toArray } } :=
      I1.laid (t' := s.toks) (fun b o e => Heap.get?_push_of_some _ e) (Nat.le_refl _) (show ObjOk X.prog X.w _ _ _ (.tup ys) from ⟨hz, its, r', IsTup.new _ _⟩)
    exact ⟨.ref h'.objs.size, _, I2, rfl, q _ (I1.hok.fresh (Nat.le_refl _))⟩
  · obtain ⟨its, r', pl, hz⟩ := I.tuple hq
    exact call_tuple_same pl ⟨.ref p, H, I, rfl, q⟩

/-- the value is of that builtin type -/
def tyV (K : PySem.W.Frag) (T : String) (x : V) (H : Hp) : Prop := match x with
  | .str _ => T = "str"
  | .int _ => T = "int"
  | .ref p => (T = "list" ∧ ∃ xs, SqL K H p xs) ∨ (T = "tuple" ∧ ∃ o, K.lookup p = some o ∧ o.cls = .type "tuple" ∧ o.dict = none) ∨
      (T = "dict" ∧ ((∃ kvs, H p = some (.dK kvs)) ∨ ∃ kvs, H p = some (.dT kvs))) ∨ (T = "set" ∧ ∃ S n, H p = some (.set S n))
  | _ => False
theorem tyV_is {pins : List (Addr × Obj)} {σ : St} {H : Hp} {s : Shared} {T : String} {x : V} {v : Value} (I : Inv X pins σ H s) (r : RelV x v) (ty : tyV X.K T x H) :
    s.TypeIs v T ∧ ∀ a, v = .ref a → ∃ ob, s.heap.get? a = some ob ∧ ob.dict = none := by
  cases x with
  | str z =>
    obtain ⟨t, rfl⟩ := r
    cases (show T = "str" from ty)
    exact ⟨typeIs_str s z t, fun _ e => nomatch e⟩
  | int i =>
    obtain ⟨t, rfl⟩ := r
    cases (show T = "int" from ty)
    exact ⟨typeIs_int s i t, fun _ e => nomatch e⟩
  | ref p =>
    cases r
    rcases ty with ⟨rfl, xs, hq⟩ | ⟨rfl, o, hk, hc, hd⟩ | ⟨rfl, hk⟩ | ⟨rfl, S, n, hk⟩
    · obtain ⟨its, _, pl, _⟩ := I.list hq
      refine ⟨pl.isList.typeIs, fun a e => ?_⟩
      cases e
      obtain ⟨o, n, e, c, hd, _⟩ := pl
      exact ⟨o, e, hd⟩
    · refine ⟨⟨o, I.kIn p o hk, hc⟩, fun a e => ?_⟩
      cases e
      exact ⟨o, I.kIn _ o hk, hd⟩
    · have z : ∃ o, s.heap.get? p = some o ∧ o.ExactDict := by
        rcases hk with ⟨kvs, hk⟩ | ⟨kvs, hk⟩
        · obtain ⟨_, _, _, _, o, _, _, e, ex, _⟩ := I.hok p _ hk
          exact ⟨o, e, ex⟩
        · obtain ⟨_, _, _, _, o, _, _, e, ex, _⟩ := I.hok p _ hk
          exact ⟨o, e, ex⟩
      obtain ⟨o, e, ex⟩ := z
      refine ⟨⟨o, e, ex.1⟩, fun a e2 => ?_⟩
      cases e2
      exact ⟨o, e, ex.2.1⟩
    · obtain ⟨o, _, _, _, e, ex, _⟩ := I.hok p _ hk
      refine ⟨⟨o, e, ex.1⟩, fun a e2 => ?_⟩
      cases e2
      exact ⟨o, e, ex.2.1⟩
  | _ => exact False.elim ty
def tBM (K : PySem.W.Frag) (T : String) (r : V → List V → Hp → VK → Prop) (to : TE) (t : TA) : TE := fun σ H Q => to σ H fun x H1 => tyV K T x H1 ∧ t σ H1 fun xs H2 => r x xs H2 Q
variable {o e : Expr} {es : List Expr} {to : TE} {t : TA} {name : Str} {apos cpos : Pos} {T id : String} {r : V → List V → Hp → VK → Prop}
theorem pe_bm (pa : PlainAttrs T) (slot : Slot T name id) (hty : typeOf (.builtin id) = pure (.type "method_descriptor")) (hm : MtR X id r) (ho : PE X o to) (ha : PA X (e :: es) t)
    (hbase : attributeBase o name X.env (eval o X.env) = eval o X.env := by rfl)
    (hfew : ((backTo cpos (starEach (e :: es) X.env)).all (fun x => !x.1) && (backToKw cpos (keywordEach [] X.env)).all (fun x => x.1.isSome)
      && decide ((e :: es).length + ([] : List Keyword).length + (if ([] : List Keyword).isEmpty then 0 else 1) < 30)) = true := by rfl)
    (hline : (apos.endLine == cpos.line) = true := by rfl) (hs : starEach (e :: es) X.env = (false, eval e X.env) :: starEach es X.env := by rfl) (hplain : (backTo cpos (starEach es X.env)).any (·.1) = false := by rfl) :
    PE X (.Call (.Attribute o name apos) (e :: es) [] cpos) (tBM X.K T r to t) := by
  intro pins s σ H Q I h
  refine wpAny_Call_method_late hbase hfew hline rfl (thn (ho pins s σ H _ I h) fun v s1 ⟨x, H1, I1, r1, ty, q1⟩ => ?_)
  obtain ⟨h1, h2⟩ := tyV_is I1 r1 ty
  refine ⟨T, id, pa, slot, hty, h1, h2, ?_⟩
  have hA := ha cpos pins s1 σ H1 _ I1 q1
  rw [hs] at hA ⊢
  refine Calls.callWith_builtin (by show (false || (backTo cpos (starEach es X.env)).any (·.1)) = false; rw [hplain] <;> rfl) (Calls.evalArgs_plain ?_)
  exact thn hA fun us s2 ⟨vs, H2, I2, r2, q2⟩ => hm pins s2 σ H2 x vs v us Q I2 r1 r2 q2
end
end L2

namespace L2
open PySem PySem.Spec PyProof.Rows

def MtM (X : Cx) (id : String) (r : V → List V → Hp → VK → Prop) : Prop :=
  ∀ (pins : List (Addr × Obj)) (s : Shared) (σ : St) (H : Hp) (x : V) (xs : List V) (v : Value) (us : List Value) (Q : VK), Inv X pins σ H s → RelV x v → Vals xs us → r x xs H Q →
    wpAny (model X.prog X.w) X.A (call (.builtin id) (v :: us)) (EP X pins σ Q) X.xe s

theorem Vals.one : ∀ {x : V} {us : List Value}, Vals [x] us → ∃ u, us = [u] ∧ RelV x u
  | _, _, .cons r .nil => ⟨_, rfl, r⟩
theorem Vals.zero : ∀ {us : List Value}, Vals [] us → us = []
  | _, .nil => rfl
theorem Vals.reverse {xs : List V} {us : List Value} (h : Vals xs us) : Vals xs.reverse us.reverse := by
  induction h with
  | nil => exact .nil
  | cons r t ih => rw [List.reverse_cons, List.reverse_cons]; exact Vals.append ih (.cons r .nil)
theorem Vals.rep {xs : List V} {us : List Value} (h : Vals xs us) : ∀ k : Nat, Vals (List.replicate k xs).flatten (List.replicate k us).flatten
  | 0 => .nil
  | k + 1 => by
    rw [List.replicate_succ, List.replicate_succ, List.flatten_cons, List.flatten_cons]
    exact Vals.append h (Vals.rep h k)
theorem foldl_rep (its : List Value) : ∀ (k : Nat) (acc : List Value),
    List.foldl (fun x1 x2 => x1 ++ x2) acc.toArray (List.replicate k its.toArray) = (acc ++ (List.replicate k its).flatten).toArray
  | 0, acc => by simp
  | k + 1, acc => by
    have e : acc.toArray ++ its.toArray = (acc ++ its).toArray := by simp
    have e2 : (acc ++ its) ++ (List.replicate k its).flatten = acc ++ (List.replicate (k + 1) its).flatten := by
      rw [List.replicate_succ, List.flatten_cons, List.append_assoc]
    rw [← e2, ← foldl_rep its k (acc ++ its), ← e, List.replicate_succ, List.foldl_cons]

section
variable {X : Cx} {pins : List (Addr × Obj)} {σ : St} {H : Hp} {s : Shared} {l b : Addr} {xs ys zs : List V}

theorem Inv.lset {its its' : List Value} {n : Nat} {f : Array Value → Array Value} {t' : Nat} (I : Inv X pins σ H s) (hH : H l = some (.lst xs))
    (e : s.heap.get? l = some { cls := .type "list", data := .seq its.toArray n }) (hf : f its.toArray = its'.toArray) (hv : Vals ys its') (hz : ys.length ≤ sizeLine) :
    Inv X pins σ (upd H l (.lst ys)) { s with heap := s.heap.update l (Obj.mapSeq f), toks := t' } := by
  have q := PySem.IsL.update e f
  rw [hf] at q
  refine I.write (x := l) (e := l) (by rw [hH]; exact trivial) (.inl rfl) (fun b' u hb hu => (Heap.get?_update_other s.heap (Obj.mapSeq f) (Ne.symm hb)).trans hu) ⟨_, q⟩ ?_
  exact ⟨hz, its', _, hv, q⟩
theorem Inv.lnew {its : List Value} {t' : Nat} (I : Inv X pins σ H s) (hv : Vals ys its) (hz : ys.length ≤ sizeLine) :
    Inv X pins σ (upd H s.heap.objs.size (.lst ys)) { s with heap := s.heap.push { cls := .type "list", data := .seq its.toArray }, toks := t' } :=
  I.laid (fun _ _ q => Heap.get?_push_of_some _ q) (Nat.le_refl _) ⟨hz, its, 0, hv, Heap.get?_push_size _ rfl⟩
theorem Inv.fresh (I : Inv X pins σ H s) : H s.heap.objs.size = none := I.hok.fresh (Nat.le_refl _)
theorem Inv.lstM (I : Inv X pins σ H s) (hH : H l = some (.lst xs)) : xs.length ≤ sizeLine ∧ ∃ (its : List Value) (n : Nat), Vals xs its ∧ xs.length = its.length ∧ s.heap.get? l = some { cls := .type "list", data := .seq its.toArray n } := by
  obtain ⟨z, its, n, r, e⟩ := I.hok l _ hH
  exact ⟨z, its, n, r, r.length, e⟩

theorem notLongL {n : Nat} (h : n ≤ sizeLine) : Builtin.List.listTooLong n = false := by
  unfold Builtin.List.listTooLong
  exact decide_eq_false (by omega)
end

section
variable {X : Cx}

def rAppend : V → List V → Hp → VK → Prop := fun x vs H Q => ∃ l xs y, x = .ref l ∧ vs = [y] ∧ H l = some (.lst xs) ∧ xs.length < sizeLine ∧ Q .non (upd H l (.lst (xs ++ [y])))
theorem mt_append : MtM X "list.append" rAppend := by
  intro pins s σ H x vs v us Q I rx rv h
  obtain ⟨l, xs, y, rfl, rfl, hH, hz, q⟩ := h
  cases rx
  obtain ⟨u, rfl, ru⟩ := rv.one
  obtain ⟨z, its, n, r, hl, e⟩ := I.lstM hH
  refine call_meets F.slot_list_append ⟨_, e, rfl⟩ F.entry_list_append (F.args_list_append_2 _ _) (PySem.list_append l its.toArray n u (by rw [List.size_toArray]; omega)) ⟨e, ?_⟩
  refine ⟨.non, _, I.lset (its' := its ++ [u]) hH e (by simp) (r.append (.cons ru .nil)) ?_, rfl, q⟩
  rw [List.length_append, List.length_singleton]
  omega

def rCat : R2 := fun x y H Q => ∃ l b xs zs, x = .ref l ∧ y = .ref b ∧ H l = some (.lst xs) ∧ H b = some (.lst zs) ∧ xs.length + zs.length ≤ sizeLine ∧ ∀ p, H p = none → Q (.ref p) (upd H p (.lst (xs ++ zs)))
theorem op_cat : OpR X (binaryOp .Add) rCat := by
  intro pins s σ H x y v u Q I rx ry h
  obtain ⟨l, b, xs, zs, rfl, rfl, hH, hB, hz, q⟩ := h
  cases rx
  cases ry
  obtain ⟨z, its, n, r, hl, e⟩ := I.lstM hH
  obtain ⟨z2, its2, n2, r2, hl2, e2⟩ := I.lstM hB
  refine PySem.P.add_list e e2 ?_ (by rw [List.size_toArray, List.size_toArray]; omega)
  have ea : its.toArray ++ its2.toArray = (its ++ its2).toArray := by simp
  rw [ea]
  exact ⟨.ref _, _, I.lnew (t' := s.toks) (r.append r2) (by rw [List.length_append]; omega), rfl, q _ I.fresh⟩
/-- a list times an int (a negative one is nothing) -/
def rRep : R2 := fun x y H Q => ∃ l k xs, x = .ref l ∧ y = .int k ∧ H l = some (.lst xs) ∧ -(2 ^ 63) ≤ k ∧ k < 2 ^ 63 ∧ xs.length * k.toNat ≤ sizeLine ∧
  ∀ p, H p = none → Q (.ref p) (upd H p (.lst (List.replicate k.toNat xs).flatten))
theorem len_rep {α : Type} (xs : List α) (k : Nat) : (List.replicate k xs).flatten.length = k * xs.length := by
  induction k with
  | zero => simp
  | succ k ih => rw [List.replicate_succ, List.flatten_cons, List.length_append, ih, Nat.succ_mul, Nat.add_comm]
theorem op_rep : OpR X (binaryOp .Mult) rRep := by
  intro pins s σ H x y v u Q I rx ry h
  obtain ⟨l, k, xs, rfl, rfl, hH, h1, h2, hz, q⟩ := h
  cases rx
  obtain ⟨t, rfl⟩ := ry
  obtain ⟨z, its, n, r, hl, e⟩ := I.lstM hH
  have hlen : its.toArray.size * k.toNat ≤ sizeLine := by rw [List.size_toArray, ← hl]; exact hz
  have hcap : ¬ its.toArray.size * k.toNat > (2 ^ 63 - 1) / 8 := by
    have : (sizeLine : Nat) ≤ (2 ^ 63 - 1) / 8 := by decide
    omega
  have hfit : ¬ (!Builtin.List.listFitsIndex k) = true := by
    rw [fitsIndex_both h1 h2]
    exact Bool.false_ne_true
  have hlong : ¬ Builtin.List.listTooLong (its.toArray.size * k.toNat) = true := by
    rw [notLongL hlen]
    exact Bool.false_ne_true
  have hnew : List.foldl (fun x1 x2 => x1 ++ x2) #[] (List.replicate (if its.toArray.isEmpty = true then 0 else k.toNat) its.toArray) = (List.replicate k.toNat its).flatten.toArray := by
    have f0 : ∀ m : Nat, List.foldl (fun x1 x2 => x1 ++ x2) #[] (List.replicate m its.toArray) = (List.replicate m its).flatten.toArray := fun m => by
      have := foldl_rep its m []
      rw [List.nil_append] at this
      exact this
    rw [f0]
    cases its with
    | nil => simp
    | cons a r' => rw [if_neg (by simp)]
  refine wpAny_binaryOp_repeat_ref (T := "list") (U := "int") (by decide) ⟨_, e, rfl⟩ (fun s' => typeIs_int s' k t) noFill_list_mul F.fills_int_mul F.slot_int_rmul repeat_list F.slot_int_index.lookup
    (call_meets F.slot_int_rmul (typeIs_int s k t) F.entry_int_rmul (F.args_int_rmul_2 _ _) (int___rmul___int_list k t l its.toArray n)
      ⟨e, rfl, ⟨_, e, rfl⟩, call_meets F.slot_list_mul ⟨_, e, rfl⟩ F.entry_list_mul (F.args_list_mul_2 _ _) (AutoListH.list___mul___list_int_3 l its.toArray n k t hfit hcap hlong) ⟨e, ?_⟩⟩)
  rw [hnew]
  exact ⟨.ref _, _, I.lnew (t' := s.toks) (r.rep k.toNat) (by rw [len_rep, Nat.mul_comm]; exact hz), rfl, q _ I.fresh⟩

end

section
variable {prog : Program} {w : World} {A : Around} {E : Value → Shared → Prop} {s : Shared}
end

section
variable {X : Cx}
end
end L2

namespace L2
open PySem PySem.Spec PyProof.Rows

section
variable {κ : Type} [DecidableEq κ]
def valV (kvs : List (κ × V)) (k : κ) : Option V := (kvs.find? fun kv => decide (kv.1 = k)).map (·.2)
/-- in its place, or at the end -/
def putK (kvs : List (κ × V)) (k : κ) (v : V) : List (κ × V) :=
  if (kvs.any fun kv => decide (kv.1 = k)) = true then kvs.map (fun kv => if kv.1 = k then (kv.1, v) else kv) else kvs ++ [(k, v)]
def dropK (kvs : List (κ × V)) (k : κ) : List (κ × V) := kvs.filter fun kv => decide (kv.1 ≠ k)

theorem valV_nil {k : κ} : valV ([] : List (κ × V)) k = none := rfl
theorem valV_pos {p : κ × V} {r : List (κ × V)} {k : κ} (e : p.1 = k) : valV (p :: r) k = some p.2 := by simp [valV, List.find?_cons, e]
theorem valV_neg {p : κ × V} {r : List (κ × V)} {k : κ} (e : ¬ p.1 = k) : valV (p :: r) k = valV r k := by simp [valV, List.find?_cons, e]
theorem valV_any (k : κ) : ∀ kvs : List (κ × V), (kvs.any fun kv => decide (kv.1 = k)) = (valV kvs k).isSome
  | [] => rfl
  | p :: r => by
    rw [List.any_cons]
    by_cases e : p.1 = k
    · simp only [valV_pos e, decide_eq_true e, Bool.true_or, Option.isSome_some]
    · rw [valV_neg e, decide_eq_false e, Bool.false_or]; exact valV_any k r
theorem length_putK (kvs : List (κ × V)) (k : κ) (v : V) : (putK kvs k v).length ≤ kvs.length + 1 := by
  unfold putK
  split
  · rw [List.length_map]; omega
  · rw [List.length_append, List.length_cons, List.length_nil]; omega
theorem putK_new {kvs : List (κ × V)} {k : κ} (v : V) (h : valV kvs k = none) : putK kvs k v = kvs ++ [(k, v)] := by
  unfold putK
  rw [valV_any, h]
  exact if_neg (by decide)

theorem RelO.isSome_eq {o : Option V} {u : Option Value} (r : RelO o u) : o.isSome = u.isSome := by
  cases o with
  | none => cases u with
    | none => rfl
    | some _ => exact (show False from r).elim
  | some _ => cases u with
    | none => exact (show False from r).elim
    | some _ => rfl
theorem RelO.getD {o : Option V} {u : Option Value} {d : V} {d' : Value} (r : RelO o u) (rd : RelV d d') : RelV (o.getD d) (u.getD d') := by
  cases o with
  | none => cases u with
    | none => exact rd
    | some _ => exact (show False from r).elim
  | some _ => cases u with
    | none => exact (show False from r).elim
    | some _ => exact r

/-- raw tables of the same keys -/
theorem KV.val {kvs : List (κ × V)} {vs : List (κ × Value)} (r : KV kvs vs) (k : κ) : RelO (valV kvs k) (valueAt vs k) := by
  unfold KV at r
  induction r with
  | nil => exact True.intro
  | @cons p q ps qs h t ih =>
    obtain ⟨h1, h2⟩ := h
    by_cases e : p.1 = k
    · have e' : q.1 = k := h1.symm.trans e
      have b : valueAt (q :: qs) k = some q.2 := by simp [valueAt, List.find?_cons, e']
      rw [valV_pos e, b]; exact h2
    · have e' : ¬ q.1 = k := fun z => e (h1.trans z)
      have b : valueAt (q :: qs) k = valueAt qs k := by simp [valueAt, List.find?_cons, e']
      rw [valV_neg e, b]; exact ih
theorem KV.any {kvs : List (κ × V)} {vs : List (κ × Value)} (r : KV kvs vs) (k : κ) : (kvs.any fun kv => decide (kv.1 = k)) = vs.any fun kv => decide (kv.1 = k) := by
  unfold KV at r
  induction r with
  | nil => rfl
  | cons h t ih => rw [List.any_cons, List.any_cons, ih, h.1]
theorem KV.repl {kvs : List (κ × V)} {vs : List (κ × Value)} (r : KV kvs vs) (k : κ) {y : V} {u : Value} (ry : RelV y u) :
    KV (kvs.map fun kv => if kv.1 = k then (kv.1, y) else kv) (vs.map fun kv => if kv.1 = k then (kv.1, u) else kv) := by
  unfold KV at r ⊢
  induction r with
  | nil => exact .nil
  | @cons p q ps qs h t ih =>
    rw [List.map_cons, List.map_cons]
    refine .cons ?_ ih
    obtain ⟨h1, h2⟩ := h
    by_cases e : p.1 = k
    · rw [if_pos e, if_pos (h1.symm.trans e)]; exact ⟨h1, ry⟩
    · rw [if_neg e, if_neg (fun z => e (h1.trans z))]; exact ⟨h1, h2⟩
theorem KV.put {kvs : List (κ × V)} {vs : List (κ × Value)} (r : KV kvs vs) (k : κ) {y : V} {u : Value} (ry : RelV y u) : KV (putK kvs k y) (stored vs k u) := by
  unfold putK stored
  rw [r.any k]
  by_cases e : (vs.any fun kv => decide (kv.1 = k)) = true
  · rw [if_pos e, if_pos e]; exact r.repl k ry
  · rw [if_neg e, if_neg e]; exact Paired.snoc r ⟨rfl, ry⟩
theorem KV.drop {kvs : List (κ × V)} {vs : List (κ × Value)} (r : KV kvs vs) (k : κ) : KV (dropK kvs k) (without vs k) := by
  unfold KV at r ⊢
  unfold dropK without
  induction r with
  | nil => exact .nil
  | @cons p q ps qs h t ih =>
    obtain ⟨h1, h2⟩ := h
    rw [List.filter_cons, List.filter_cons]
    by_cases e : p.1 = k
    · have a : ¬ decide (p.1 ≠ k) = true := by simp [e]
      have b : ¬ decide (q.1 ≠ k) = true := by simp [h1.symm.trans e]
      rw [if_neg a, if_neg b]; exact ih
    · have e' : ¬ q.1 = k := fun z => e (h1.trans z)
      have a : decide (p.1 ≠ k) = true := by simp [e]
      have b : decide (q.1 ≠ k) = true := by simp [e']
      rw [if_pos a, if_pos b]; exact .cons ⟨h1, h2⟩ ih
theorem KV.keys {kvs : List (κ × V)} {vs : List (κ × Value)} (r : KV kvs vs) : kvs.map (·.1) = vs.map (·.1) := by
  unfold KV at r
  induction r with
  | nil => rfl
  | cons h t ih => rw [List.map_cons, List.map_cons, ih, h.1]
theorem KV.length {kvs : List (κ × V)} {vs : List (κ × Value)} (r : KV kvs vs) : kvs.length = vs.length := Paired.length r
end


theorem kV_is {P : Program} {w : World} {k : Key} {u : Value} (r : RelV (kV k) u) : (mixKind P w).is k u = true := by
  cases k with
  | inl i => obtain ⟨t, e⟩ := (show ∃ t, u = Value.int i t from r); subst e; exact mixKind_int P w i t
  | inr x => obtain ⟨t, e⟩ := (show ∃ t, u = Value.str x t from r); subst e; exact mixKind_str P w x t
theorem items_are {P : Program} {w : World} : ∀ {ks : List Key} {us : List Value}, Vals (ks.map kV) us → ItemsAre (mixKind P w) ks us
  | [], _, r => by rw [List.map_nil] at r; cases r; exact .nil
  | k :: ks, _, r => by
    rw [List.map_cons] at r
    cases r with
    | cons h t => exact .cons (kV_is h) (items_are t)

/-- raw entries of a dict with tuple keys -/
abbrev KT (H : Hp) : List (List Key × V) → List (List Key × Addr × Value) → Prop := Paired fun p q => p.1 = q.1 ∧ H q.2.1 = some (.tup (p.1.map kV)) ∧ RelV p.2 q.2.2
theorem KT.val {H : Hp} {kvs : List (List Key × V)} {xs : List (List Key × Addr × Value)} (r : KT H kvs xs) (k : List Key) : RelO (valV kvs k) ((atKey xs k).map (·.2)) := by
  induction r with
  | nil => exact True.intro
  | @cons p q ps qs h t ih =>
    obtain ⟨h1, _, h2⟩ := h
    by_cases e : p.1 = k
    · have e' : q.1 = k := h1.symm.trans e
      have b : atKey (q :: qs) k = some q.2 := by simp [atKey, List.find?_cons, e']
      rw [valV_pos e, b]; exact h2
    · have e' : ¬ q.1 = k := fun z => e (h1.trans z)
      have b : atKey (q :: qs) k = atKey qs k := by simp [atKey, List.find?_cons, e']
      rw [valV_neg e, b]; exact ih
theorem KT.repl {H : Hp} {kvs : List (List Key × V)} {xs : List (List Key × Addr × Value)} (r : KT H kvs xs) (k : List Key) {y : V} {u : Value} (ry : RelV y u) :
    KT H (kvs.map fun kv => if kv.1 = k then (kv.1, y) else kv) (xs.map (putAt k u)) := by
  induction r with
  | nil => exact .nil
  | @cons p q ps qs h t ih =>
    rw [List.map_cons, List.map_cons]
    refine .cons ?_ ih
    obtain ⟨h1, h2, h3⟩ := h
    unfold putAt
    by_cases e : p.1 = k
    · rw [if_pos e, if_pos (h1.symm.trans e)]; exact ⟨h1, h2, ry⟩
    · rw [if_neg e, if_neg (fun z => e (h1.trans z))]; exact ⟨h1, h2, h3⟩
theorem KT.put {H : Hp} {kvs : List (List Key × V)} {xs : List (List Key × Addr × Value)} (r : KT H kvs xs) (k : List Key) {b : Addr} {y : V} {u : Value} (hb : H b = some (.tup (k.map kV))) (ry : RelV y u) :
    KT H (putK kvs k y) (storedH xs k b u) := by
  have e : (kvs.any fun kv => decide (kv.1 = k)) = (atKey xs k).isSome := by
    rw [valV_any, (r.val k).isSome_eq, Option.isSome_map]
  unfold putK storedH
  rw [e]
  by_cases q : (atKey xs k).isSome = true
  · rw [if_pos q, if_pos q]; exact r.repl k ry
  · rw [if_neg q, if_neg q]; exact Paired.snoc r ⟨rfl, hb, ry⟩
theorem KT.keeps {H H' : Hp} {kvs : List (List Key × V)} {xs : List (List Key × Addr × Value)} (r : KT H kvs xs) (ht : ∀ b ys, H b = some (.tup ys) → H' b = some (.tup ys)) : KT H' kvs xs :=
  Paired.mapP r fun _ _ z => ⟨z.1, ht _ _ z.2.1, z.2.2⟩

section
variable {P : Program} {w : World} {H : Hp} {h : Heap} {a : Addr}
theorem rd_of {u : HO} (ok : HOk P w H h) (e : Rd H a u) : ObjOk P w H h a u := e.ok ok
theorem dk_rd {kvs : List (Key × V)} (ok : HOk P w H h) (e : Rd H a (.dK kvs)) : kvs.length ≤ sizeLine ∧ (a == sysModules) = false ∧ ∃ vs, KV kvs vs ∧ h.DictOf (mixKind P w) a vs :=
  show ObjOk P w H h a (.dK kvs) from rd_of ok e
theorem dk_of {kvs : List (Key × V)} (ok : HOk P w H h) (e : H a = some (.dK kvs)) : kvs.length ≤ sizeLine ∧ (a == sysModules) = false ∧ ∃ vs, KV kvs vs ∧ h.DictOf (mixKind P w) a vs := dk_rd ok (.inl e)
/-- a tracked tuple of ints and texts is a key -/
theorem key_of {ks : List Key} (ok : HOk P w H h) (e : H a = some (.tup (ks.map kV))) : (tupleKind (mixKind P w)).is h ks a := by
  obtain ⟨_, its, r, o, h1, h2, n, h3⟩ := (show ObjOk P w H h a (.tup (ks.map kV)) from ok a _ e)
  exact ⟨o, its.toArray, n, h1, h2, h3, by simpa using items_are r⟩
theorem dt_rd {kvs : List (List Key × V)} (ok : HOk P w H h) (e : Rd H a (.dT kvs)) : kvs.length ≤ sizeLine ∧ (a == sysModules) = false ∧
    ∃ xs, KT H kvs xs ∧ h.DictOfH (tupleKind (mixKind P w)) a xs := by
  obtain ⟨z, y, xs, r, o, es, ep, h1, h2, h3, h4, h5⟩ := (show ObjOk P w H h a (.dT kvs) from rd_of ok e)
  refine ⟨z, y, xs, r, o, es, ep, h1, h2, h3, h4, fun x hx => ?_, h5⟩
  have all : ∀ {l : List (List Key × V)} {m : List (List Key × Addr × Value)}, KT H l m → ∀ x ∈ m, (tupleKind (mixKind P w)).is h x.1 x.2.1 := by
    intro l m q
    induction q with
    | nil => intro x hx; exact nomatch hx
    | @cons p q ps qs hq t ih =>
      intro x hx
      rcases List.mem_cons.mp hx with e | hx
      · subst e
        exact key_of ok (by rw [← hq.1]; exact hq.2.1)
      · exact ih x hx
  exact all r x hx
theorem dt_of {kvs : List (List Key × V)} (ok : HOk P w H h) (e : H a = some (.dT kvs)) : kvs.length ≤ sizeLine ∧ (a == sysModules) = false ∧
    ∃ xs, KT H kvs xs ∧ h.DictOfH (tupleKind (mixKind P w)) a xs := dt_rd ok (.inl e)
end

/-- what the dict at a holds at the key y -/
def DGet (H : Hp) (a : Addr) (y : V) (r : Option V) : Prop :=
  (∃ kvs k, Rd H a (.dK kvs) ∧ y = kV k ∧ r = valV kvs k) ∨ ∃ kvs k b, Rd H a (.dT kvs) ∧ y = .ref b ∧ H b = some (.tup (k.map kV)) ∧ r = valV kvs k
/-- the heap behind a[y] = v -/
def DPut (H : Hp) (a : Addr) (y v : V) (H' : Hp) : Prop :=
  (∃ kvs k, H a = some (.dK kvs) ∧ y = kV k ∧ kvs.length < sizeLine ∧ H' = upd H a (.dK (putK kvs k v))) ∨
  ∃ kvs k b, H a = some (.dT kvs) ∧ y = .ref b ∧ H b = some (.tup (k.map kV)) ∧ kvs.length < sizeLine ∧ H' = upd H a (.dT (putK kvs k v))
theorem DGet.k {H : Hp} {a : Addr} {kvs : List (Key × V)} {k : Key} (e : H a = some (.dK kvs)) : DGet H a (kV k) (valV kvs k) := .inl ⟨kvs, k, .inl e, rfl, rfl⟩
theorem DGet.t {H : Hp} {a b : Addr} {kvs : List (List Key × V)} {k : List Key} (e : H a = some (.dT kvs)) (eb : H b = some (.tup (k.map kV))) : DGet H a (.ref b) (valV kvs k) := .inr ⟨kvs, k, b, .inl e, rfl, eb, rfl⟩
theorem DPut.k {H : Hp} {a : Addr} {kvs : List (Key × V)} {k : Key} {v : V} (e : H a = some (.dK kvs)) (hl : kvs.length < sizeLine) : DPut H a (kV k) v (upd H a (.dK (putK kvs k v))) := .inl ⟨kvs, k, e, rfl, hl, rfl⟩
theorem DPut.t {H : Hp} {a b : Addr} {kvs : List (List Key × V)} {k : List Key} {v : V} (e : H a = some (.dT kvs)) (eb : H b = some (.tup (k.map kV))) (hl : kvs.length < sizeLine) :
    DPut H a (.ref b) v (upd H a (.dT (putK kvs k v))) := .inr ⟨kvs, k, b, e, rfl, eb, hl, rfl⟩


section
variable {X : Cx} {pins : List (Addr × Obj)} {σ : St} {H : Hp} {s : Shared} {a : Addr} {y v : V} {u r : Value} {o : Option V} {A : Around} {E : Value → Shared → Prop}

theorem Inv.big (I : Inv X pins σ H s) : sysModules < s.heap.objs.size := by
  have h : mainGlobals < s.heap.objs.size := (I.mod.glob.keeps I.bk).lt
  exact Nat.lt_trans (by decide) h

/-- d[y], there -/
theorem d_getItem {Q : Value → Shared → Prop} (hu : A.units + 1 < cLine) (I : Inv X pins σ H s) (g : DGet H a y (some v)) (ry : RelV y u) (h : ∀ w' s', Inv X pins σ H s' → RelV v w' → Q w' s') :
    wpAny (model X.prog X.w) A (getItem (.ref a) u) Q E s := by
  rcases g with ⟨kvs, k, e, ey, l⟩ | ⟨kvs, k, b, e, ey, eb, l⟩
  · subst ey
    obtain ⟨z, hd, vs, rel, dd⟩ := dk_rd I.hok e
    obtain ⟨w', hw, rw'⟩ := RelO.some_of (v := v) (o := valueAt vs k) (by rw [l]; exact rel.val k)
    exact wpAny_getItem_of (kV_is ry) dd.mapOf hw (h w' _ (I.tok _) rw')
  · subst ey
    cases (show u = Value.ref b from ry)
    obtain ⟨z, hd, xs, rel, dd⟩ := dt_rd I.hok e
    obtain ⟨w', hw, rw'⟩ := RelO.some_of (v := v) (o := (atKey xs k).map (·.2)) (by rw [l]; exact rel.val k)
    obtain ⟨p, hp, hp2⟩ := Option.map_eq_some_iff.mp hw
    refine wpAny_getItem_heap (tupleKind_room_in1 hu) (key_of I.hok eb) dd hp ?_
    rw [hp2]
    exact h w' _ (I.tok _) rw'
/-- a dict's object is replaced -/
theorem d_write {h' : Heap} {t' : Nat} {ob : HO} (I : Inv X pins σ H s) (mu : Mut (H a)) (hs : Heap.SameBut a s.heap h') (he : ∃ q, h'.get? a = some q) (new : ObjOk X.prog X.w (upd H a ob) h' a ob) :
    Inv X pins σ (upd H a ob) { s with heap := h', toks := t' } :=
  I.write (x := a) (e := a) mu (.inl rfl) (fun b q hb z => (hs.2 b hb).trans z) he new
theorem dk_new {P : Program} {w : World} {H' : Hp} {h' : Heap} {kvs : List (Key × V)} {vs : List (Key × Value)} (z : kvs.length ≤ sizeLine) (hd : (a == sysModules) = false) (rel : KV kvs vs) (dd : h'.DictOf (mixKind P w) a vs) :
    ObjOk P w H' h' a (.dK kvs) := ⟨z, hd, vs, rel, dd⟩
/-- d[y] = v -/
theorem d_setItem {H' : Hp} {Q : Unit → Shared → Prop} (hu : A.units + 1 < cLine) (I : Inv X pins σ H s) (g : DPut H a y v H') (ry : RelV y u) (rv : RelV v r) (h : ∀ s', Inv X pins σ H' s' → Q () s') :
    wpAny (model X.prog X.w) A (setItem (.ref a) u r) Q E s := by
  rcases g with ⟨kvs, k, e, ey, l, eH⟩ | ⟨kvs, k, b, e, ey, eb, l, eH⟩
  · subst ey eH
    obtain ⟨z, hd, vs, rel, dd⟩ := dk_of I.hok e
    have hz : vs.length ≤ sizeLine := by rw [← rel.length]; exact z
    have hl : (putK kvs k v).length ≤ sizeLine := by have := length_putK kvs k v; omega
    refine wpAny_setItem_pairs (hsz := hz) (kV_is ry) dd fun h' dd' hs => h _ ?_
    have he : ∃ q, h'.get? a = some q := let ⟨q, _, _, hq, _⟩ := dd'; ⟨q, hq⟩
    exact d_write I (by rw [e]; exact True.intro) hs he (dk_new hl hd (rel.put k rv) dd')
  · subst ey eH
    cases (show u = Value.ref b from ry)
    obtain ⟨z, hd, xs, rel, dd⟩ := dt_of I.hok e
    have hz : xs.length ≤ sizeLine := by rw [← Paired.length rel]; exact z
    have hl : (putK kvs k v).length ≤ sizeLine := by have := length_putK kvs k v; omega
    refine wpAny_setItem_heap (hsz := hz) (tupleKind_room_in1 hu) (key_of I.hok eb) dd fun h' dd' hs => h _ ?_
    obtain ⟨q, es, ep, hq, h2, h3, h4, _, h5⟩ := dd'
    refine d_write I (by rw [e]; exact True.intro) hs ⟨q, hq⟩ ⟨hl, hd, _, (rel.put k eb rv).keeps fun c ys ec => ?_, q, es, ep, hq, h2, h3, h4, h5⟩
    rw [upd_ne (ne_of ec e (fun z => nomatch z))]
    exact ec
end

section
variable {X : Cx} {pins : List (Addr × Obj)} {σ : St} {H : Hp} {s : Shared} {a : Addr} {kvs : List (Key × V)} {k : Key} {u : Value} {A : Around} {E : Value → Shared → Prop}
end


/-- the element of a subscription, not a slice -/
def NoSl (i : Expr) : Prop := ∀ ov iv, subscripted i false ov iv = operate [ov, iv] (getItem ov iv)
theorem subD_of {prog : Program} {w : World} {A : Around} {E : Value → Shared → Prop} {s : Shared} {env : Env} {value slice : Expr} {pos : Pos} {T id : String} {Q : Value → Shared → Prop}
    (hl : typeLookup (.type T) "__getitem__" = pure (some (.builtin id))) (hs : NoSl slice)
    (h : wpAny (model prog w) A (eval value env) (fun o s₁ => wpAny (model prog w) A (eval slice env) (fun i s₂ => s₂.TypeIs o T ∧ wpAny (model prog w) A (getItem o i) Q E s₂) E s₁) E s) :
    wpAny (model prog w) A (eval (.Subscript value slice pos) env) Q E s := by
  refine Subscript_ (wpAny_mono h (fun o s₁ h₁ => wpAny_mono h₁ (fun i s₂ h₂ => ?_) fun _ _ x => x) fun _ _ x => x)
  obtain ⟨hT, h₂⟩ := h₂
  unfold subscriptTail
  refine wpAny_bind ?_
  rw [getitemInPython_of_ne hT.not_modules]
  refine wpAny_bind (wpAny_specialOf hT hl ?_)
  have fin : wpAny (model prog w) A (subscripted slice false o i) (fun r s₃ => wpAny (model prog w) A (letTemporaryGo value o r >>= fun _ => pure r) Q E s₃) E s₂ := by
    rw [hs o i]
    exact wpAny_operating (wpAny_mono h₂ (fun r s₃ h₃ => wpAny_bind (wpAny_letTemporaryGo (wpAny_pure h₃))) fun _ _ x => x)
  first
    | exact wpAny_pure (wpAny_bind fin)
    | exact wpAny_bind (wpAny_pure (wpAny_bind fin))
    | exact wpAny_bind fin

theorem dict_typeIs {X : Cx} {pins : List (Addr × Obj)} {σ : St} {H : Hp} {s : Shared} {a : Addr} {y : V} {o : Option V} (I : Inv X pins σ H s) (g : DGet H a y o) : s.TypeIs (.ref a) "dict" := by
  rcases g with ⟨kvs, k, e, _, _⟩ | ⟨kvs, k, b, e, _, _, _⟩
  · obtain ⟨_, _, vs, _, dd⟩ := dk_rd I.hok e
    exact dd.typeIs
  · obtain ⟨_, _, xs, _, dd⟩ := dt_rd I.hok e
    exact dd.typeIs
/-- d[y] -/
def tDGet (td ty : TE) : TE := fun σ H Q => td σ H fun x H1 => ty σ H1 fun y H2 => ∃ a v, x = .ref a ∧ DGet H2 a y (some v) ∧ Q v H2
/-- d[y] = v -/
def sDPut (td ty tv : TE) : TS := fun D σ H => tv σ H fun v H1 => td σ H1 fun x H2 => ty σ H2 fun y H3 => ∃ a H4, x = .ref a ∧ DPut H3 a y v H4 ∧ D.nx σ H4
section
variable {X : Cx} {o i e value : Expr} {pos pos' tpos : Pos} {td ty tv : TE}
theorem pe_dget (hu : X.A.units + 1 < cLine) (ho : PE X o td) (hi : PE X i ty) (hs : NoSl i) : PE X (.Subscript o i pos) (tDGet td ty) := by
  intro pins s σ H Q I h
  refine subD_of PySem.F.slot_dict_getitem.lookup hs (thn (ho pins s σ H _ I h) fun u s1 ⟨x, H1, I1, rx, q1⟩ => thn (hi pins s1 σ H1 _ I1 q1) fun iv s2 ⟨y, H2, I2, ry, a, v, ex, g, q2⟩ => ?_)
  subst ex
  obtain rfl : u = Value.ref a := rx
  exact ⟨dict_typeIs I2 g, d_getItem hu I2 g ry fun w' s3 I3 rw' => ⟨v, H2, I3, rw', q2⟩⟩
theorem ps_dput (hu : X.A.units + 1 < cLine) (ho : PE X o td) (hi : PE X i ty) (hv : PE X value tv) (hs : swapsWith value (some (.Subscript o i pos')) pos.line X.env = pure false) :
    PS X (.Assign [.Subscript o i pos'] value pos) (sDPut td ty tv) := by
  intro pins s σ H D I h
  refine wpAny_Assign_Subscript (thn (hv pins s σ H _ I h) fun r s1 ⟨v, H1, I1, rv, q1⟩ => thn (ho pins s1 σ H1 _ I1 q1) fun u s2 ⟨x, H2, I2, rx, q2⟩ => thn (hi pins s2 σ H2 _ I2 q2) fun iv s3 ⟨y, H3, I3, ry, a, H4, ex, g, q3⟩ => ?_) hs
  subst ex
  obtain rfl : u = Value.ref a := rx
  exact d_setItem hu I3 g ry rv fun s4 I4 => ⟨σ, H4, I4, q3⟩
end


theorem dk_empty {P : Program} {w : World} {H : Hp} (h : Heap) (hb : sysModules < h.objs.size) : ObjOk P w H (h.push { cls := .type "dict", data := .dict #[] }) h.objs.size (.dK []) :=
  ⟨Nat.zero_le _, beq_eq_false_iff_ne.mpr (Ne.symm (Nat.ne_of_lt hb)), [], .nil, Heap.DictOf.new h⟩
section
variable {X : Cx} {pos : Pos}
end

/-- the pairs of a display, from the left -/
def tPairs : List (TE × TE) → St → Hp → (List (V × V) → Hp → Prop) → Prop
  | [], _, H, Q => Q [] H
  | (tk, tv) :: r, σ, H, Q => tk σ H fun x H1 => tv σ H1 fun y H2 => tPairs r σ H2 fun ps H3 => Q ((x, y) :: ps) H3
abbrev VV : List (V × V) → List (Value × Value) → Prop := Paired fun p q => RelV p.1 q.1 ∧ RelV p.2 q.2
def PPs (X : Cx) (pos : Pos) (keys : List (Option Expr)) (values : List Expr) (trs : List (TE × TE)) : Prop :=
  ∀ (pins : List (Addr × Obj)) (s : Shared) (σ : St) (H : Hp) (Q : List (V × V) → Hp → Prop), Inv X pins σ H s → tPairs trs σ H Q →
    wpAny (model X.prog X.w) X.A (evalPairs (pairTrees keys values X.env pos)) (fun vs s' => ∃ ps H', Inv X pins σ H' s' ∧ VV ps vs ∧ Q ps H') X.xe s
theorem pps_nil {X : Cx} {pos : Pos} : PPs X pos [] [] [] := fun pins s σ H Q I h => pairTrees_nil_walk ⟨[], H, I, .nil, h⟩
theorem pps_cons {X : Cx} {pos : Pos} {k v : Expr} {ks : List (Option Expr)} {vs : List Expr} {tk tv : TE} {trs : List (TE × TE)} (hk : PE X k tk) (hv : PE X v tv) (hr : PPs X pos ks vs trs) :
    PPs X pos (some k :: ks) (v :: vs) ((tk, tv) :: trs) := fun pins s σ H Q I h =>
  pairTrees_cons_walk (thn (hk pins s σ H _ I h) fun u s1 ⟨x, H1, I1, rx, q1⟩ => thn (hv pins s1 σ H1 _ I1 q1) fun w2 s2 ⟨y, H2, I2, ry, q2⟩ =>
    thn (hr pins s2 σ H2 _ I2 q2) fun ws s3 ⟨ps, H3, I3, rel, q3⟩ => ⟨(x, y) :: ps, H3, I3, .cons ⟨rx, ry⟩ rel, q3⟩)

def mergeK (kvs more : List (Key × V)) : List (Key × V) := more.foldl (fun acc kv => putK acc kv.1 kv.2) kvs
theorem KV.merge : ∀ {more : List (Key × V)} {rs : List (Key × Value)} {kvs : List (Key × V)} {vs : List (Key × Value)}, KV more rs → KV kvs vs → KV (mergeK kvs more) (merged vs rs) := by
  intro more rs kvs vs r
  unfold KV at r
  induction r generalizing kvs vs with
  | nil => intro q; exact q
  | @cons p q ps qs h t ih =>
    intro r0
    have e : KV (putK kvs p.1 p.2) (stored vs q.1 q.2) := by
      have := r0.put p.1 h.2
      rw [← h.1]; exact this
    exact ih e
theorem length_mergeK : ∀ (more kvs : List (Key × V)), (mergeK kvs more).length ≤ kvs.length + more.length
  | [], kvs => by show kvs.length ≤ kvs.length + 0; omega
  | p :: r, kvs => by
    have h1 := length_mergeK r (putK kvs p.1 p.2)
    have h2 := length_putK kvs p.1 p.2
    show (mergeK (putK kvs p.1 p.2) r).length ≤ _
    rw [List.length_cons]; omega
theorem carries_of {P : Program} {w : World} : ∀ {kvs : List (Key × V)} {ws : List (Value × Value)}, VV (kvs.map fun kv => (kV kv.1, kv.2)) ws → ∃ rs, Carries (mixKind P w) ws rs ∧ KV kvs rs
  | [], _, r => by rw [List.map_nil] at r; cases r; exact ⟨[], True.intro, .nil⟩
  | p :: kvs, _, r => by
    rw [List.map_cons] at r
    cases r with
    | @cons a b as bs h t =>
      obtain ⟨rs, c, q⟩ := carries_of (P := P) (w := w) t
      obtain ⟨b1, b2⟩ := b
      exact ⟨(p.1, b2) :: rs, ⟨kV_is h.1, rfl, c⟩, .cons ⟨rfl, h.2⟩ q⟩
/-- {k: v, ..} with keys ints and texts; the new dict stands empty while the pairs are made -/
def tDisp (trs : List (TE × TE)) : TE := fun σ H Q => ∀ p, H p = none → tPairs trs σ (upd H p (.dK [])) fun ps H2 => H2 p = some (.dK []) ∧ ∃ kvs : List (Key × V), ps = kvs.map (fun kv => (kV kv.1, kv.2)) ∧ kvs.length ≤ 15 ∧ Q (.ref p) (upd H2 p (.dK (mergeK [] kvs)))
theorem pe_disp {X : Cx} {pos : Pos} {keys : List (Option Expr)} {values : List Expr} {trs : List (TE × TE)} (h : PPs X pos keys values trs) (hall : keys.all (·.isSome) = true) (hl : keys.length = values.length) (h0 : keys ≠ [])
    (h15 : keys.length ≤ 15) : PE X (.Dict keys values pos) (tDisp trs) := by
  intro pins s σ H Q I q
  have hn := I.hok.fresh (Nat.le_refl s.heap.objs.size)
  have I1 := I.laid (a := s.heap.objs.size) (o := .dK []) (h' := s.heap.push { cls := .type "dict", data := .dict #[] }) (t' := s.toks) (fun _ _ q => Heap.get?_push_of_some _ q) (Nat.le_refl _) (dk_empty s.heap I.big)
  refine wpAny_Dict_walk (knd := mixKind X.prog X.w) hall hl h0 h15 (thn (h pins _ σ _ _ I1 (q _ hn)) fun ws s2 ⟨ps, H2, I2, rel, e, kvs, ep, lk, q2⟩ => ?_)
  subst ep
  obtain ⟨rs, c, rk⟩ := carries_of (P := X.prog) (w := X.w) rel
  obtain ⟨z, hd, vs0, r0, dd⟩ := dk_of I2.hok e
  cases r0
  refine ⟨rs, c, dd, fun h' dd' hs => ⟨.ref s.heap.objs.size, _, ?_, rfl, q2⟩⟩
  have hz : (mergeK [] kvs).length ≤ sizeLine := by
    have h1 := length_mergeK kvs []
    rw [List.length_nil] at h1
    rw [sizeLine_eq]; omega
  have he : ∃ q, h'.get? s.heap.objs.size = some q := let ⟨q, _, _, hq, _⟩ := dd'; ⟨q, hq⟩
  exact d_write I2 (by rw [e]; exact True.intro) hs he (dk_new hz hd (rk.merge .nil) dd')


/-- a method call o.m(e) of a built-in, with one argument: what must be seen of the text -/
structure M1 (X : Cx) (o : Expr) (m : Str) (apos : Pos) (e : Expr) (cpos : Pos) : Prop where
  base : attributeBase o m X.env (eval o X.env) = eval o X.env
  few : ((backTo cpos (starEach [e] X.env)).all (fun x => !x.1) && (backToKw cpos (keywordEach [] X.env)).all (fun x => x.1.isSome)
    && decide (([e] : List Expr).length + ([] : List Keyword).length + (if ([] : List Keyword).isEmpty then 0 else 1) < 30)) = true
  line : (apos.endLine == cpos.line) = true
  trees : backTo cpos (starEach [e] X.env) = [(false, eval e X.env)]
structure M2 (X : Cx) (o : Expr) (m : Str) (apos : Pos) (e f : Expr) (cpos : Pos) : Prop where
  base : attributeBase o m X.env (eval o X.env) = eval o X.env
  few : ((backTo cpos (starEach [e, f] X.env)).all (fun x => !x.1) && (backToKw cpos (keywordEach [] X.env)).all (fun x => x.1.isSome)
    && decide (([e, f] : List Expr).length + ([] : List Keyword).length + (if ([] : List Keyword).isEmpty then 0 else 1) < 30)) = true
  line : (apos.endLine == cpos.line) = true
  trees : backTo cpos (starEach [e, f] X.env) = [(false, eval e X.env), (false, eval f X.env)]

section
variable {X : Cx} {pins : List (Addr × Obj)} {σ : St} {H : Hp} {s : Shared} {a : Addr} {y d : V} {u r : Value} {o : Option V} {A : Around} {E : Value → Shared → Prop}
end

section
variable {X : Cx} {o e f : Expr} {apos cpos : Pos} {td ty tx : TE}
end

section
variable {X : Cx} {pins : List (Addr × Obj)} {σ : St} {H : Hp} {s : Shared} {a : Addr} {kvs : List (Key × V)} {A : Around} {E : Value → Shared → Prop}
end


section
variable {X : Cx} {pins : List (Addr × Obj)} {σ : St} {H : Hp} {s : Shared} {a : Addr} {y : V} {u : Value} {A : Around} {E : Value → Shared → Prop}
end
end L2

namespace Att
open PySem PySem.W PySem.Calls PyProof.Rows

theorem ints_of_wellAll {P : Params} {h : Heap} : ∀ (ns : List Int) (vs : List Value), WellAll P h vs (ns.map WData.int) → IntsAre vs ns := by
  intro ns
  induction ns with
  | nil =>
    intro vs w
    rw [List.map_nil] at w
    cases w
    exact .nil
  | cons n ns ih =>
    intro vs w
    rw [List.map_cons] at w
    cases w with
    | cons a b =>
      cases a
      exact .cons _ _ (ih _ b)

theorem script_of {l : OpenLaw} {n : Nat} (hn : l.most = some n) {P : Params} {h : Heap} {args : List WData} {vals : List Value}
    (hpre : l.row.toRowW.claim.pre args = true) (hwl : WellAll P h vals args) :
    ∃ a vs ns, vals = [Value.ref a] ∧ args = [WData.list (ns.map WData.int)] ∧ h.get? a = some { cls := .type "list", data := .seq vs.toArray } ∧ IntsAre vs ns ∧ ns.length ≤ n := by
  have hsh : WShape.hasAll [] args [.list .int] = true := (pre_splitW hpre).1
  have hc : l.pre.holds [] { args := args } = true := (pre_splitW hpre).2
  obtain ⟨d, r, rfl, h1, h2⟩ := hasAllW_cons hsh
  obtain rfl := hasAllW_nil h2
  obtain ⟨xs, rfl, h3⟩ := hasW_list h1
  obtain ⟨ns, rfl⟩ := items_int h3
  have hlen : ns.length ≤ n := by
    unfold OpenLaw.pre at hc
    have h4 : (WTm.not (.lt (.lit (.int (n : Int))) (.len (.arg 0)))).holds [] { args := [.list (ns.map .int)] } = true := by
      have h4 := (holds_andW hc).1
      rw [hn] at h4
      exact h4
    have h5 := condW_of h4 (w_not (w_lt w_lit (w_len_list (w_arg rfl))))
    rw [List.length_map] at h5
    refine Nat.le_of_not_lt fun q => ?_
    have q' : (n : Int) < ((ns.length : Nat) : Int) := by omega
    first
      | (rw [decide_eq_true q'] at h5; exact absurd h5 (by decide))
      | (simp at h5; omega)
  cases hwl with
  | cons w1 w2 =>
    cases w2
    cases w1 with
    | list ho hall => exact ⟨_, _, ns, rfl, rfl, ho, ints_of_wellAll ns _ hall, hlen⟩

theorem post_true (l : OpenLaw) (args : List WData) : l.row.toRowW.claim.post args (.bool true) args = true :=
  postW_of (r := l.row.toRowW) (X := (true == true))
    (show WShape.has [] (.bool true) .bool = true by first | rfl | decide | simp [WShape.has, WShape.arms, WShape.armsAll])
    (show (WTm.eq .res (.lit (.bool true))).value [] { args := args, res := some (.bool true), after := args } = some (.bool (true == true)) from w_eq_bool (w_res rfl) w_lit) rfl

/-- the same from a codeAny of the CALL (for a layer whose function contracts speak of calls) -/
theorem attach_call {l : OpenLaw} {n : Nat} {q : Program} {loose : List Str} {XP : (Str → Option Value) → Heap → Prop} {YP : World → Heap → Prop} {d : DefRec}
    (hn : l.most = some n) (hdf : d.params.defaults = [])
    (call : ∀ (w : World) (s₀ s₁ : Shared) (mg mb : Str → Option Value) (fa : Addr) (o : Obj) (pm cd doc : Value) (a : Addr) (vs : List Value) (ns : List Int),
      Ground q loose [] XP w s₀ mg mb s₁.heap → YP w s₁.heap →
      s₁.heap.get? fa = some o → o.data = .func (docDef d.name d.params d.body d.scope pm cd doc) → s₁.heap.CodeRec cd d.name → mg d.name = some (.ref fa) →
      s₁.heap.get? a = some { cls := .type "list", data := .seq vs.toArray } → IntsAre vs ns → ns.length ≤ n → s₁.gens = #[] →
      codeAny (model l.prog w) callerA (.call (.ref fa) ⟨[.ref a], []⟩) (fun r s' => r = .ok (.ret (.bool true)) ∧ OldK s₁.heap s'.heap ∧ s'.os = s₁.os ∧ AllBare s'.gens) s₁) :
    WalkO q loose XP YP l.row.toRowW d [] (fun f vs => PySem.call f vs) := by
  intro w s₀ s₁ mg mb G Y fa o pm cd doc dV kV ho hd hcd hD hmg hg args vals as hpre hlay hrd hwl hlo
  obtain rfl : dV = .none := Dflts.none hD hdf
  obtain rfl : kV = .none := Dflts.noKw hD
  obtain ⟨a, vs, ns, rfl, rfl, hobj, hints, hlen⟩ := script_of hn hpre hwl
  refine enter_call (codeAny_mono (call w s₀ s₁ mg mb fa o pm cd doc a vs ns G Y ho (fd_plain hd) hcd hmg hobj hints hlen hg) fun r s' hq => ?_)
  obtain ⟨rfl, h2, h3, h4⟩ := hq
  exact ⟨.inl ⟨.bool true, .bool true, [], rfl, fun _ => rfl, .bool true, post_true l _, fun _ => ⟨List.Pairwise.nil, fun _ hm => (nomatch hm)⟩⟩, h2, h3, h4⟩

section
variable {prog : Program} {w : World} {A : Around} {E : Value → Shared → Prop} {s : Shared} {K : Frag}

end
end Att

namespace L2
open PySem PySem.Spec PyProof.Rows

theorem vals_ints : ∀ {vs : List Value} {ns : List Int}, IntsAre vs ns → Vals (ns.map V.int) vs
  | _, _, .nil => .nil
  | _, _, .cons n t h => .cons ⟨t, rfl⟩ (vals_ints h)

/-- nothing is tracked but the script, known to the object (or it is an object of the module) -/
def Only (H : Hp) : Prop := ∀ b, H b = none ∨ ∃ o xs, H b = some (.frz o (.lst xs))

/-- THE HEAD: the law's promise, at the heap behind the top. F, the promise of the law's def, may use that base is part of the heap (so K.In base, base.Ns mainGlobals mg stand in Mod) -/
theorem law_call {P : Program} {w : World} {K : PySem.W.Frag} {mg mb : Str → Option Value} {CX : CXT} {k : Nat} {fa a : Addr} {fd : FuncData} {x : Str} {sp : Sp} {s₁ : Shared} {vs : List Value} {ns : List Int}
    (KX : K.In s₁.heap) (hns : s₁.heap.Ns mainGlobals mg) (hb : s₁.heap.Ns builtinsNs mb) (hbb : ∀ x : Str, x ≠ "__name__" → mb x = bootBuiltins x) (hlim : s₁.heap.NoLimit) (hg : s₁.gens = #[])
    (ha : s₁.heap.get? a = some { cls := .type "list", data := .seq vs.toArray }) (hi : IntsAre vs ns) (hl : ns.length ≤ sizeLine) (hr : Room k callerA)
    (F : ∀ base : Heap, K.In base → base.Ns mainGlobals mg → FnOk P w K mg base CX k fa fd [x] sp) (hbind : ∀ (s : Shared) (u : Value), BindsTo s fd ⟨[u], []⟩ [(x, u)])
    (hsp : ∀ H : Hp, Only H → SqL K H a (ns.map V.int) → sp [.ref a] H (fun v _ => v = .bl true) fun _ _ _ => False)
    (hCX : ∀ H e s', CX [] H s₁ (fun _ _ _ => False) e s' → False) :
    codeAny (model P w) callerA (.call (.ref fa) ⟨[.ref a], []⟩) (fun r s' => r = .ok (.ret (.bool true)) ∧ OldK s₁.heap s'.heap ∧ s'.os = s₁.os ∧ AllBare s'.gens) s₁ := by
  have rv := vals_ints hi
  have lenV := hi.length
  -- from an abstract heap in which nothing but the script may be tracked
  have core : ∀ H : Hp, Only H → SqL K H a (ns.map V.int) → HOk P w H s₁.heap → (∀ b, H b ≠ none → b = a) → (H a ≠ none → K.lookup a = none) →
      codeAny (model P w) callerA (.call (.ref fa) ⟨[.ref a], []⟩) (fun r s' => r = .ok (.ret (.bool true)) ∧ OldK s₁.heap s'.heap ∧ s'.os = s₁.os ∧ AllBare s'.gens) s₁ := by
    intro H hO hS hok hA hK
    have base_of : ∀ {b : Addr} {o : Obj}, s₁.heap.get? b = some o → H b = none → (hidT s₁.heap H).get? b = some o := fun e n => hidT_get e n
    have noA : ∀ {b : Addr} {o : Obj} {es : Array DictEntry} {ep : Nat}, s₁.heap.get? b = some o → o.data = .dict es ep → H b = none := fun {b o es ep} e d => by
      cases q : H b with
      | none => rfl
      | some u =>
        have e' : b = a := hA b (by rw [q]; simp)
        subst e'
        rw [ha] at e; cases e
        have d' : Data.seq vs.toArray _ = Data.dict es ep := d
        cases d'
    have nsK : ∀ {b : Addr} {m : Str → Option Value}, s₁.heap.Ns b m → (hidT s₁.heap H).Ns b m := fun {b m} ⟨o, es, ep, e, d, r⟩ => ⟨o, es, ep, base_of e (noA e d), d, r⟩
    have hKb : K.In (hidT s₁.heap H) := fun b o e => base_of (KX b o e) (by
      cases q : H b with
      | none => rfl
      | some u =>
        have e' : b = a := hA b (by rw [q]; simp)
        subst e'
        rw [hK (by rw [q]; simp)] at e; cases e)
    have hM : Mod K mg (hidT s₁.heap H) := ⟨hKb, nsK hns, ⟨mb, nsK hb, hbb⟩, let ⟨mc, h1, h2⟩ := hlim; ⟨mc, nsK h1, h2⟩⟩
    have e0 : Env0 P w K mg (hidT s₁.heap H) callerA [] s₁ H := ⟨rfl, hM, fun b o e => of_hidT e, Nat.le_of_eq (hidT_size _ _), trivial, fun b hb => absurd (show b ∈ ([] : List Addr) from hb) (by simp), hok, .of_eq hg⟩
    refine codeAny_mono ((F _ hKb (nsK hns)).run callerA [] s₁ H ⟨[.ref a], []⟩ [.ref a] [.ref a] _ _ hr e0 (hbind s₁ (.ref a)) (.cons rfl .nil) (hsp H hO hS)) fun r s' h => ?_
    cases r with
    | error e => exact (hCX H e s' h).elim
    | ok fl =>
      cases fl with
      | next => exact False.elim h
      | brk => exact False.elim h
      | cont => exact False.elim h
      | ret u =>
        obtain ⟨v, H', os, bare, un, hok', r', q⟩ := h
        have q' : v = .bl true := q
        subst q'
        obtain rfl : u = Value.bool true := r'
        refine ⟨rfl, OldK.of_keep fun b o e => ?_, os, bare⟩
        cases q : H b with
        | none => exact un.keep b o e q (by intro z; exact absurd (show b ∈ ([] : List Addr) from z) (by simp)) (by simp)
        | some u =>
          rcases hO b with z | ⟨ob, xs, z⟩
          · rw [q] at z; cases z
          · have z2 := un.frzs b ob _ z
            obtain ⟨e1, _⟩ := hok b _ z
            obtain ⟨e2, _⟩ := hok' b _ z2
            rw [e] at e1; cases e1
            exact e2
  cases hk : K.lookup a with
  | some o =>
    -- the script is one of the module's own objects
    have e := KX a o hk
    rw [ha] at e
    cases e
    refine core (fun _ => none) (fun _ => .inl rfl) (.inr ⟨_, vs.toArray, _, hk, rfl, rfl, rfl, by rw [List.size_toArray, lenV]; exact hl, by simpa using rv⟩) (fun b u z => by have z' : (none : Option HO) = some u := z; cases z') (fun b z => absurd rfl z) fun z => absurd rfl z
  | none =>
    refine core (fun b => if b = a then some (.frz { cls := .type "list", data := .seq vs.toArray } (.lst (ns.map V.int))) else none) (fun b => ?_) (.inl (.inr ⟨{ cls := .type "list", data := .seq vs.toArray }, if_pos rfl⟩)) (fun b u z => ?_) (fun b z => ?_) fun _ => hk
    · by_cases hb : b = a
      · exact .inr ⟨_, _, if_pos hb⟩
      · exact .inl (if_neg hb)
    · by_cases hb : b = a
      · have z' := (if_pos hb).symm.trans z
        cases z'
        subst hb
        exact ⟨ha, by rw [List.length_map]; exact hl, vs, _, rv, ha⟩
      · have z' := (if_neg hb).symm.trans z
        cases z'
    · by_cases hb : b = a
      · exact hb
      · exact absurd (if_neg hb) z
end L2

namespace L2
open PySem PySem.Spec PyProof.Rows

/-- the goal that k_head leaves (case hc), from the law's promise. F gives the function object fd (K's own) once, then the promise over every base -/
theorem walk_of {l : PySem.W.OpenLaw} {n k : Nat} {q : Program} {loose : List Str} {XP : (Str → Option Value) → Heap → Prop} {YP : World → Heap → Prop} {d : DefRec} {K : Params → PySem.W.Frag} {CX : World → CXT} {sp : World → Sp} {x : Str}
    (hn : l.most = some n) (hn2 : n ≤ sizeLine) (hdf : d.params.defaults = []) (hr : Room k callerA)
    (hY : ∀ (w : World) (h : Heap), YP w h → (K w.params).In h)
    (F : ∀ (w : World) (mg : Str → Option Value) (fa : Addr) (h : Heap), (K w.params).In h → h.Ns mainGlobals mg → mg d.name = some (.ref fa) →
      ∃ fd : FuncData, (∀ (s : Shared) (u : Value), BindsTo s fd ⟨[u], []⟩ [(x, u)]) ∧
        ∀ base : Heap, (K w.params).In base → base.Ns mainGlobals mg → FnOk l.prog w (K w.params) mg base (CX w) k fa fd [x] (sp w))
    (hsp : ∀ (w : World) (H : Hp) (a : Addr) (ns : List Int), ns.length ≤ n → Only H → SqL (K w.params) H a (ns.map V.int) → sp w [.ref a] H (fun v _ => v = .bl true) fun _ _ _ => False)
    (hCX : ∀ (w : World) (H : Hp) (s : Shared) (e : Value) (s' : Shared), CX w [] H s (fun _ _ _ => False) e s' → False) :
    PySem.W.WalkO q loose XP YP l.row.toRowW d [] (fun f vs => PySem.call f vs) := by
  refine Att.attach_call hn hdf fun w s₀ s₁ mg mb fa o pm cd doc a vs ns G Y ho hd hcd hmg hobj hints hlen hg => ?_
  have KX := hY w _ Y
  obtain ⟨fd, hb, hF⟩ := F w mg fa _ KX G.T.g hmg
  exact law_call KX G.T.g G.T.b G.T.builtins G.T.nolimit hg hobj hints (Nat.le_trans hlen hn2) hr hF hb (fun H hO hS => hsp w H a ns hlen hO hS) fun H e s' => hCX w H s₁ e s'
end L2


namespace L2
open PySem PySem.Spec PyProof.Rows

def defArgs (s : Stmt) : Arguments := match s with
  | .FunctionDef _ a _ _ _ _ _ _ _ _ => a
  | _ => { posonlyargs := [], args := [], vararg := none, kwonlyargs := [], kw_defaults := [], kwarg := none, defaults := [] }
def defBody (s : Stmt) : List Stmt := match s with
  | .FunctionDef _ _ b _ _ _ _ _ _ _ => b
  | _ => []
def defScope (s : Stmt) : Scope := match s with
  | .FunctionDef _ _ _ _ _ _ sc _ _ _ => sc
  | _ => { kind := .function, names := [], isGenerator := false, isCoroutine := false }

abbrev CX0 : CXT := fun _ _ _ _ _ _ => False
abbrev E0 : XK := fun _ _ _ => False
theorem pass0 {X : Cx} : Passes CX0 X E0 := fun _ _ _ _ _ _ _ h => h.elim

structure Fun (K : PySem.W.Frag) (x qual : Str) (st : Stmt) (f : Addr) (fd : FuncData) : Prop where
  ex : ∃ (oc : Value) (od : Option Addr) (kV doc pm : Value) (an : Option Addr) (cdv ct : Value) (osl : Array (Option Value)),
    fd = PySem.W.fnOf x qual (defArgs st) (defBody st) (defScope st) .none kV doc pm an cdv ct ∧ K.lookup f = some ⟨oc, od, .func fd, osl⟩ ∧ PySem.W.codeIn K cdv qual = true
  kp : PySem.W.keepIn K (.ref f) = true
section
variable {P : Program} {w : World} {K : PySem.W.Frag} {mg : Str → Option Value} {base : Heap}
/-- THE RULE for a def: its body as a term of rules, and the reading of that term -/
theorem Fun.ok {x qual : Str} {st : Stmt} {f : Addr} {fd : FuncData} {N ps : List Str} {k : Nat} {sp : Sp} (F : Fun K x qual st f fd) (S : FnScope N ps (defScope st)) (len : ∀ vs H Q E, sp vs H Q E → vs.length = ps.length)
    (hbody : ∀ (cdv : Value) (A : Around) (outer : List Env) (s : Shared) (H : Hp) (vs : List V) (Q : VK) (E : XK), Room k (A.deeper (envOfC qual (defScope st) s.heap.objs.size f cdv)) → sp vs H Q E →
      ∃ t, PSs (cxOf CX0 P w K mg base N qual (defScope st) f cdv A outer s H E).nox (defBody st) t ∧ t { nx := fun _ H' => Q .non H', rt := Q } (start N vs) H) : FnOk P w K mg base CX0 (k + 1) f fd ps sp := by
  obtain ⟨oc, od, kV, doc, pm, an, cdv, ct, osl, rfl, lk, hcd⟩ := F.ex
  refine fn_of lk hcd S len fun A outer s H vs Q E hr hsp => ?_
  obtain ⟨t, h, q⟩ := hbody cdv A outer s H vs Q E hr hsp
  exact ⟨t, h.nox, q⟩
/-- how its arguments bind (no defaults): h is «fun _ _ _ _ _ _ us hl => match us, hl with | [_, _], _ => rfl», one _ a parameter -/
theorem Fun.binds {x qual : Str} {st : Stmt} {f : Addr} {fd : FuncData} {ps : List Str} (F : Fun K x qual st f fd)
    (h : ∀ (kV doc pm : Value) (an : Option Addr) (cdv ct : Value) (us : List Value), us.length = ps.length → bindArgs (PySem.W.fnOf x qual (defArgs st) (defBody st) (defScope st) .none kV doc pm an cdv ct) ⟨us, []⟩ = pure (ps.zip us)) : Binds K fd ps [] := by
  obtain ⟨oc, od, kV, doc, pm, an, cdv, ct, osl, rfl, lk, hcd⟩ := F.ex
  exact .all (h kV doc pm an cdv ct)
theorem fun_mk {x qual : Str} {st : Stmt} {f : Addr} {oc : Value} {od an : Option Addr} {osl : Array (Option Value)} {kV doc pm cdv ct : Value} (l : K.lookup f = some ⟨oc, od, .func (PySem.W.fnOf x qual (defArgs st) (defBody st) (defScope st) .none kV doc pm an cdv ct), osl⟩)
    (c : PySem.W.codeIn K cdv qual = true) (k : PySem.W.keepIn K (.ref f) = true) : Fun K x qual st f (PySem.W.fnOf x qual (defArgs st) (defBody st) (defScope st) .none kV doc pm an cdv ct) := ⟨⟨oc, od, kV, doc, pm, an, cdv, ct, osl, rfl, l, c⟩, k⟩
end
theorem hu_of {A : Around} {k : Nat} (hr : Room k A) : A.units + 1 < cLine := Nat.lt_of_le_of_lt (Nat.add_le_add_left (by decide : 1 ≤ 64) _) hr.units
section
variable {X : Cx}
theorem pv (i : Nat) {x : Str} {pos : Pos} (hN : X.N[i]? = some x := by rfl) (hv : Vis X.env.scope x := by first | exact Or.inl rfl | exact Or.inr (Or.inl rfl) | exact Or.inr (Or.inr rfl)) (hd : (x == ("__debug__" : Str)) = false := by decide)
    (hcd : (x == ("__classdict__" : Str)) = false := by decide) : PE X (.Name x pos) (tVar i) := pe_var hN hv hd hcd
end

theorem iteF {A B : Prop} (h : B) : if false = true then A else B := by
  rw [if_neg Bool.false_ne_true]
  exact h
theorem iteT {A B : Prop} (h : A) : if true = true then A else B := by
  rw [if_pos rfl]
  exact h
/-- all that was tracked is as it was -/
def Same (H H' : Hp) : Prop := ∀ b o, H b = some o → H' b = some o
theorem Same.refl (H : Hp) : Same H H := fun _ _ h => h
theorem Same.trans {H H1 H2 : Hp} (a : Same H H1) (b : Same H1 H2) : Same H H2 := fun c o h => b c o (a c o h)
theorem Same.free {H H' : Hp} (e : Same H H') {l : Addr} (h : H' l = Option.none) : H l = Option.none := by
  cases q : H l with
  | none => rfl
  | some o =>
    rw [e l o q] at h
    cases h
theorem Same.seq {K : PySem.W.Frag} {H H' : Hp} {a : Addr} {xs : List V} (e : Same H H') (h : SqL K H a xs) : SqL K H' a xs := by
  rcases h with (h | ⟨o, h⟩) | h
  · exact .inl (.inl (e _ _ h))
  · exact .inl (.inr ⟨o, e _ _ h⟩)
  · exact .inr h

section
variable {κ : Type} [DecidableEq κ]
end
end L2

namespace L2
open PySem PySem.Spec PyProof.Rows

/-- the block's context: the captured names and the walked ones -/
def blk (X : Cx) (N' : List Str) (scope : Scope) (cl : List (Str × Addr)) (C : Addr) (s0 : Shared) (H0 : Hp) (ex : List Addr) : Cx :=
  { X with N := N', env := compEnvC scope cl C X.env, s₀ := s0, H₀ := H0, outer := X.stack, stack := X.stack, ex := ex, fn := fun _ => false, pn := [], xe := fun _ _ => False }
/-- the clauses' tests -/
def PIfs (X : Cx) (ifs : List Expr) (t : TT) : Prop :=
  ∀ (pins : List (Addr × Obj)) (s : Shared) (σ : St) (H : Hp) (Q : Bool → Hp → Prop), Inv X pins σ H s → t σ H Q →
    wpAny (model X.prog X.w) X.A (forIn ifs true fun c r => if r = true then do let ok ← isTrue c X.env (eval c X.env); pure (ForInStep.yield ok) else pure (ForInStep.yield r)) (TP X pins σ Q) X.xe s
def tYes : TT := fun _ H Q => Q true H
theorem pifs_nil {X : Cx} : PIfs X [] tYes := fun pins s σ H Q I h => wpAny_tests_nil ⟨H, I, h⟩
theorem pifs_one {X : Cx} {c : Expr} {t : TT} (h : PT X c t) : PIfs X [c] t := fun pins s σ H Q I q => wpAny_tests_one (h pins s σ H Q I q)
/-- the block's names at a turn's start: the walked ones open, the captured ones as they are outside -/
def blkS (n : Nat) (idx : List Nat) (σ : St) : St := List.replicate n none ++ idx.map fun i => (σ[i]?).join
def tComp (n : Nat) (idx : List Nat) (wi : TI) (g : TG) (tc : TT) (te : TE) : TE := fun σ H Q => wi σ H fun J H1 => ∀ D, H1 D = none →
  ∃ W : Nat → Nat → Hp → Prop, (∃ m, W 0 m (upd H1 D (.lst []))) ∧ ∀ i m H, W i m H →
    (J.stop i H ∧ Q (.ref D) H) ∨ (J.go i H ∧ ∀ x H', J.yld i H x H' → g x (blkS n idx σ) H' fun σ2 H2 => (σ2.length = (blkS n idx σ).length ∧ ∀ (j : Nat) (v : V), (blkS n idx σ)[j]? = some (some v) → σ2[j]? = some (some v)) ∧ tc σ2 H2 fun b H3 =>
      if b = true then te σ2 H3 fun v H4 => ∃ ys, H4 D = some (.lst ys) ∧ ys.length < sizeLine ∧ ∃ m', m' < m ∧ W (i + 1) m' (upd H4 D (.lst (ys ++ [v]))) else ∃ m', m' < m ∧ W (i + 1) m' H3)
/-- what a comprehension's text must have, seen from around it -/
structure CompOk (X : Cx) (scope : Scope) (cl : List (Str × Addr)) (N' : List Str) (n : Nat) (idx : List Nat) : Prop where
  clos : closureFor scope X.env = pure cl
  sub : ∀ x c, cl.lookup x = some c → X.env.cells.lookup x = some c
  cell : ∀ y ∈ scope.names, y.2 ≠ .cell
  kind : scope.kind = .function
  names : ∀ y ∈ scope.names, y.2 = .local → scope.names.lookup y.1 = some .local
  has : ∀ x, ((relabel scope X.env).names.lookup x = some .cell ∨ (relabel scope X.env).names.lookup x = some .free) → ∃ c, cl.lookup x = some c
  len : N'.length = n + idx.length
  cap : ∀ (j i : Nat) (y : Str), idx[j]? = some i → N'[n + j]? = some y → X.N[i]? = some y ∧ (X.env.scope.names.lookup y = some .cell ∨ X.env.scope.names.lookup y = some .free) ∧ ((relabel scope X.env).names.lookup y = some .cell ∨ (relabel scope X.env).names.lookup y = some .free)
section
variable {X : Cx} {scope : Scope} {cl : List (Str × Addr)} {N' : List Str} {n : Nat} {idx : List Nat} {tg iter elt : Expr} {ifs : List Expr} {pos : Pos} {wi : TI} {g : TG} {tc : TT} {te : TE}
theorem blkS_len (σ : St) : (blkS n idx σ).length = n + idx.length := by simp [blkS]
theorem blkS_get {σ : St} {j : Nat} {v : V} (h : (blkS n idx σ)[j]? = some (some v)) : ∃ k i, j = n + k ∧ idx[k]? = some i ∧ σ[i]? = some (some v) := by
  unfold blkS at h
  by_cases hj : j < n
  · rw [List.getElem?_append_left (by simpa using hj)] at h
    simp [hj] at h
  · rw [List.getElem?_append_right (by simpa using Nat.le_of_not_lt hj)] at h
    simp only [List.length_replicate, List.getElem?_map] at h
    refine ⟨j - n, ?_⟩
    cases e : idx[j - n]? with
    | none => rw [e] at h; simp at h
    | some i =>
      rw [e] at h
      simp only [Option.map_some, Option.some.injEq] at h
      exact ⟨i, by omega, rfl, by simpa using Option.join_eq_some_iff.mp h⟩
/-- the block begins -/
theorem blk_start (k : CompOk X scope cl N' n idx) {pins : List (Addr × Obj)} {s2 : Shared} {σ : St} {H2 : Hp} {fp : List Addr} {C : Addr} {h4 : Heap} {t4 : Nat} {m : Str → Option Value} (I : Inv X pins σ H2 s2) (f : ∀ b ∈ fp, FpOk X pins H2 b) (fo : ∀ b ∈ fp, b < s2.heap.objs.size)
    (hC : s2.heap.objs.size + 1 ≤ C) (ns : h4.Ns C m) (keep : ∀ b o, s2.heap.get? b = some o → h4.get? b = some o) (hD : h4.get? s2.heap.objs.size = some { cls := .type "list", data := .seq ([] : List Value).toArray }) :
    Inv (blk X N' scope cl C s2 H2 fp) [] (blkS n idx σ) (upd H2 s2.heap.objs.size (.lst [])) { s2 with heap := h4, toks := t4 } := by
  have fresh : H2 s2.heap.objs.size = none := I.hok.fresh (Nat.le_refl _)
  have fC : H2 C = none := I.hok.fresh (by omega)
  have cellsub : ∀ x c, (blk X N' scope cl C s2 H2 fp).env.cells.lookup x = some c → X.env.cells.lookup x = some c := fun x c e => k.sub x c e
  have cellLt : ∀ x c, X.env.cells.lookup x = some c → c < s2.heap.objs.size := fun x c e => by
    obtain ⟨v, q⟩ := I.cell x c e
    exact q.lt
  have ok : (blk X N' scope cl C s2 H2 fp).Ok := {
    mod := I.ok.mod
    kind := k.kind
    glob := I.ok.glob
    blt := I.ok.blt
    above := by show s2.heap.objs.size ≤ C; omega
    inj := fun x y c e1 e2 => I.ok.inj x y c (cellsub x c e1) (cellsub y c e2)
    has := fun x h => k.has x h
    cab := fun x c h _ => by cases h
    hd := I.ok.hd
    frames := I.ok.frames
    stk := .inl rfl
    exf := fun b hb => ⟨Nat.ne_of_lt (Nat.lt_of_lt_of_le (fo b hb) (by show s2.heap.objs.size ≤ C; omega)), fun x c e z => (f b hb).2.2.2.2.1 x c (cellsub x c e) z⟩
    bs := fun b o e => I.bs b o e
    bsz := Nat.le_trans I.ok.bsz I.sz
    noex := fun b o e hb => by
      rcases (f b hb).2.2.2.1 with z | z
      · exact I.ok.noex b o e z
      · exact absurd (Nat.lt_of_lt_of_le (Heap.lt_size e) (Nat.le_trans I.ok.bsz z)) (Nat.lt_irrefl _)
    exfs := fun b hb z => by
      rcases List.mem_cons.mp (I.stkSub b z) with y | y
      · exact (f b hb).2.1 y
      · exact (f b hb).2.2.1 y
    funs := I.stack
    frf := I.stkFree }
  refine ⟨ok, rfl, I.bare, Un.laid keep (Nat.le_refl _) fresh, ⟨m, ns, fun j y v e1 e2 e3 => ?_⟩, fun x c e => ?_, ?_, fun x c e => ?_, fun p hp => (by cases hp), I.hok.laid keep (Nat.le_refl _) ⟨Nat.zero_le _, [], _, .nil, hD⟩, ?_⟩
  · obtain ⟨kk, i, rfl, hk, hv⟩ := blkS_get e2
    obtain ⟨hN, ok, hkind⟩ := k.cap kk i y hk e1
    obtain ⟨c, hc⟩ := k.has y hkind
    obtain ⟨m0, _, hl⟩ := I.loc
    have hc' := k.sub y c hc
    obtain ⟨u, r, l⟩ := hl i y v hN hv (by rcases ok with z | z; exact .inr (.inl z); exact .inr (.inr z))
    refine ⟨u, r, .inr ⟨hkind, c, hc, ?_⟩⟩
    rcases l with ⟨z, _⟩ | ⟨_, c', e', q⟩
    · have z' : X.env.scope.names.lookup y = some .local := z
      rcases ok with w | w <;> · rw [w] at z'; cases z'
    · rw [hc'] at e'; cases e'
      obtain ⟨o, ho, hd⟩ := q
      exact ⟨o, keep _ o ho, hd⟩
  · obtain ⟨v, q⟩ := I.cell x c (cellsub x c e)
    obtain ⟨o, ho, hd⟩ := q
    exact ⟨v, o, keep c o ho, hd⟩
  · show upd H2 s2.heap.objs.size (.lst []) C = none
    rw [upd_ne (Nat.ne_of_gt hC)]; exact fC
  · have := cellLt x c (cellsub x c e)
    rw [upd_ne (Nat.ne_of_lt this)]
    exact I.freeC x c (cellsub x c e)
  · rw [blkS_len, ← k.len]; rfl
/-- the loop's turns, the step that lets an owned tuple go among them -/
theorem comp_loop {prog : Program} {w : World} {A : Around} {R : Result → Shared → Prop} {s : Shared} {elt target iter : Expr} {ifs : List Expr} {scope : Scope} {pos : Pos} {it acc : Value} {env : Env} (I : Nat → Shared → Prop)
    (turn : ∀ n s, I n s → wpAny (model prog w) A (pyNext it) (fun r s1 => match r with
      | none => R (.ok .next) s1
      | some v => wpAny (model prog w) A (letOwnedTupleGo target it v) (fun _ s1' => wpAny (model prog w) A (assign target env v) (fun _ s2 =>
          wpAny (model prog w) A (forIn ifs true fun c r => if r = true then do let ok ← isTrue c env (eval c env); pure (ForInStep.yield ok) else pure (ForInStep.yield r)) (fun ok s3 =>
            if ok = true then wpAny (model prog w) A (eval elt env) (fun x s4 =>
              wpAny (model prog w) A (call (.builtin "list.append") [acc, x]) (fun _ s5 => ∃ m, m < n ∧ I m s5) (notedBy (model prog w) A env fun e s' => R (.error e) s') s4) (notedBy (model prog w) A env fun e s' => R (.error e) s') s3
            else ∃ m, m < n ∧ I m s3) (notedBy (model prog w) A env fun e s' => R (.error e) s') s2) (notedBy (model prog w) A env fun e s' => R (.error e) s') s1') (notedBy (model prog w) A env fun e s' => R (.error e) s') s1) (notedBy (model prog w) A env fun e s' => R (.error e) s') s)
    (n : Nat) (h : I n s) :
    codeAny (model prog w) A (.compLoop (.ListComp elt [⟨target, iter, ifs, 0⟩] scope pos) 0 it acc env) R s := by
  refine codeAny_loop rfl I (fun n s hI => ?_) n h
  show wpAny _ A ((compTurn (.ListComp elt [⟨target, iter, ifs, 0⟩] scope pos) 0 it acc env).onRaise (fun x => do noteFrame x env; theTreesLotGoes x)) _ _ s
  refine wpAny_noted ?_
  rw [compTurn_list]
  refine wpAny_bind (wpAny_standAt (wpAny_bind (wpAny_mono (turn n s hI) (fun r s₁ h₁ => ?_) fun _ _ h' => h')))
  cases r with
  | none => exact wpAny_pure h₁
  | some v =>
    refine wpAny_bind (wpAny_mono h₁ (fun _ s1' h1' => ?_) fun _ _ h' => h')
    refine wpAny_bind (wpAny_mono h1' (fun _ s₂ h₂ => wpAny_bind (wpAny_mono h₂ (fun ok s₃ h₃ => ?_) fun _ _ h' => h')) fun _ _ h' => h')
    cases ok with
    | false => exact wpAny_pure ⟨rfl, h₃⟩
    | true =>
      exact wpAny_bind (wpAny_bind (wpAny_mono h₃ (fun x s₄ h₄ => wpAny_bind (wpAny_mono h₄ (fun _ s₅ h₅ => wpAny_pure (wpAny_pure ⟨rfl, h₅⟩)) fun _ _ h' => h')) fun _ _ h' => h'))
theorem pe_comp (hc : X.calm = true) (k : CompOk X scope cl N' n idx) (hi : PI X tg iter wi)
    (hg : ∀ C s0 H0 ex, PG (blk X N' scope cl C s0 H0 ex) tg g) (ht : ∀ C s0 H0 ex, PIfs (blk X N' scope cl C s0 H0 ex) ifs tc) (he : ∀ C s0 H0 ex, PE (blk X N' scope cl C s0 H0 ex) elt te)
    (hs : ∀ x, foldedSetIterable iter X.env x = pure x := by intro _; rfl) : PE X (.ListComp elt [⟨tg, iter, ifs, 0⟩] scope pos) (tComp n idx wi g tc te) := by
  intro pins s σ H Q I0 h
  rw [eval_ListComp]
  refine wpAny_comprehension_free (use := none) rfl hs k.clos k.kind k.names (thn (hi pins s σ H _ I0 h) fun v s1 h1 => thn h1 fun itv s2 h2 => ?_)
  obtain ⟨it, fp, tn, J, H2, e, I2, T, st2, f2, hW⟩ := h2
  subst e
  have fo2 : ∀ b ∈ fp, b < s2.heap.objs.size := fun b hb => by
    obtain ⟨o, e, _⟩ := T.obj _ _ st2 b hb
    exact Heap.lt_size e
  obtain ⟨W, ⟨m0, w0⟩, turn⟩ := hW s2.heap.objs.size (I2.hok.fresh (Nat.le_refl _))
  refine wpAny_newObj_type (wpAny_newFunctionEnv k.cell (by intro y hy; simp at hy) (fun h4 hns4 hsb4 => ?_) k.kind)
  dsimp only at hns4 hsb4 ⊢
  generalize hH3 : s2.heap.push { cls := .type "list", dict := none, data := .seq ([] : List Value).toArray } = h3 at hns4 hsb4 ⊢
  have hCe : h3.objs.size = s2.heap.objs.size + 1 := by rw [← hH3, Heap.size_push]
  have k34 : ∀ b o, b ≠ h3.objs.size → h3.get? b = some o → h4.get? b = some o := fun b o nb e => hsb4.extBut b o nb (Heap.get?_push_of_some _ e)
  have keep : ∀ b o, s2.heap.get? b = some o → h4.get? b = some o := fun b o e => k34 b o (Nat.ne_of_lt (by rw [hCe]; exact Nat.lt_succ_of_lt (Heap.lt_size e))) (by rw [← hH3]; exact Heap.get?_push_of_some _ e)
  have hD : h4.get? s2.heap.objs.size = some { cls := .type "list", data := .seq ([] : List Value).toArray } := k34 _ _ (Nat.ne_of_lt (by rw [hCe]; exact Nat.lt_succ_self _)) (by rw [← hH3]; exact Heap.get?_push_size _ rfl)
  have I4 := blk_start k I2 f2 fo2 (Nat.le_of_eq hCe.symm) hns4 keep hD (t4 := s2.toks + ([] : List (Str × Value)).length)
  -- the iterator's objects within the block
  have stat : ∀ {H' : Hp}, (∀ b ∈ fp, H' b = none) → ∀ b ∈ fp, FpOk (blk X N' scope cl h3.objs.size s2 H2 fp) [] H' b := fun hn b hb =>
    ⟨hn b hb, Nat.ne_of_lt (by rw [hCe]; exact Nat.lt_succ_of_lt (fo2 b hb)), fun z => (List.mem_cons.mp (I2.stkSub b z)).elim (f2 b hb).2.1 (f2 b hb).2.2.1, .inl hb, fun x c e => (f2 b hb).2.2.2.2.1 x c (k.sub x c e), fun p hp => (by cases hp)⟩
  have fr4 : ∀ b ∈ fp, upd H2 s2.heap.objs.size (.lst []) b = none := fun b hb => by rw [upd_ne (Nat.ne_of_lt (fo2 b hb))]; exact (f2 b hb).1
  have fin : ∀ (s' : Shared) (H' : Hp), Inv (blk X N' scope cl h3.objs.size s2 H2 fp) [] (blkS n idx σ) H' s' → Q (.ref s2.heap.objs.size) H' →
      compPost (model X.prog X.w) X.A X.xe none (EP X pins σ Q) (.ref s2.heap.objs.size) h3.objs.size (.ok .next) s' := fun s' H' I' q => by
    obtain ⟨m', hn', _⟩ := I'.loc
    refine ⟨m', hn', fun h5 hsb => ⟨.ref s2.heap.objs.size, H', ?_, rfl, q⟩⟩
    have kk : ∀ b o, b ≠ h3.objs.size → s'.heap.get? b = some o → h5.get? b = some o := fun b o nb e => (hsb.2 b nb).trans e
    have ltC : ∀ b o, s2.heap.get? b = some o → b ≠ h3.objs.size := fun b o e => Nat.ne_of_lt (by rw [hCe]; exact Nat.lt_succ_of_lt (Heap.lt_size e))
    have nC : ∀ b u, H' b = some u → b ≠ h3.objs.size := fun b u e z => by
      have z2 : H' h3.objs.size = none := I'.free
      rw [z, z2] at e; cases e
    have B := I'.base
    refine I2.call' (s' := { s' with heap := h5 }) (ch := fp) (show s'.os = s2.os from I'.os) ⟨fun b o e nn hb hx => kk b o (ltC b o e) (B.keep b o e nn hb hx), fun b o e nn hb hx => ?_, B.free, fun b o e hx => ?_, B.tups, B.frzs, B.tbls⟩ (fun b u e => ?_) I'.bare fun b hb => ?_
    · obtain ⟨sl, q⟩ := B.slot b o e nn hb hx
      exact ⟨sl, kk b _ (ltC b o e) q⟩
    · obtain ⟨o', q⟩ := B.there b o e hx
      exact ⟨o', kk b _ (ltC b o e) q⟩
    · refine (I'.hok b u e).stay (fun c v hc q => kk c v ?_ q) (fun _ q => q) fun _ _ q => q
      rcases hc with z | z
      · rw [z]; exact nC b u e
      · exact nC c _ z
    · obtain ⟨p1, p2, p3, p4, p5, p6⟩ := f2 b hb
      exact ⟨p4, p2, p5, p6⟩
  have loop : ∀ s4 : Shared, s4 = { s2 with heap := h4, toks := s2.toks + ([] : List (Str × Value)).length } →
      codeAny (model X.prog X.w) X.A (.compLoop (.ListComp elt [⟨tg, iter, ifs, 0⟩] scope pos) 0 (.ref it) (.ref s2.heap.objs.size) (compEnvC scope cl h3.objs.size X.env)) (compPost (model X.prog X.w) X.A X.xe none (EP X pins σ Q) (.ref s2.heap.objs.size) h3.objs.size) s4 := by
    rintro s4 rfl
    refine comp_loop (fun m s' => ∃ i H', Inv (blk X N' scope cl h3.objs.size s2 H2 fp) [] (blkS n idx σ) H' s' ∧ tn i s'.heap ∧ (∀ b ∈ fp, H' b = none) ∧ W i m H') ?_ m0 ⟨0, _, I4, T.keep _ _ _ st2 (fun b _ o e => keep b o e), fr4, w0⟩
    rintro m s3 ⟨i, H3, I3, st3, fr3, w3⟩
    rcases turn i m H3 w3 with ⟨stop, q⟩ | ⟨go, step⟩
    · refine wpAny_mono (T.done (blk X N' scope cl h3.objs.size s2 H2 fp) rfl rfl rfl hc i [] s3 _ H3 (fun _ _ => False) I3 (stat fr3) st3 stop) (fun r s5 ⟨hr, I5⟩ => ?_) fun _ _ z => z.elim
      subst hr
      exact fin s5 H3 I5 q
    · refine wpAny_mono (T.item (blk X N' scope cl h3.objs.size s2 H2 fp) rfl rfl rfl hc i [] s3 _ H3 (fun _ _ => False) I3 (stat fr3) st3 go) (fun r s5 ⟨u, hr, h5⟩ => ?_) fun _ _ z => z.elim
      subst hr
      refine wpAny_mono h5 (fun _ s6 ⟨x, H6, I6, r6, y6, st6, fr6⟩ => ?_) fun _ _ z => z.elim
      have I6' := I6.pinned (stat fr6) (T.obj _ _ st6)
      have again : ∀ {σ7 : St} {H7 : Hp} {s7 : Shared}, Inv (blk X N' scope cl h3.objs.size s2 H2 fp) ([] ++ pinsAt fp s6.heap) σ7 H7 s7 → σ7.length = (blkS n idx σ).length → (∀ (j : Nat) v, (blkS n idx σ)[j]? = some (some v) → σ7[j]? = some (some v)) → (∃ m', m' < m ∧ W (i + 1) m' H7) →
          ∃ m', m' < m ∧ ∃ i H', Inv (blk X N' scope cl h3.objs.size s2 H2 fp) [] (blkS n idx σ) H' s7 ∧ tn i s7.heap ∧ (∀ b ∈ fp, H' b = none) ∧ W i m' H' := fun {σ7 H7 s7} I7 hl hw ⟨m', hm, w7⟩ => by
        refine ⟨m', hm, i + 1, H7, (I7.unpinned).weak hl.symm hw, T.keep _ _ _ st6 fun b hb o e => (I7.pin (b, o) (List.mem_append_right _ (List.mem_append_right _ (mem_pinsAt hb e)))).1, fun b hb => ?_, w7⟩
        obtain ⟨o, e, d⟩ := T.obj _ _ st6 b hb
        exact (I7.pin (b, o) (List.mem_append_right _ (List.mem_append_right _ (mem_pinsAt hb e)))).2.1
      refine wpAny_mono (hg _ _ _ _ _ s6 _ H6 x u _ I6' r6 (step x H6 y6)) (fun _ s7 ⟨σ7, H7, I7, ⟨hl, hw⟩, q7⟩ => ?_) fun _ _ z => z.elim
      refine wpAny_mono (ht _ _ _ _ _ s7 σ7 H7 _ I7 q7) (fun ok s8 ⟨H8, I8, q8⟩ => ?_) fun _ _ z => z.elim
      cases ok with
      | false =>
        rw [if_neg Bool.false_ne_true] at q8 ⊢
        exact again I8 hl hw q8
      | true =>
        rw [if_pos rfl] at q8 ⊢
        refine wpAny_mono (he _ _ _ _ _ s8 σ7 H8 _ I8 q8) (fun v9 s9 ⟨x9, H9, I9, r9, ys, e9, l9, q9⟩ => ?_) fun _ _ z => z.elim
        refine wpAny_mono (mt_append (X := blk X N' scope cl h3.objs.size s2 H2 fp) _ s9 σ7 H9 (.ref s2.heap.objs.size) [x9] (.ref s2.heap.objs.size) [v9] (fun _ H' => H' = upd H9 s2.heap.objs.size (.lst (ys ++ [x9]))) I9 rfl (.cons r9 .nil) ⟨s2.heap.objs.size, ys, x9, rfl, rfl, e9, l9, rfl⟩) (fun _ s10 ⟨_, H10, I10, _, e10⟩ => ?_) fun _ _ z => z.elim
        subst e10
        exact again I10 hl hw q9
  exact codeAny_compStart_list (loop _ rfl) (T.self _ 0 _ _ _ (T.keep _ _ _ st2 (fun b _ o e => keep b o e)) (loop _ rfl))
end
end L2

namespace L2
open PySem PySem.Spec PyProof.Rows
section
variable {X : Cx} {scope : Scope} {cl : List (Str × Addr)} {N' : List Str} {n : Nat} {idx : List Nat} {tg iter elt : Expr} {ifs : List Expr} {pos : Pos} {wi : TI} {g : TG} {tc : TT} {te : TE}
/-- a comprehension, whatever is done with what comes -/
theorem comp_gen {use : Option (Value → Sem Unit)} {Q' : Value → Shared → Prop} {pos2 : Pos} (hc : X.calm = true) (k : CompOk X scope cl N' n idx) (hi : PI X tg iter wi)
    (hg : ∀ C s0 H0 ex, PG (blk X N' scope cl C s0 H0 ex) tg g) (ht : ∀ C s0 H0 ex, PIfs (blk X N' scope cl C s0 H0 ex) ifs tc) (he : ∀ C s0 H0 ex, PE (blk X N' scope cl C s0 H0 ex) elt te)
    (hs : ∀ x, foldedSetIterable iter X.env x = pure x) {pins : List (Addr × Obj)} {s : Shared} {σ : St} {H : Hp} {Q : VK} (I0 : Inv X pins σ H s) (h : tComp n idx wi g tc te σ H Q)
    (last : ∀ (C D : Addr) (s' : Shared) (H' : Hp) (m : Str → Option Value), Inv X pins σ H' s' → FpOk X pins H' C → s'.heap.Ns C m → Q (.ref D) H' → compPost (model X.prog X.w) X.A X.xe use Q' (.ref D) C (.ok .next) s') :
    wpAny (model X.prog X.w) X.A (comprehension (.ListComp elt [⟨tg, iter, ifs, 0⟩] scope pos) scope X.env pos2 (newList []) false (eval iter X.env) use) Q' X.xe s := by
  refine wpAny_comprehension_free (use := use) rfl hs k.clos k.kind k.names (thn (hi pins s σ H _ I0 h) fun v s1 h1 => thn h1 fun itv s2 h2 => ?_)
  obtain ⟨it, fp, tn, J, H2, e, I2, T, st2, f2, hW⟩ := h2
  subst e
  have fo2 : ∀ b ∈ fp, b < s2.heap.objs.size := fun b hb => by
    obtain ⟨o, e, _⟩ := T.obj _ _ st2 b hb
    exact Heap.lt_size e
  obtain ⟨W, ⟨m0, w0⟩, turn⟩ := hW s2.heap.objs.size (I2.hok.fresh (Nat.le_refl _))
  refine wpAny_newObj_type (wpAny_newFunctionEnv k.cell (by intro y hy; simp at hy) (fun h4 hns4 hsb4 => ?_) k.kind)
  dsimp only at hns4 hsb4 ⊢
  generalize hH3 : s2.heap.push { cls := .type "list", dict := none, data := .seq ([] : List Value).toArray } = h3 at hns4 hsb4 ⊢
  have hCe : h3.objs.size = s2.heap.objs.size + 1 := by rw [← hH3, Heap.size_push]
  have k34 : ∀ b o, b ≠ h3.objs.size → h3.get? b = some o → h4.get? b = some o := fun b o nb e => hsb4.extBut b o nb (Heap.get?_push_of_some _ e)
  have keep : ∀ b o, s2.heap.get? b = some o → h4.get? b = some o := fun b o e => k34 b o (Nat.ne_of_lt (by rw [hCe]; exact Nat.lt_succ_of_lt (Heap.lt_size e))) (by rw [← hH3]; exact Heap.get?_push_of_some _ e)
  have hD : h4.get? s2.heap.objs.size = some { cls := .type "list", data := .seq ([] : List Value).toArray } := k34 _ _ (Nat.ne_of_lt (by rw [hCe]; exact Nat.lt_succ_self _)) (by rw [← hH3]; exact Heap.get?_push_size _ rfl)
  have I4 := blk_start k I2 f2 fo2 (Nat.le_of_eq hCe.symm) hns4 keep hD (t4 := s2.toks + ([] : List (Str × Value)).length)
  -- the iterator's objects within the block
  have stat : ∀ {H' : Hp}, (∀ b ∈ fp, H' b = none) → ∀ b ∈ fp, FpOk (blk X N' scope cl h3.objs.size s2 H2 fp) [] H' b := fun hn b hb =>
    ⟨hn b hb, Nat.ne_of_lt (by rw [hCe]; exact Nat.lt_succ_of_lt (fo2 b hb)), fun z => (List.mem_cons.mp (I2.stkSub b z)).elim (f2 b hb).2.1 (f2 b hb).2.2.1, .inl hb, fun x c e => (f2 b hb).2.2.2.2.1 x c (k.sub x c e), fun p hp => (by cases hp)⟩
  have fr4 : ∀ b ∈ fp, upd H2 s2.heap.objs.size (.lst []) b = none := fun b hb => by rw [upd_ne (Nat.ne_of_lt (fo2 b hb))]; exact (f2 b hb).1
  have fin : ∀ (s' : Shared) (H' : Hp), Inv (blk X N' scope cl h3.objs.size s2 H2 fp) [] (blkS n idx σ) H' s' → Q (.ref s2.heap.objs.size) H' →
      compPost (model X.prog X.w) X.A X.xe use Q' (.ref s2.heap.objs.size) h3.objs.size (.ok .next) s' := fun s' H' I' q => by
    obtain ⟨m', hn', _⟩ := I'.loc
    have B := I'.base
    refine last _ _ s' H' m' ?_ (I2.fpOk (by rw [hCe]; exact Nat.le_succ _) I'.free) hn' q
    refine I2.call' (s' := s') (ch := fp) (show s'.os = s2.os from I'.os) ⟨fun b o e nn hb hx => B.keep b o e nn hb hx, fun b o e nn hb hx => B.slot b o e nn hb hx, B.free, fun b o e hx => B.there b o e hx, B.tups, B.frzs, B.tbls⟩ I'.hok I'.bare fun b hb => ?_
    obtain ⟨p1, p2, p3, p4, p5, p6⟩ := f2 b hb
    exact ⟨p4, p2, p5, p6⟩
  have loop : ∀ s4 : Shared, s4 = { s2 with heap := h4, toks := s2.toks + ([] : List (Str × Value)).length } →
      codeAny (model X.prog X.w) X.A (.compLoop (.ListComp elt [⟨tg, iter, ifs, 0⟩] scope pos) 0 (.ref it) (.ref s2.heap.objs.size) (compEnvC scope cl h3.objs.size X.env)) (compPost (model X.prog X.w) X.A X.xe use Q' (.ref s2.heap.objs.size) h3.objs.size) s4 := by
    rintro s4 rfl
    refine comp_loop (fun m s' => ∃ i H', Inv (blk X N' scope cl h3.objs.size s2 H2 fp) [] (blkS n idx σ) H' s' ∧ tn i s'.heap ∧ (∀ b ∈ fp, H' b = none) ∧ W i m H') ?_ m0 ⟨0, _, I4, T.keep _ _ _ st2 (fun b _ o e => keep b o e), fr4, w0⟩
    rintro m s3 ⟨i, H3, I3, st3, fr3, w3⟩
    rcases turn i m H3 w3 with ⟨stop, q⟩ | ⟨go, step⟩
    · refine wpAny_mono (T.done (blk X N' scope cl h3.objs.size s2 H2 fp) rfl rfl rfl hc i [] s3 _ H3 (fun _ _ => False) I3 (stat fr3) st3 stop) (fun r s5 ⟨hr, I5⟩ => ?_) fun _ _ z => z.elim
      subst hr
      exact fin s5 H3 I5 q
    · refine wpAny_mono (T.item (blk X N' scope cl h3.objs.size s2 H2 fp) rfl rfl rfl hc i [] s3 _ H3 (fun _ _ => False) I3 (stat fr3) st3 go) (fun r s5 ⟨u, hr, h5⟩ => ?_) fun _ _ z => z.elim
      subst hr
      refine wpAny_mono h5 (fun _ s6 ⟨x, H6, I6, r6, y6, st6, fr6⟩ => ?_) fun _ _ z => z.elim
      have I6' := I6.pinned (stat fr6) (T.obj _ _ st6)
      have again : ∀ {σ7 : St} {H7 : Hp} {s7 : Shared}, Inv (blk X N' scope cl h3.objs.size s2 H2 fp) ([] ++ pinsAt fp s6.heap) σ7 H7 s7 → σ7.length = (blkS n idx σ).length → (∀ (j : Nat) v, (blkS n idx σ)[j]? = some (some v) → σ7[j]? = some (some v)) → (∃ m', m' < m ∧ W (i + 1) m' H7) →
          ∃ m', m' < m ∧ ∃ i H', Inv (blk X N' scope cl h3.objs.size s2 H2 fp) [] (blkS n idx σ) H' s7 ∧ tn i s7.heap ∧ (∀ b ∈ fp, H' b = none) ∧ W i m' H' := fun {σ7 H7 s7} I7 hl hw ⟨m', hm, w7⟩ => by
        refine ⟨m', hm, i + 1, H7, (I7.unpinned).weak hl.symm hw, T.keep _ _ _ st6 fun b hb o e => (I7.pin (b, o) (List.mem_append_right _ (List.mem_append_right _ (mem_pinsAt hb e)))).1, fun b hb => ?_, w7⟩
        obtain ⟨o, e, d⟩ := T.obj _ _ st6 b hb
        exact (I7.pin (b, o) (List.mem_append_right _ (List.mem_append_right _ (mem_pinsAt hb e)))).2.1
      refine wpAny_mono (hg _ _ _ _ _ s6 _ H6 x u _ I6' r6 (step x H6 y6)) (fun _ s7 ⟨σ7, H7, I7, ⟨hl, hw⟩, q7⟩ => ?_) fun _ _ z => z.elim
      refine wpAny_mono (ht _ _ _ _ _ s7 σ7 H7 _ I7 q7) (fun ok s8 ⟨H8, I8, q8⟩ => ?_) fun _ _ z => z.elim
      cases ok with
      | false =>
        rw [if_neg Bool.false_ne_true] at q8 ⊢
        exact again I8 hl hw q8
      | true =>
        rw [if_pos rfl] at q8 ⊢
        refine wpAny_mono (he _ _ _ _ _ s8 σ7 H8 _ I8 q8) (fun v9 s9 ⟨x9, H9, I9, r9, ys, e9, l9, q9⟩ => ?_) fun _ _ z => z.elim
        refine wpAny_mono (mt_append (X := blk X N' scope cl h3.objs.size s2 H2 fp) _ s9 σ7 H9 (.ref s2.heap.objs.size) [x9] (.ref s2.heap.objs.size) [v9] (fun _ H' => H' = upd H9 s2.heap.objs.size (.lst (ys ++ [x9]))) I9 rfl (.cons r9 .nil) ⟨s2.heap.objs.size, ys, x9, rfl, rfl, e9, l9, rfl⟩) (fun _ s10 ⟨_, H10, I10, _, e10⟩ => ?_) fun _ _ z => z.elim
        subst e10
        exact again I10 hl hw q9
  exact codeAny_compStart_list (loop _ rfl) (T.self _ 0 _ _ _ (T.keep _ _ _ st2 (fun b _ o e => keep b o e)) (loop _ rfl))

theorem ps_setC {i : Nat} {y : Str} {py spos : Pos} (hN : X.N.Nodup) (hi' : X.N[i]? = some y) (hx : Loc X.env.scope y) (hc : X.calm = true) (k : CompOk X scope cl N' n idx) (hi : PI X tg iter wi)
    (hg : ∀ C s0 H0 ex, PG (blk X N' scope cl C s0 H0 ex) tg g) (ht : ∀ C s0 H0 ex, PIfs (blk X N' scope cl C s0 H0 ex) ifs tc) (he : ∀ C s0 H0 ex, PE (blk X N' scope cl C s0 H0 ex) elt te)
    (hs : ∀ x, foldedSetIterable iter X.env x = pure x := by intro _; rfl) (hsw : swapsWith (.ListComp elt [⟨tg, iter, ifs, 0⟩] scope pos) (some (.Name y py)) spos.line X.env = pure true := by rfl)
    (hf : X.fn y = true ∨ X.env.scope.names.lookup y = some .local := by first | exact .inl rfl | exact .inr rfl | assumption) :
    PS X (.Assign [.Name y py] (.ListComp elt [⟨tg, iter, ifs, 0⟩] scope pos) spos) (tAsg (tComp n idx wi g tc te) (gName i)) := by
  intro pins s σ H D I h
  rw [exec_Assign_Name_used _ _ _ _ hsw]
  refine wpAny_bind (wpAny_standAt (wpAny_bind ?_))
  show wpAny _ X.A (do let _ ← comprehension (.ListComp elt [⟨tg, iter, ifs, 0⟩] scope pos) scope X.env _ (newList []) false (eval iter X.env) (some (assign (.Name y py) X.env))) _ _ s
  refine wpAny_bind (wpAny_mono (comp_gen (use := some (assign (.Name y py) X.env)) (Q' := fun _ s' => SP X pins D .next s') hc k hi hg ht he hs I h ?_) (fun _ s' hq => wpAny_pure (wpAny_pure hq)) fun _ _ e => e)
  intro C D' s' H' m IX fC hn q
  show wpAny _ X.A (assign (.Name y py) X.env (.ref D')) _ _ _
  obtain ⟨o, es, ep, ho, hd, hr⟩ := hn
  have IP := IX.pinned (fp := [C]) (fun b hb => by rw [List.mem_singleton.mp hb]; exact fC) (fun b hb => by rw [List.mem_singleton.mp hb]; exact ⟨o, ho, fun v z => by rw [hd] at z; cases z⟩)
  refine wpAny_mono (pg_name hN hi' hx hf _ s' σ H' (.ref D') (.ref D') D.nx IP rfl q) (fun _ s'' ⟨σ2, H2, I2, q2⟩ => ?_) fun _ _ e => e
  have pn := I2.pin (C, o) (List.mem_append_right _ (List.mem_append_right _ (mem_pinsAt (List.mem_singleton.mpr rfl) ho)))
  refine ⟨m, ⟨o, es, ep, pn.1, hd, hr⟩, fun h' hsb => ⟨σ2, H2, ?_, q2⟩⟩
  have It := I2.unpinned.turned (t' := s''.toks) (it := C) (h' := h') (fun b o nb e => (hsb.2 b nb).trans e) pn.2.1 fC.2.1 fC.2.2.2.1 fC.2.2.2.2.1 fC.2.2.2.2.2
  exact It
end
end L2

namespace DL
open PySem PySem.Spec L2

inductive D where
  | non | bl (b : Bool) | int (i : Int) | str (x : Str) | tup (ds : List D) | lst (ds : List D)
  | feed | scr (ns : List Int)

mutual
def D.py : D → PyData
  | .non => .none
  | .bl b => .bool b
  | .int i => .int i
  | .str x => .str x
  | .tup ds => .tuple (D.pys ds)
  | .lst ds => .list (D.pys ds)
  | .feed => .none
  | .scr _ => .none
def D.pys : List D → List PyData
  | [] => []
  | d :: r => D.py d :: D.pys r
end
mutual
def D.plain : D → Bool
  | .non => true
  | .bl _ => true
  | .int _ => true
  | .str _ => true
  | .tup ds => D.plains ds
  | .lst ds => D.plains ds
  | .feed => false
  | .scr _ => false
def D.plains : List D → Bool
  | [] => true
  | d :: r => D.plain d && D.plains r
end

/-- the law's feed -/
structure FS where
  cells : List Int
  pos : Int
  left : Int
  turn : Int
  kind : Nat

/-- a tape: a list of three, of four -/
def titems (c : Addr) (f : FS) : List V := if f.kind = 1 then [V.ref c, V.int f.pos, V.int f.left] else [V.ref c, V.int f.pos, V.int f.left, V.int f.turn]
/-- as it lies: a dict (kind 0), or a list -/
def fho (c : Addr) (f : FS) : HO := if f.kind = 0 then .dK [(Sum.inr ("cells" : Str), V.ref c), (Sum.inr ("at" : Str), V.int f.pos), (Sum.inr ("left" : Str), V.int f.left), (Sum.inr ("turn" : Str), V.int f.turn)] else .lst (titems c f)
theorem fho_d {c : Addr} {f : FS} (h : f.kind = 0) : fho c f = .dK [(Sum.inr ("cells" : Str), V.ref c), (Sum.inr ("at" : Str), V.int f.pos), (Sum.inr ("left" : Str), V.int f.left), (Sum.inr ("turn" : Str), V.int f.turn)] := if_pos h
theorem fho_tup {c : Addr} {f : FS} {xs : List V} (h : fho c f = .tup xs) : False := by unfold fho at h; split at h <;> cases h
theorem fho_frz {c : Addr} {f : FS} {o : Obj} {u : HO} (h : fho c f = .frz o u) : False := by unfold fho at h; split at h <;> cases h
def FeedR (N : Addr → Prop) (H : Hp) : Option Addr → Option FS → Prop
  | none, none => True
  | some a, some f => f.cells.length ≤ 63 ∧ ∃ c, H a = some (fho c f) ∧ ¬ N c ∧ H c = some (.lst (f.cells.map V.int))
  | _, _ => False

/-- the script: never written -/
def SqF (K : PySem.W.Frag) (H : Hp) (a : Addr) (xs : List V) : Prop :=
  (∃ o, H a = some (.frz o (.lst xs))) ∨
    ∃ (o : Obj) (its : Array Value) (n : Nat), K.lookup a = some o ∧ o.cls = .type "list" ∧ o.dict = none ∧ o.data = .seq its n ∧ its.size ≤ sizeLine ∧ Vals xs its.toList
theorem SqF.sq {K : PySem.W.Frag} {H : Hp} {a : Addr} {xs : List V} (h : SqF K H a xs) : SqL K H a xs := by
  rcases h with ⟨o, h⟩ | h
  · exact .inl (.inr ⟨o, h⟩)
  · exact .inr h

mutual
def Rep (K : PySem.W.Frag) (N : Addr → Prop) (fa : Option Addr) (H : Hp) : D → V → Prop
  | .non, v => v = .non
  | .bl b, v => v = .bl b
  | .int i, v => v = .int i
  | .str x, v => v = .str x ∧ x.length ≤ sizeLine
  | .tup ds, v => ∃ a xs, v = .ref a ∧ SqT K H a xs ∧ Reps K N fa H ds xs
  | .lst ds, v => ∃ a xs, v = .ref a ∧ ¬ N a ∧ H a = some (.lst xs) ∧ Reps K N fa H ds xs
  | .feed, v => ∃ a, fa = some a ∧ v = .ref a
  | .scr ns, v => ns.length ≤ 63 ∧ ∃ a, v = .ref a ∧ SqF K H a (ns.map V.int)
def Reps (K : PySem.W.Frag) (N : Addr → Prop) (fa : Option Addr) (H : Hp) : List D → List V → Prop
  | [], xs => xs = []
  | d :: r, xs => ∃ x ys, xs = x :: ys ∧ Rep K N fa H d x ∧ Reps K N fa H r ys
end
/-- .. where the thing itself may be a list that is being built -/
def RepB (K : PySem.W.Frag) (N : Addr → Prop) (fa : Option Addr) (H : Hp) : D → V → Prop
  | .lst ds, v => ∃ a xs, v = .ref a ∧ fa ≠ some a ∧ H a = some (.lst xs) ∧ Reps K N fa H ds xs
  | d, v => Rep K N fa H d v
def RepBs (K : PySem.W.Frag) (N : Addr → Prop) (fa : Option Addr) (H : Hp) : List D → List V → Prop
  | [], xs => xs = []
  | d :: r, xs => ∃ x ys, xs = x :: ys ∧ RepB K N fa H d x ∧ RepBs K N fa H r ys

/-- what carries from one moment to another -/
structure Car (K : PySem.W.Frag) (N : Addr → Prop) (fa : Option Addr) (H : Hp) (N' : Addr → Prop) (fa' : Option Addr) (H' : Hp) : Prop where
  ls : ∀ b xs, ¬ N b → H b = some (.lst xs) → H' b = some (.lst xs) ∧ ¬ N' b
  tp : ∀ b xs, SqT K H b xs → SqT K H' b xs
  fz : ∀ b xs, SqF K H b xs → SqF K H' b xs
  fe : ∀ a, fa = some a → fa' = some a
section
variable {K : PySem.W.Frag} {N N' : Addr → Prop} {fa fa' : Option Addr} {H H' : Hp}
mutual
theorem Rep.go (c : Car K N fa H N' fa' H') : ∀ (d : D) (v : V), Rep K N fa H d v → Rep K N' fa' H' d v
  | .non, v, h => by simpa only [Rep] using h
  | .bl b, v, h => by simpa only [Rep] using h
  | .int i, v, h => by simpa only [Rep] using h
  | .str x, v, h => by simpa only [Rep] using h
  | .tup ds, v, h => by
    simp only [Rep] at h ⊢
    obtain ⟨a, xs, e, q, r⟩ := h
    exact ⟨a, xs, e, c.tp a xs q, Reps.go c ds xs r⟩
  | .lst ds, v, h => by
    simp only [Rep] at h ⊢
    obtain ⟨a, xs, e, n, q, r⟩ := h
    obtain ⟨q', n'⟩ := c.ls a xs n q
    exact ⟨a, xs, e, n', q', Reps.go c ds xs r⟩
  | .feed, v, h => by
    simp only [Rep] at h ⊢
    obtain ⟨a, e, q⟩ := h
    exact ⟨a, c.fe a e, q⟩
  | .scr ns, v, h => by
    simp only [Rep] at h ⊢
    obtain ⟨l, a, e, q⟩ := h
    exact ⟨l, a, e, c.fz a _ q⟩
theorem Reps.go (c : Car K N fa H N' fa' H') : ∀ (ds : List D) (xs : List V), Reps K N fa H ds xs → Reps K N' fa' H' ds xs
  | [], xs, h => by simpa only [Reps] using h
  | d :: r, xs, h => by
    simp only [Reps] at h ⊢
    obtain ⟨x, ys, e, h1, h2⟩ := h
    exact ⟨x, ys, e, Rep.go c d x h1, Reps.go c r ys h2⟩
end
theorem Rep.b (hN : ∀ a, fa = some a → N a) {d : D} {v : V} (h : Rep K N fa H d v) : RepB K N fa H d v := by
  cases d with
  | lst ds =>
    simp only [Rep] at h
    obtain ⟨a, xs, e, n, q, r⟩ := h
    exact ⟨a, xs, e, fun z => n (hN a z), q, r⟩
  | _ => simpa only [RepB] using h
/-- .. wherever it lies -/
def RepO (K : PySem.W.Frag) (N : Addr → Prop) (fa : Option Addr) (H : Hp) : D → V → Prop
  | .lst ds, v => ∃ a xs, v = .ref a ∧ H a = some (.lst xs) ∧ Reps K N fa H ds xs
  | d, v => Rep K N fa H d v
theorem Rep.o {d : D} {v : V} (h : Rep K N fa H d v) : RepO K N fa H d v := by
  cases d with
  | lst ds =>
    simp only [Rep] at h
    obtain ⟨a, xs, e, _, q, r⟩ := h
    exact ⟨a, xs, e, q, r⟩
  | _ => simpa only [RepO] using h
theorem RepB.o {d : D} {v : V} (h : RepB K N fa H d v) : RepO K N fa H d v := by
  cases d with
  | lst ds =>
    obtain ⟨a, xs, e, _, q, r⟩ := h
    exact ⟨a, xs, e, q, r⟩
  | _ => simpa only [RepO, RepB] using h
theorem Reps.b (hN : ∀ a, fa = some a → N a) : ∀ {ds : List D} {xs : List V}, Reps K N fa H ds xs → RepBs K N fa H ds xs
  | [], xs, h => by simpa only [Reps, RepBs] using h
  | d :: r, xs, h => by
    simp only [Reps] at h
    obtain ⟨x, ys, e, h1, h2⟩ := h
    exact ⟨x, ys, e, h1.b hN, Reps.b hN h2⟩
theorem Reps.length : ∀ {ds : List D} {xs : List V}, Reps K N fa H ds xs → xs.length = ds.length
  | [], xs, h => by simp only [Reps] at h; subst h; rfl
  | d :: r, xs, h => by
    simp only [Reps] at h
    obtain ⟨x, ys, e, h1, h2⟩ := h
    subst e
    simp [Reps.length h2]
theorem Reps.get : ∀ {ds : List D} {xs : List V} {i : Nat} {d : D}, Reps K N fa H ds xs → ds[i]? = some d → ∃ x, xs[i]? = some x ∧ Rep K N fa H d x
  | [], xs, i, d, h, e => by simp at e
  | d :: r, xs, 0, d', h, e => by
    simp only [Reps] at h
    obtain ⟨x, ys, e1, h1, h2⟩ := h
    simp at e
    subst e1; subst e
    exact ⟨x, rfl, h1⟩
  | d :: r, xs, i + 1, d', h, e => by
    simp only [Reps] at h
    obtain ⟨x, ys, e1, h1, h2⟩ := h
    subst e1
    obtain ⟨y, e2, h3⟩ := Reps.get h2 (by simpa using e)
    exact ⟨y, by simpa using e2, h3⟩
theorem Reps.get' : ∀ {ds : List D} {xs : List V} {i : Nat} {x : V}, Reps K N fa H ds xs → xs[i]? = some x → ∃ d, ds[i]? = some d ∧ Rep K N fa H d x := fun {ds xs i x} h e => by
  have hl := h.length
  have hi : i < xs.length := (List.getElem?_eq_some_iff.mp e).1
  obtain ⟨y, e2, h3⟩ := Reps.get h (List.getElem?_eq_getElem (show i < ds.length by omega))
  rw [e] at e2; cases e2
  exact ⟨_, List.getElem?_eq_getElem (show i < ds.length by omega), h3⟩
theorem Reps.append : ∀ {ds es : List D} {xs ys : List V}, Reps K N fa H ds xs → Reps K N fa H es ys → Reps K N fa H (ds ++ es) (xs ++ ys)
  | [], es, xs, ys, h, q => by simp only [Reps] at h; subst h; simpa using q
  | d :: r, es, xs, ys, h, q => by
    simp only [Reps] at h
    obtain ⟨x, zs, e1, h1, h2⟩ := h
    subst e1
    simp only [List.cons_append, Reps]
    exact ⟨x, _, rfl, h1, Reps.append h2 q⟩
theorem Reps.one {d : D} {x : V} (h : Rep K N fa H d x) : Reps K N fa H [d] [x] := by
  simp only [Reps]
  exact ⟨x, [], rfl, h, rfl⟩
theorem Reps.nil : Reps K N fa H [] [] := by simp only [Reps]
theorem Reps.take : ∀ {ds : List D} {xs : List V} (n : Nat), Reps K N fa H ds xs → Reps K N fa H (ds.take n) (xs.take n)
  | _, _, 0, _ => by simp only [List.take_zero, Reps]
  | [], xs, n + 1, h => by simp only [Reps] at h; subst h; simp only [List.take_nil, Reps]
  | d :: r, xs, n + 1, h => by
    simp only [Reps] at h
    obtain ⟨x, zs, e1, h1, h2⟩ := h
    subst e1
    simp only [List.take_succ_cons, Reps]
    exact ⟨x, _, rfl, h1, Reps.take n h2⟩
theorem Reps.drop : ∀ {ds : List D} {xs : List V} (n : Nat), Reps K N fa H ds xs → Reps K N fa H (ds.drop n) (xs.drop n)
  | _, _, 0, h => by simpa using h
  | [], xs, n + 1, h => by simp only [Reps] at h; subst h; simp only [List.drop_nil, Reps]
  | d :: r, xs, n + 1, h => by
    simp only [Reps] at h
    obtain ⟨x, zs, e1, h1, h2⟩ := h
    subst e1
    simpa using Reps.drop n h2
theorem Reps.ints : ∀ {ns : List Int}, Reps K N fa H (ns.map D.int) (ns.map V.int)
  | [] => by simp only [List.map_nil, Reps]
  | n :: r => by
    simp only [List.map_cons, Reps, Rep]
    exact ⟨_, _, rfl, rfl, Reps.ints⟩
theorem Reps.reverse : ∀ {ds : List D} {xs : List V}, Reps K N fa H ds xs → Reps K N fa H ds.reverse xs.reverse
  | [], xs, h => by simp only [Reps] at h; subst h; simp only [List.reverse_nil, Reps]
  | d :: r, xs, h => by
    simp only [Reps] at h
    obtain ⟨x, zs, e1, h1, h2⟩ := h
    subst e1
    simp only [List.reverse_cons]
    exact Reps.append (Reps.reverse h2) (Reps.one h1)
end

inductive Sl where
  | no | val (d : D) | own (ds : List D)
structure DS where
  sl : List Sl
  fs : Option FS

/-- what no thing may reach: F (the callers' own), the lists that are being built here, the feed -/
def NN (F : Addr → Prop) (fa : Option Addr) (O : List Addr) : Addr → Prop := fun b => F b ∨ b ∈ O ∨ fa = some b

def SlR (K : PySem.W.Frag) (N : Addr → Prop) (fa : Option Addr) (H : Hp) : List Sl → List (Option V) → List Addr → Prop
  | [], σ, O => σ = [] ∧ O = []
  | .no :: r, σ, O => ∃ v τ, σ = v :: τ ∧ SlR K N fa H r τ O
  | .val d :: r, σ, O => ∃ u τ, σ = some u :: τ ∧ Rep K N fa H d u ∧ SlR K N fa H r τ O
  | .own ds :: r, σ, O => ∃ a xs τ P, σ = some (.ref a) :: τ ∧ O = a :: P ∧ H a = some (.lst xs) ∧ Reps K N fa H ds xs ∧ SlR K N fa H r τ P

/-- from one moment to a later one: all that is tracked stays but the feed and the lists that were being built; what is being built later was so or is new -/
structure Stp (fa : Option Addr) (O : List Addr) (H : Hp) (fa' : Option Addr) (O' : List Addr) (H' : Hp) : Prop where
  sub : ∀ b ∈ O', b ∈ O ∨ H b = none
  fe : fa' = fa ∨ (fa = none ∧ ∀ a, fa' = some a → H a = none)
  same : ∀ b u, H b = some u → b ∉ O → fa ≠ some b → H' b = some u
  mon : ∀ b, H' b = none → H b = none
/-- .. an expression's: the lists that are being built stay, too -/
structure StE (fa : Option Addr) (O : List Addr) (H : Hp) (fa' : Option Addr) (O' : List Addr) (H' : Hp) : Prop where
  sub : ∀ b ∈ O', b ∈ O
  fe : fa' = fa ∨ (fa = none ∧ ∀ a, fa' = some a → H a = none)
  same : ∀ b u, H b = some u → fa ≠ some b → H' b = some u
  mon : ∀ b, H' b = none → H b = none

structure DI (K : PySem.W.Frag) (F : Addr → Prop) (H0 : Hp) (fa0 : Option Addr) (σ : St) (H : Hp) (fa : Option Addr) (O : List Addr) (s : DS) : Prop where
  nd : O.Nodup
  sl : SlR K (NN F fa O) fa H s.sl σ O
  fr : ∀ b ∈ O, H0 b = none
  st : Stp fa0 [] H0 fa [] H
  tr : ∀ b, F b → H0 b ≠ none
  ff : ∀ a, fa0 = some a → F a
  fd : FeedR (NN F fa O) H fa s.fs
  nf : ∀ a, fa = some a → a ∉ O

section
variable {fa fa' fa'' : Option Addr} {O O' O'' : List Addr} {H H' H'' : Hp}
theorem StE.stp (h : StE fa O H fa' O' H') : Stp fa O H fa' O' H' := ⟨fun b hb => .inl (h.sub b hb), h.fe, fun b u e _ n => h.same b u e n, h.mon⟩
theorem StE.refl : StE fa O H fa O H := ⟨fun _ h => h, .inl rfl, fun _ _ e _ => e, fun _ h => h⟩
theorem Stp.refl : Stp fa O H fa O H := StE.refl.stp
theorem StE.trans (a : StE fa O H fa' O' H') (b : StE fa' O' H' fa'' O'' H'') : StE fa O H fa'' O'' H'' := by
  refine ⟨fun c hc => a.sub c (b.sub c hc), ?_, fun c u e n => ?_, fun c h => a.mon c (b.mon c h)⟩
  · rcases a.fe with e | ⟨e, h⟩
    · rcases b.fe with e' | ⟨e', h'⟩
      · exact .inl (e'.trans e)
      · exact .inr ⟨e ▸ e', fun c z => a.mon c (h' c z)⟩
    · rcases b.fe with e' | ⟨e', h'⟩
      · exact .inr ⟨e, fun c z => h c (e' ▸ z)⟩
      · exact .inr ⟨e, fun c z => a.mon c (h' c z)⟩
  · refine b.same c u (a.same c u e n) fun z => ?_
    rcases a.fe with q | ⟨q, h⟩
    · rw [q] at z; exact n z
    · rw [h c z] at e; cases e
theorem Stp.trans (a : Stp fa O H fa' O' H') (b : Stp fa' O' H' fa'' O'' H'') : Stp fa O H fa'' O'' H'' := by
  refine ⟨fun c hc => ?_, ?_, fun c u e hc n => ?_, fun c h => a.mon c (b.mon c h)⟩
  · rcases b.sub c hc with q | q
    · exact a.sub c q
    · exact .inr (a.mon c q)
  · rcases a.fe with e | ⟨e, h⟩
    · rcases b.fe with e' | ⟨e', h'⟩
      · exact .inl (e'.trans e)
      · exact .inr ⟨e ▸ e', fun c z => a.mon c (h' c z)⟩
    · rcases b.fe with e' | ⟨e', h'⟩
      · exact .inr ⟨e, fun c z => h c (e' ▸ z)⟩
      · exact .inr ⟨e, fun c z => a.mon c (h' c z)⟩
  · refine b.same c u (a.same c u e hc n) (fun z => ?_) fun z => ?_
    · rcases a.sub c z with q | q
      · exact hc q
      · rw [q] at e; cases e
    · rcases a.fe with q | ⟨q, h⟩
      · rw [q] at z; exact n z
      · rw [h c z] at e; cases e
theorem Stp.fa_keep (a : Stp fa O H fa' O' H') {x : Addr} (h : fa = some x) : fa' = some x := by
  rcases a.fe with e | ⟨e, _⟩
  · rw [e, h]
  · rw [h] at e; cases e
variable {K : PySem.W.Frag} {F : Addr → Prop} {H0 : Hp} {fa0 : Option Addr} {σ : St} {s : DS}
/-- the feed's own address holds nothing frozen -/
theorem FeedR.no_frz {N : Addr → Prop} {fs : Option FS} {a : Addr} {o : Obj} {u : HO} (h : FeedR N H fa fs) (e : fa = some a) (q : H a = some (.frz o u)) : False := by
  subst e
  cases fs with
  | none => exact h
  | some f =>
    obtain ⟨_, c, h1, _⟩ := h
    rw [h1] at q; exact fho_frz (Option.some.inj q)
theorem FeedR.no_tup {N : Addr → Prop} {fs : Option FS} {a : Addr} {xs : List V} (h : FeedR N H fa fs) (e : fa = some a) (z : Rd H a (.tup xs)) : False := by
  rcases z with z | ⟨o, z⟩
  · subst e
    cases fs with
    | none => exact h
    | some f =>
      obtain ⟨_, c, h1, _⟩ := h
      rw [h1] at z; exact fho_tup (Option.some.inj z)
  · exact h.no_frz e z
theorem FeedR.tracked {N : Addr → Prop} {fs : Option FS} {a : Addr} (h : FeedR N H fa fs) (e : fa = some a) : H a ≠ none := by
  subst e
  cases fs with
  | none => exact h.elim
  | some f =>
    obtain ⟨_, c, h1, _⟩ := h
    rw [h1]; simp
theorem SqT.stp' (a : Stp fa O H fa' O' H') (hf : ∀ x, fa = some x → ∀ xs, ¬ Rd H x (.tup xs)) (hO : ∀ x ∈ O, ∀ xs, ¬ Rd H x (.tup xs)) {b : Addr} {xs : List V} (h : SqT K H b xs) : SqT K H' b xs := by
  rcases h with h | h
  · refine .inl ?_
    have n1 : b ∉ O := fun z => hO b z xs h
    have n2 : fa ≠ some b := fun z => hf b z xs h
    rcases h with h | ⟨o, h⟩
    · exact .inl (a.same _ _ h n1 n2)
    · exact .inr ⟨o, a.same _ _ h n1 n2⟩
  · exact .inr h
theorem SlR.owned : ∀ {sl : List Sl} {N : Addr → Prop} {σ : List (Option V)} {O : List Addr}, SlR K N fa H sl σ O → ∀ b ∈ O, ∃ xs, H b = some (.lst xs)
  | [], N, σ, O, h, b, hb => by simp only [SlR] at h; rw [h.2] at hb; cases hb
  | .no :: r, N, σ, O, h, b, hb => by
    simp only [SlR] at h
    obtain ⟨v, τ, _, h⟩ := h
    exact SlR.owned h b hb
  | .val d :: r, N, σ, O, h, b, hb => by
    simp only [SlR] at h
    obtain ⟨v, τ, _, _, h⟩ := h
    exact SlR.owned h b hb
  | .own ds :: r, N, σ, O, h, b, hb => by
    simp only [SlR] at h
    obtain ⟨a, xs, τ, P, _, rfl, e, _, h⟩ := h
    rcases List.mem_cons.mp hb with z | z
    · subst z; exact ⟨xs, e⟩
    · exact SlR.owned h b z
theorem DI.owned (I : DI K F H0 fa0 σ H fa O s) {b : Addr} (hb : b ∈ O) : ∃ xs, H b = some (.lst xs) := SlR.owned I.sl b hb
theorem DI.trF (I : DI K F H0 fa0 σ H fa O s) {b : Addr} (hb : F b) : H b ≠ none := fun z => I.tr b hb (I.st.mon b z)
theorem DI.nn_tracked (I : DI K F H0 fa0 σ H fa O s) {b : Addr} (h : NN F fa O b) : H b ≠ none := by
  rcases h with h | h | h
  · exact I.trF h
  · obtain ⟨xs, e⟩ := I.owned h
    rw [e]; simp
  · exact I.fd.tracked h
theorem DI.nf_step (I : DI K F H0 fa0 σ H fa O s) (h : fa' = fa ∨ (fa = none ∧ ∀ a, fa' = some a → H a = none)) : ∀ a, fa' = some a → a ∉ O := fun a e m => by
  rcases h with z | ⟨z, y⟩
  · rw [z] at e; exact I.nf a e m
  · obtain ⟨xs, q⟩ := I.owned m
    rw [y a e] at q; cases q
/-- what carries over a step -/
theorem DI.car (I : DI K F H0 fa0 σ H fa O s) (a : Stp fa O H fa' O' H') : Car K (NN F fa O) fa H (NN F fa' O') fa' H' := by
  have nt : ∀ x xs, H x = some (.lst xs) → ∀ ys, ¬ Rd H x (.tup ys) := fun x xs e ys z => by
    rcases z with z | ⟨o, z⟩ <;> · rw [e] at z; cases z
  refine ⟨fun b xs n q => ?_, fun b xs q => ?_, fun b xs q => ?_, fun x e => a.fa_keep e⟩
  · have n1 : b ∉ O := fun z => n (.inr (.inl z))
    have n2 : fa ≠ some b := fun z => n (.inr (.inr z))
    have tr : H b ≠ none := by rw [q]; simp
    refine ⟨a.same _ _ q n1 n2, fun z => ?_⟩
    · rcases z with z | z | z
      · exact n (.inl z)
      · rcases a.sub b z with y | y
        · exact n1 y
        · exact tr y
      · rcases a.fe with e | ⟨e, h⟩
        · rw [e] at z; exact n2 z
        · exact tr (h b z)
  · refine SqT.stp' a (fun x e ys z => ?_) (fun x hx ys => ?_) q
    · exact I.fd.no_tup e z
    · obtain ⟨xs, e⟩ := I.owned hx
      exact nt x xs e ys
  · rcases q with ⟨o, q⟩ | q
    · refine .inl ⟨o, a.same _ _ q (fun z => ?_) fun z => ?_⟩
      · obtain ⟨ys, e⟩ := I.owned z
        rw [e] at q; cases q
      · exact I.fd.no_frz z q
    · exact .inr q
end
end DL

namespace DL
open PySem PySem.Spec L2

/-- what stands fixed through a def's body -/
structure Gh where
  F : Addr → Prop
  H0 : Hp
  fa0 : Option Addr
abbrev GI (K : PySem.W.Frag) (g : Gh) := DI K g.F g.H0 g.fa0

section
variable {K : PySem.W.Frag} {N N' : Addr → Prop} {fa fa' : Option Addr} {H H' : Hp} {g : Gh} {σ : L2.St} {O O' : List Addr} {s : DS}
theorem SlR.go (c : Car K N fa H N' fa' H') : ∀ {sl : List Sl} {σ : List (Option V)} {O : List Addr}, (∀ a xs, a ∈ O → H a = some (.lst xs) → H' a = some (.lst xs)) → SlR K N fa H sl σ O → SlR K N' fa' H' sl σ O
  | [], σ, O, _, h => by simpa only [SlR] using h
  | .no :: r, σ, O, ho, h => by
    simp only [SlR] at h ⊢
    obtain ⟨v, τ, e, h⟩ := h
    exact ⟨v, τ, e, SlR.go c ho h⟩
  | .val d :: r, σ, O, ho, h => by
    simp only [SlR] at h ⊢
    obtain ⟨u, τ, e, q, h⟩ := h
    exact ⟨u, τ, e, Rep.go c d u q, SlR.go c ho h⟩
  | .own ds :: r, σ, O, ho, h => by
    simp only [SlR] at h ⊢
    obtain ⟨a, xs, τ, P, e, rfl, ha, q, h⟩ := h
    exact ⟨a, xs, τ, P, e, rfl, ho a xs (List.mem_cons_self ..) ha, Reps.go c ds xs q, SlR.go c (fun b ys hb => ho b ys (List.mem_cons_of_mem _ hb)) h⟩
theorem SlR.val : ∀ {sl : List Sl} {σ : List (Option V)} {O : List Addr} {i : Nat} {d : D}, SlR K N fa H sl σ O → sl[i]? = some (.val d) → ∃ u, σ[i]? = some (some u) ∧ Rep K N fa H d u
  | [], σ, O, i, d, h, e => by simp at e
  | .no :: r, σ, O, i, d, h, e => by
    simp only [SlR] at h
    obtain ⟨v, τ, rfl, h⟩ := h
    cases i with
    | zero => simp at e
    | succ i => simpa using SlR.val h (by simpa using e)
  | .val d' :: r, σ, O, i, d, h, e => by
    simp only [SlR] at h
    obtain ⟨u, τ, rfl, q, h⟩ := h
    cases i with
    | zero => simp at e; subst e; exact ⟨u, rfl, q⟩
    | succ i => simpa using SlR.val h (by simpa using e)
  | .own ds :: r, σ, O, i, d, h, e => by
    simp only [SlR] at h
    obtain ⟨a, xs, τ, P, rfl, rfl, ha, q, h⟩ := h
    cases i with
    | zero => simp at e
    | succ i => simpa using SlR.val h (by simpa using e)
theorem SlR.own : ∀ {sl : List Sl} {σ : List (Option V)} {O : List Addr} {i : Nat} {ds : List D}, SlR K N fa H sl σ O → sl[i]? = some (.own ds) → ∃ a xs, σ[i]? = some (some (.ref a)) ∧ a ∈ O ∧ H a = some (.lst xs) ∧ Reps K N fa H ds xs
  | [], σ, O, i, d, h, e => by simp at e
  | .no :: r, σ, O, i, d, h, e => by
    simp only [SlR] at h
    obtain ⟨v, τ, rfl, h⟩ := h
    cases i with
    | zero => simp at e
    | succ i => simpa using SlR.own h (by simpa using e)
  | .val d' :: r, σ, O, i, d, h, e => by
    simp only [SlR] at h
    obtain ⟨u, τ, rfl, q, h⟩ := h
    cases i with
    | zero => simp at e
    | succ i => simpa using SlR.own h (by simpa using e)
  | .own ds :: r, σ, O, i, d, h, e => by
    simp only [SlR] at h
    obtain ⟨a, xs, τ, P, rfl, rfl, ha, q, h⟩ := h
    cases i with
    | zero => simp at e; subst e; exact ⟨a, xs, rfl, List.mem_cons_self .., ha, q⟩
    | succ i =>
      obtain ⟨b, ys, e1, m, e2, q2⟩ := SlR.own h (by simpa using e)
      exact ⟨b, ys, by simpa using e1, List.mem_cons_of_mem _ m, e2, q2⟩
theorem SlR.len : ∀ {sl : List Sl} {σ : List (Option V)} {O : List Addr}, SlR K N fa H sl σ O → σ.length = sl.length
  | [], σ, O, h => by simp only [SlR] at h; rw [h.1]; rfl
  | .no :: r, σ, O, h => by
    simp only [SlR] at h
    obtain ⟨v, τ, rfl, h⟩ := h
    simp [SlR.len h]
  | .val d' :: r, σ, O, h => by
    simp only [SlR] at h
    obtain ⟨u, τ, rfl, q, h⟩ := h
    simp [SlR.len h]
  | .own ds :: r, σ, O, h => by
    simp only [SlR] at h
    obtain ⟨a, xs, τ, P, rfl, rfl, ha, q, h⟩ := h
    simp [SlR.len h]
/-- a slot takes a thing: what was being built there is let go -/
theorem SlR.put : ∀ {sl : List Sl} {σ : List (Option V)} {O : List Addr} (i : Nat) {d : D} {u : V}, SlR K N fa H sl σ O → Rep K N fa H d u →
    ∃ P, P.Sublist O ∧ SlR K N fa H (sl.set i (.val d)) (σ.set i (some u)) P ∧ (O.Nodup → ∀ a, sl[i]?.isSome = true → (∃ ds, sl[i]? = some (.own ds)) → σ[i]? = some (some (.ref a)) → a ∉ P)
  | [], σ, O, i, d, u, h, q => by
    simp only [SlR] at h
    refine ⟨O, List.Sublist.refl _, ?_, fun _ a z => by simp at z⟩
    rw [h.1, h.2]
    simp [SlR]
  | .no :: r, σ, O, i, d, u, h, q => by
    simp only [SlR] at h
    obtain ⟨v, τ, rfl, h⟩ := h
    cases i with
    | zero => exact ⟨O, List.Sublist.refl _, by simp only [List.set_cons_zero, SlR]; exact ⟨u, τ, rfl, q, h⟩, fun _ a _ z => by obtain ⟨ds, z⟩ := z; simp at z⟩
    | succ i =>
      obtain ⟨P, hs, h1, h2⟩ := SlR.put i h q
      exact ⟨P, hs, by simp only [List.set_cons_succ, SlR]; exact ⟨v, _, rfl, h1⟩, by simpa using h2⟩
  | .val d' :: r, σ, O, i, d, u, h, q => by
    simp only [SlR] at h
    obtain ⟨v, τ, rfl, qv, h⟩ := h
    cases i with
    | zero => exact ⟨O, List.Sublist.refl _, by simp only [List.set_cons_zero, SlR]; exact ⟨u, τ, rfl, q, h⟩, fun _ a _ z => by obtain ⟨ds, z⟩ := z; simp at z⟩
    | succ i =>
      obtain ⟨P, hs, h1, h2⟩ := SlR.put i h q
      exact ⟨P, hs, by simp only [List.set_cons_succ, SlR]; exact ⟨v, _, rfl, qv, h1⟩, by simpa using h2⟩
  | .own ds :: r, σ, O, i, d, u, h, q => by
    simp only [SlR] at h
    obtain ⟨a, xs, τ, P, rfl, rfl, ha, qv, h⟩ := h
    cases i with
    | zero =>
      refine ⟨P, List.sublist_cons_self .., by simp only [List.set_cons_zero, SlR]; exact ⟨u, τ, rfl, q, h⟩, fun nd b _ _ e => ?_⟩
      simp at e; subst e
      exact (List.nodup_cons.mp nd).1
    | succ i =>
      obtain ⟨P', hs, h1, h2⟩ := SlR.put i h q
      refine ⟨a :: P', hs.cons_cons a, by simp only [List.set_cons_succ, SlR]; exact ⟨a, xs, _, P', rfl, rfl, ha, qv, h1⟩, fun nd b e1 e2 e3 => ?_⟩
      have nd' := List.nodup_cons.mp nd
      have n1 := h2 nd'.2 b (by simpa using e1) (by simpa using e2) (by simpa using e3)
      intro z
      rcases List.mem_cons.mp z with z | z
      · subst z
        obtain ⟨dz, e2⟩ := e2
        obtain ⟨b', _, e4, m, _⟩ := SlR.own h (i := i) (by simpa using e2)
        rw [List.getElem?_cons_succ] at e3
        rw [e3] at e4
        cases e4
        exact nd'.1 m
      · exact n1 z
/-- a slot takes a new list -/
theorem SlR.putN : ∀ {sl : List Sl} {σ : List (Option V)} {O : List Addr} (i : Nat) {ds : List D} {p : Addr} {xs : List V}, SlR K N fa H sl σ O → i < sl.length → p ∉ O → O.Nodup → H p = some (.lst xs) → Reps K N fa H ds xs →
    ∃ P, (∀ b ∈ P, b = p ∨ b ∈ O) ∧ P.Nodup ∧ SlR K N fa H (sl.set i (.own ds)) (σ.set i (some (.ref p))) P
  | [], σ, O, i, ds, p, xs, h, hi, hp, nd, e, q => by simp at hi
  | .no :: r, σ, O, i, ds, p, xs, h, hi, hp, nd, e, q => by
    simp only [SlR] at h
    obtain ⟨v, τ, rfl, h⟩ := h
    cases i with
    | zero => exact ⟨p :: O, fun b hb => List.mem_cons.mp hb, List.nodup_cons.mpr ⟨hp, nd⟩, by simp only [List.set_cons_zero, SlR]; exact ⟨p, xs, τ, O, rfl, rfl, e, q, h⟩⟩
    | succ i =>
      obtain ⟨P, h1, h2, h3⟩ := SlR.putN i h (by simpa using hi) hp nd e q
      exact ⟨P, h1, h2, by simp only [List.set_cons_succ, SlR]; exact ⟨v, _, rfl, h3⟩⟩
  | .val d' :: r, σ, O, i, ds, p, xs, h, hi, hp, nd, e, q => by
    simp only [SlR] at h
    obtain ⟨v, τ, rfl, qv, h⟩ := h
    cases i with
    | zero => exact ⟨p :: O, fun b hb => List.mem_cons.mp hb, List.nodup_cons.mpr ⟨hp, nd⟩, by simp only [List.set_cons_zero, SlR]; exact ⟨p, xs, τ, O, rfl, rfl, e, q, h⟩⟩
    | succ i =>
      obtain ⟨P, h1, h2, h3⟩ := SlR.putN i h (by simpa using hi) hp nd e q
      exact ⟨P, h1, h2, by simp only [List.set_cons_succ, SlR]; exact ⟨v, _, rfl, qv, h3⟩⟩
  | .own ds' :: r, σ, O, i, ds, p, xs, h, hi, hp, nd, e, q => by
    simp only [SlR] at h
    obtain ⟨a, ys, τ, P, rfl, rfl, ha, qv, h⟩ := h
    have nd' := List.nodup_cons.mp nd
    cases i with
    | zero =>
      refine ⟨p :: P, fun b hb => (List.mem_cons.mp hb).imp id fun z => List.mem_cons_of_mem _ z, List.nodup_cons.mpr ⟨fun z => hp (List.mem_cons_of_mem _ z), nd'.2⟩, ?_⟩
      simp only [List.set_cons_zero, SlR]
      exact ⟨p, xs, τ, P, rfl, rfl, e, q, h⟩
    | succ i =>
      obtain ⟨P', h1, h2, h3⟩ := SlR.putN i h (by simpa using hi) (fun z => hp (List.mem_cons_of_mem _ z)) nd'.2 e q
      refine ⟨a :: P', fun b hb => ?_, List.nodup_cons.mpr ⟨fun z => ?_, h2⟩, by simp only [List.set_cons_succ, SlR]; exact ⟨a, ys, _, P', rfl, rfl, ha, qv, h3⟩⟩
      · rcases List.mem_cons.mp hb with z | z
        · exact .inr (by rw [z]; exact List.mem_cons_self ..)
        · exact (h1 b z).imp id fun y => List.mem_cons_of_mem _ y
      · rcases h1 a z with y | y
        · exact hp (by rw [y]; exact List.mem_cons_self ..)
        · exact nd'.1 y
/-- the list of a slot is rewritten -/
theorem SlR.rew : ∀ {sl : List Sl} {σ : List (Option V)} {O : List Addr} {i : Nat} {ds es : List D} {a : Addr} {ys : List V}, SlR K N fa H sl σ O → O.Nodup → (∀ b ∈ O, N b) → sl[i]? = some (.own ds) → σ[i]? = some (some (.ref a)) → H' a = some (.lst ys) →
    Car K N fa H N fa H' → (∀ b u, b ≠ a → H b = some u → H' b = some u) → Reps K N fa H' es ys → SlR K N fa H' (sl.set i (.own es)) σ O
  | [], σ, O, i, ds, es, a, ys, h, nd, hN, e1, e2, e3, c, k, q => by simp at e1
  | .no :: r, σ, O, i, ds, es, a, ys, h, nd, hN, e1, e2, e3, c, k, q => by
    simp only [SlR] at h
    obtain ⟨v, τ, rfl, h⟩ := h
    cases i with
    | zero => simp at e1
    | succ i => simp only [List.set_cons_succ, SlR]; exact ⟨v, τ, rfl, SlR.rew h nd hN (by simpa using e1) (by simpa using e2) e3 c k q⟩
  | .val d' :: r, σ, O, i, ds, es, a, ys, h, nd, hN, e1, e2, e3, c, k, q => by
    simp only [SlR] at h
    obtain ⟨v, τ, rfl, qv, h⟩ := h
    cases i with
    | zero => simp at e1
    | succ i => simp only [List.set_cons_succ, SlR]; exact ⟨v, τ, rfl, Rep.go c _ _ qv, SlR.rew h nd hN (by simpa using e1) (by simpa using e2) e3 c k q⟩
  | .own ds' :: r, σ, O, i, ds, es, a, ys, h, nd, hN, e1, e2, e3, c, k, q => by
    simp only [SlR] at h
    obtain ⟨b, zs, τ, P, rfl, rfl, ha, qv, h⟩ := h
    have nd' := List.nodup_cons.mp nd
    cases i with
    | zero =>
      simp at e2
      subst e2
      simp only [List.set_cons_zero, SlR]
      exact ⟨b, ys, τ, P, rfl, rfl, e3, q, SlR.go c (fun x xs hx z => k x _ (fun y => nd'.1 (y ▸ hx)) z) h⟩
    | succ i =>
      have nb : b ≠ a := fun z => by
        obtain ⟨a', _, e4, m, _⟩ := SlR.own h (i := i) (by simpa using e1)
        rw [List.getElem?_cons_succ] at e2
        rw [e2] at e4
        cases e4
        exact nd'.1 (z ▸ m)
      simp only [List.set_cons_succ, SlR]
      exact ⟨b, zs, τ, P, rfl, rfl, k b _ nb ha, Reps.go c _ _ qv, SlR.rew h nd'.2 (fun x hx => hN x (List.mem_cons_of_mem _ hx)) (by simpa using e1) (by simpa using e2) e3 c k q⟩

theorem RepB.stp {d : D} {v : V} (I : GI K g σ H fa O s) (a : StE fa O H fa' O' H') (h : RepB K (NN g.F fa O) fa H d v) : RepB K (NN g.F fa' O') fa' H' d v := by
  have c := I.car a.stp
  cases d with
  | lst ds =>
    obtain ⟨x, xs, e, nf, q, r⟩ := h
    refine ⟨x, xs, e, fun z => ?_, a.same _ _ q nf, Reps.go c ds xs r⟩
    rcases a.fe with y | ⟨_, y⟩
    · rw [y] at z; exact nf z
    · rw [y x z] at q; cases q
  | _ =>
    simp only [RepB] at h ⊢
    exact Rep.go c _ _ h
theorem RepBs.stp (I : GI K g σ H fa O s) (a : StE fa O H fa' O' H') : ∀ {ds : List D} {xs : List V}, RepBs K (NN g.F fa O) fa H ds xs → RepBs K (NN g.F fa' O') fa' H' ds xs
  | [], xs, h => by simpa only [RepBs] using h
  | d :: r, xs, h => by
    obtain ⟨x, ys, e, h1, h2⟩ := h
    exact ⟨x, ys, e, RepB.stp I a h1, RepBs.stp I a h2⟩
theorem Rep.stp {d : D} {v : V} (I : GI K g σ H fa O s) (a : Stp fa O H fa' O' H') (h : Rep K (NN g.F fa O) fa H d v) : Rep K (NN g.F fa' O') fa' H' d v := Rep.go (I.car a) d v h
theorem Reps.stp {ds : List D} {xs : List V} (I : GI K g σ H fa O s) (a : Stp fa O H fa' O' H') (h : Reps K (NN g.F fa O) fa H ds xs) : Reps K (NN g.F fa' O') fa' H' ds xs := Reps.go (I.car a) ds xs h

theorem stE_new {p : Addr} {o : HO} (h : H p = none) : StE fa O H fa O (upd H p o) :=
  ⟨fun _ h => h, .inl rfl, fun b u e _ => by rw [upd_ne (ne_of_none e h)]; exact e, fun b z => by
    by_cases hb : b = p
    · subst hb; exact h
    · rw [upd_ne hb] at z; exact z⟩
theorem FeedR.car {fs : Option FS} (c : Car K N fa H N' fa H') (h : ∀ a, fa = some a → H' a = H a) (f : FeedR N H fa fs) : FeedR N' H' fa fs := by
  cases fa with
  | none => cases fs <;> simpa only [FeedR] using f
  | some a =>
    cases fs with
    | none => simpa only [FeedR] using f
    | some x =>
      simp only [FeedR] at f ⊢
      obtain ⟨l, b, h1, h2, h3⟩ := f
      obtain ⟨q, n⟩ := c.ls b _ h2 h3
      exact ⟨l, b, by rw [h a rfl]; exact h1, n, q⟩
theorem FeedR.same_new {fs : Option FS} {p : Addr} {o : HO} (f : FeedR N H fa fs) (h : H p = none) : ∀ a, fa = some a → upd H p o a = H a := fun a e => upd_ne fun z => f.tracked e (z ▸ h)
theorem DI.new {p : Addr} {o : HO} (I : GI K g σ H fa O s) (h : H p = none) : GI K g σ (upd H p o) fa O s := by
  have a : StE fa O H fa O (upd H p o) := stE_new h
  refine ⟨I.nd, SlR.go (I.car a.stp) (fun b xs hb e => ?_) I.sl, I.fr, I.st.trans ((stE_new (O := []) h).stp), I.tr, I.ff, I.fd.car (I.car a.stp) (I.fd.same_new h), I.nf⟩
  rw [upd_ne (ne_of_none e h)]; exact e
end

abbrev DE := DS → Option (D × DS)
abbrev DT := DS → Option (Bool × DS)
abbrev DA := DS → Option (List D × DS)
inductive Fl where
  | next | brk | cont | ret (d : D)
abbrev DM := DS → Option (Fl × DS)

/-- a list at p that nothing reaches yet -/
structure NewL (K : PySem.W.Frag) (g : Gh) (σ : L2.St) (H : Hp) (fa : Option Addr) (O : List Addr) (s : DS) (p : Addr) (xs : List V) (ds : List D) : Prop where
  gi : GI K g σ H fa O s
  ls : H p = some (.lst xs)
  sl : SlR K (fun b => NN g.F fa O b ∨ b = p) fa H s.sl σ O
  fd : FeedR (fun b => NN g.F fa O b ∨ b = p) H fa s.fs
  rs : Reps K (fun b => NN g.F fa O b ∨ b = p) fa H ds xs
  nf : fa ≠ some p
section
variable (K : PySem.W.Frag) (g : Gh)
def liftE (f : DE) : TE := fun σ H Q => ∃ fa O s d s', GI K g σ H fa O s ∧ f s = some (d, s') ∧
  ∀ v H' fa' O', StE fa O H fa' O' H' → GI K g σ H' fa' O' s' → Rep K (NN g.F fa' O') fa' H' d v → Q v H'
def liftB (f : DE) : TE := fun σ H Q => ∃ fa O s d s', GI K g σ H fa O s ∧ f s = some (d, s') ∧
  ∀ v H' fa' O', StE fa O H fa' O' H' → GI K g σ H' fa' O' s' → RepB K (NN g.F fa' O') fa' H' d v → Q v H'
/-- a new list -/
def liftF (f : DA) : TE := fun σ H Q => ∃ fa O s ds s', GI K g σ H fa O s ∧ f s = some (ds, s') ∧
  ∀ p xs H' fa' O', StE fa O H fa' O' H' → NewL K g σ H' fa' O' s' p xs ds → H p = none → Q (.ref p) H'
def liftT (f : DT) : TT := fun σ H Q => ∃ fa O s d s', GI K g σ H fa O s ∧ f s = some (d, s') ∧
  ∀ H' fa' O', StE fa O H fa' O' H' → GI K g σ H' fa' O' s' → Q d H'
def liftA (f : DA) : TA := fun σ H Q => ∃ fa O s ds s', GI K g σ H fa O s ∧ f s = some (ds, s') ∧
  ∀ vs H' fa' O', StE fa O H fa' O' H' → GI K g σ H' fa' O' s' → Reps K (NN g.F fa' O') fa' H' ds vs → Q vs H'
def liftBA (f : DA) : TA := fun σ H Q => ∃ fa O s ds s', GI K g σ H fa O s ∧ f s = some (ds, s') ∧
  ∀ vs H' fa' O', StE fa O H fa' O' H' → GI K g σ H' fa' O' s' → RepBs K (NN g.F fa' O') fa' H' ds vs → Q vs H'
def FlK (E : Ends) (fa : Option Addr) (O : List Addr) (H : Hp) (fl : Fl) (s' : DS) : Prop :=
  match fl with
  | .next => ∀ σ' H' fa' O', Stp fa O H fa' O' H' → GI K g σ' H' fa' O' s' → E.nx σ' H'
  | .brk => ∀ σ' H' fa' O', Stp fa O H fa' O' H' → GI K g σ' H' fa' O' s' → E.bk σ' H'
  | .cont => ∀ σ' H' fa' O', Stp fa O H fa' O' H' → GI K g σ' H' fa' O' s' → E.ct σ' H'
  | .ret d => ∀ σ' v H' fa' O', Stp fa O H fa' O' H' → GI K g σ' H' fa' O' s' → Rep K (NN g.F fa' O') fa' H' d v → E.rt v H'
def liftS (f : DM) : TS := fun E σ H => ∃ fa O s fl s', GI K g σ H fa O s ∧ f s = some (fl, s') ∧ FlK K g E fa O H fl s'
end
structure EO (X : Cx) (g : Gh) (e : Expr) (f : DE) : Prop where
  pe : PE X e (liftE X.K g f)
structure BO (X : Cx) (g : Gh) (e : Expr) (f : DE) : Prop where
  pe : PE X e (liftB X.K g f)
structure FO (X : Cx) (g : Gh) (e : Expr) (f : DA) : Prop where
  pe : PE X e (liftF X.K g f)
structure TO (X : Cx) (g : Gh) (e : Expr) (f : DT) : Prop where
  pe : PT X e (liftT X.K g f)
structure WO (X : Cx) (g : Gh) (e : Expr) (f : DT) : Prop where
  pe : PW X e (liftT X.K g f)
structure AO (X : Cx) (g : Gh) (es : List Expr) (f : DA) : Prop where
  pe : PA X es (liftA X.K g f)
structure BAO (X : Cx) (g : Gh) (es : List Expr) (f : DA) : Prop where
  pe : PA X es (liftBA X.K g f)
structure SO (X : Cx) (g : Gh) (st : Stmt) (f : DM) : Prop where
  pe : PS X st (liftS X.K g f)
structure SSO (X : Cx) (g : Gh) (st : List Stmt) (f : DM) : Prop where
  pe : PSs X st (liftS X.K g f)

section
variable {X : Cx} {g : Gh} {e : Expr} {f : DE}
theorem PEw {t t' : TE} (h : PE X e t) (w : ∀ σ H Q, t' σ H Q → t σ H Q) : PE X e t' := fun pins s σ H Q I q => h pins s σ H Q I (w σ H Q q)
theorem PTw {t t' : TT} (h : PT X e t) (w : ∀ σ H Q, t' σ H Q → t σ H Q) : PT X e t' := fun pins s σ H Q I q => h pins s σ H Q I (w σ H Q q)
theorem PWw {t t' : TT} (h : PW X e t) (w : ∀ σ H Q, t' σ H Q → t σ H Q) : PW X e t' := fun wh pins s σ H Q I q => h wh pins s σ H Q I (w σ H Q q)
theorem PAw {es : List Expr} {t t' : TA} (h : PA X es t) (w : ∀ σ H Q, t' σ H Q → t σ H Q) : PA X es t' := fun pos pins s σ H Q I q => h pos pins s σ H Q I (w σ H Q q)
theorem PSw {st : Stmt} {t t' : TS} (h : PS X st t) (w : ∀ E σ H, t' E σ H → t E σ H) : PS X st t' := fun pins s σ H E I q => h pins s σ H E I (w E σ H q)
theorem PSsw {st : List Stmt} {t t' : TS} (h : PSs X st t) (w : ∀ E σ H, t' E σ H → t E σ H) : PSs X st t' := fun pins s σ H E I q => h pins s σ H E I (w E σ H q)
theorem EO.w {f : DE} {t : TE} (h : PE X e t) (w : ∀ σ H Q, liftE X.K g f σ H Q → t σ H Q) : EO X g e f := ⟨PEw h w⟩
theorem BO.w {f : DE} {t : TE} (h : PE X e t) (w : ∀ σ H Q, liftB X.K g f σ H Q → t σ H Q) : BO X g e f := ⟨PEw h w⟩
theorem FO.w {f : DA} {t : TE} (h : PE X e t) (w : ∀ σ H Q, liftF X.K g f σ H Q → t σ H Q) : FO X g e f := ⟨PEw h w⟩
theorem TO.w {f : DT} {t : TT} (h : PT X e t) (w : ∀ σ H Q, liftT X.K g f σ H Q → t σ H Q) : TO X g e f := ⟨PTw h w⟩
theorem WO.w {f : DT} {t : TT} (h : PW X e t) (w : ∀ σ H Q, liftT X.K g f σ H Q → t σ H Q) : WO X g e f := ⟨PWw h w⟩
theorem AO.w {es : List Expr} {f : DA} {t : TA} (h : PA X es t) (w : ∀ σ H Q, liftA X.K g f σ H Q → t σ H Q) : AO X g es f := ⟨PAw h w⟩
theorem BAO.w {es : List Expr} {f : DA} {t : TA} (h : PA X es t) (w : ∀ σ H Q, liftBA X.K g f σ H Q → t σ H Q) : BAO X g es f := ⟨PAw h w⟩
theorem SO.w {st : Stmt} {f : DM} {t : TS} (h : PS X st t) (w : ∀ E σ H, liftS X.K g f E σ H → t E σ H) : SO X g st f := ⟨PSw h w⟩
theorem SSO.w {st : List Stmt} {f : DM} {t : TS} (h : PSs X st t) (w : ∀ E σ H, liftS X.K g f E σ H → t E σ H) : SSO X g st f := ⟨PSsw h w⟩
theorem EO.b (h : EO X g e f) : BO X g e f := BO.w h.pe fun σ H Q ⟨fa, O, s, d, s', I, e, k⟩ => ⟨fa, O, s, d, s', I, e, fun v H' fa' O' a I' r => k v H' fa' O' a I' (r.b fun _ z => .inr (.inr z))⟩
def dNew (f : DA) : DE := fun s => (f s).map fun p => (.lst p.1, p.2)
theorem new_out {K : PySem.W.Frag} {σ : L2.St} {H H' : Hp} {fa fa' : Option Addr} {O O' : List Addr} {s s' : DS} {p : Addr} (I : GI K g σ H fa O s) (a : StE fa O H fa' O' H') (I' : GI K g σ H' fa' O' s') (e : H p = none) (e' : fa' ≠ some p) : ¬ NN g.F fa' O' p := by
  rintro (z | z | z)
  · exact I.trF z e
  · obtain ⟨ys, q⟩ := I.owned (a.sub p z)
    rw [e] at q; cases q
  · exact e' z
theorem FO.v {f : DA} (h : FO X g e f) : EO X g e (dNew f) := EO.w h.pe fun σ H Q ⟨fa, O, s, d, s', I, e, k⟩ => by
  simp only [dNew] at e
  cases q : f s with
  | none => rw [q] at e; cases e
  | some p =>
    obtain ⟨ds, s1⟩ := p
    rw [q] at e
    simp only [Option.map_some, Option.some.injEq, Prod.mk.injEq] at e
    obtain ⟨e1, e2⟩ := e
    subst e1; subst e2
    refine ⟨fa, O, s, ds, s1, I, q, fun p xs H' fa' O' a L e1 => k _ H' fa' O' a L.gi ?_⟩
    simp only [Rep]
    exact ⟨p, xs, rfl, new_out I a L.gi e1 L.nf, L.ls, Reps.go ⟨fun b ys n q => ⟨q, fun z => n (.inl z)⟩, fun _ _ q => q, fun _ _ q => q, fun _ q => q⟩ ds xs L.rs⟩
end
end DL

namespace DL
open PySem PySem.Spec L2

/-- the context is a plain def's body -/
structure Fit (X : Cx) : Prop where
  calm : X.calm = true
  un : X.A.units + 100 < cLine
  gd : X.A.guards = some []

theorem car_new {g : Gh} {K : PySem.W.Frag} {σ : L2.St} {H : Hp} {fa : Option Addr} {O : List Addr} {s : DS} {p : Addr} {o : HO} (I : GI K g σ H fa O s) (hp : H p = none) : Car K (NN g.F fa O) fa H (fun b => NN g.F fa O b ∨ b = p) fa (upd H p o) := by
  have c := I.car (stE_new (fa := fa) (O := O) (o := o) hp).stp
  refine ⟨fun b xs n q => ?_, c.tp, c.fz, c.fe⟩
  obtain ⟨q', n'⟩ := c.ls b xs n q
  refine ⟨q', ?_⟩
  rintro (z | z)
  · exact n' z
  · subst z
    rw [hp] at q; cases q
theorem newL {g : Gh} {K : PySem.W.Frag} {σ : L2.St} {H : Hp} {fa : Option Addr} {O : List Addr} {s : DS} {p : Addr} {ds : List D} {xs : List V} (I : GI K g σ H fa O s) (hp : H p = none) (r : Reps K (NN g.F fa O) fa H ds xs) : NewL K g σ (upd H p (.lst xs)) fa O s p xs ds :=
  ⟨I.new hp, upd_same, SlR.go (car_new I hp) (fun b ys _ e => by rw [upd_ne (ne_of_none e hp)]; exact e) I.sl, I.fd.car (car_new I hp) (I.fd.same_new hp), Reps.go (car_new I hp) ds xs r, fun z => I.fd.tracked z hp⟩

def dC (d : D) : DE := fun s => some (d, s)
/-- a name as a value: a list that is being built there is finished -/
def dV (i : Nat) : DE := fun s => match s.sl[i]? with
  | some (.val d) => some (d, s)
  | some (.own ds) => some (.lst ds, { s with sl := s.sl.set i (.val (.lst ds)) })
  | _ => none
/-- a name that is only looked at -/
def dL (i : Nat) : DE := fun s => match s.sl[i]? with
  | some (.val d) => some (d, s)
  | some (.own ds) => some (.lst ds, s)
  | _ => none
section
variable {X : Cx} {g : Gh}
theorem bo_var {i : Nat} {x : Str} {pos : Pos} (h : PE X (.Name x pos) (tVar i)) : BO X g (.Name x pos) (dL i) := BO.w h fun σ H Q ⟨fa, O, s, d, s', I, e, k⟩ => by
  simp only [dL] at e
  cases q : s.sl[i]? with
  | none => rw [q] at e; cases e
  | some z =>
    rw [q] at e
    cases z with
    | no => cases e
    | val d' =>
      cases e
      obtain ⟨u, e1, r⟩ := SlR.val I.sl q
      exact ⟨u, e1, k u H fa O StE.refl I (r.b fun _ z => .inr (.inr z))⟩
    | own ds =>
      cases e
      obtain ⟨a, xs, e1, m, e2, r⟩ := SlR.own I.sl q
      exact ⟨_, e1, k _ H fa O StE.refl I ⟨a, xs, rfl, fun z => I.nf a z m, e2, r⟩⟩
theorem eo_var {i : Nat} {x : Str} {pos : Pos} (h : PE X (.Name x pos) (tVar i)) : EO X g (.Name x pos) (dV i) := EO.w h fun σ H Q ⟨fa, O, s, d, s', I, e, k⟩ => by
  simp only [dV] at e
  cases q : s.sl[i]? with
  | none => rw [q] at e; cases e
  | some z =>
    rw [q] at e
    cases z with
    | no => cases e
    | val d' =>
      cases e
      obtain ⟨u, e1, r⟩ := SlR.val I.sl q
      exact ⟨u, e1, k u H fa O StE.refl I r⟩
    | own ds =>
      cases e
      obtain ⟨a, xs, e1, m, e2, r⟩ := SlR.own I.sl q
      -- the wider view: a is not among what is out of reach
      have i' : i < s.sl.length := (List.getElem?_eq_some_iff.mp q).1
      -- first with N without a
      let N1 : Addr → Prop := fun b => NN g.F fa O b ∧ b ≠ a
      have c1 : Car X.K (NN g.F fa O) fa H N1 fa H := ⟨fun b ys n z => ⟨z, fun y => n y.1⟩, fun _ _ z => z, fun _ _ z => z, fun _ z => z⟩
      have S1 := SlR.go c1 (fun _ _ _ z => z) I.sl
      have R1 : Rep X.K N1 fa H (.lst ds) (.ref a) := by
        simp only [Rep]
        exact ⟨a, xs, rfl, fun z => z.2 rfl, e2, Reps.go c1 ds xs r⟩
      obtain ⟨P, hs, S2, hn⟩ := SlR.put i S1 R1
      have na : a ∉ P := hn I.nd a (by rw [q]; rfl) ⟨ds, q⟩ e1
      have eσ : σ.set i (some (V.ref a)) = σ := by
        apply List.ext_getElem?
        intro j
        by_cases hj : j = i
        · subst hj
          rw [e1, List.getElem?_set_self (List.getElem?_eq_some_iff.mp e1).1]
        · rw [List.getElem?_set_ne (Ne.symm hj)]
      rw [eσ] at S2
      have sub : ∀ b ∈ P, b ∈ O := fun b hb => hs.subset hb
      have a1 : StE fa O H fa P H := ⟨sub, .inl rfl, fun _ _ z _ => z, fun _ z => z⟩
      have c2 : Car X.K N1 fa H (NN g.F fa P) fa H := ⟨fun b ys n z => ⟨z, fun y => n ⟨by
          rcases y with y | y | y
          · exact .inl y
          · exact .inr (.inl (sub b y))
          · exact .inr (.inr y), fun w => by
          subst w
          rcases y with y | y | y
          · exact I.tr b y (I.fr b m)
          · exact na y
          · exact I.nf b y m⟩⟩, fun _ _ z => z, fun _ _ z => z, fun _ z => z⟩
      refine ⟨_, e1, k _ H fa P a1 ⟨hs.nodup I.nd, SlR.go c2 (fun _ _ _ z => z) S2, fun b hb => I.fr b (sub b hb), I.st, I.tr, I.ff, (I.fd.car c1 fun _ _ => rfl).car c2 fun _ _ => rfl, fun b z y => I.nf b z (sub b y)⟩ (Rep.go c2 _ _ R1)⟩
theorem eo_C {e : Expr} {v : V} {d : D} (h : PE X e (tC v)) (r : ∀ K N fa H, Rep K N fa H d v) : EO X g e (dC d) := EO.w h fun σ H Q ⟨fa, O, s, d', s', I, q, k⟩ => by
  simp only [dC, Option.some.injEq, Prod.mk.injEq] at q
  obtain ⟨q1, q2⟩ := q
  subst q1; subst q2
  exact k v H fa O StE.refl I (r _ _ _ _)
theorem eo_int {i j pos} : EO X g (.Constant (.int i) j pos) (dC (.int i)) := eo_C pe_int fun _ _ _ _ => by simp only [Rep]
theorem eo_bl {i j pos} : EO X g (.Constant (.bool i) j pos) (dC (.bl i)) := eo_C pe_bl fun _ _ _ _ => by simp only [Rep]
theorem eo_non {j pos} : EO X g (.Constant .none j pos) (dC .non) := eo_C pe_non fun _ _ _ _ => by simp only [Rep]
end

def R2D (K : PySem.W.Frag) (r : R2) (p : D → D → Option D) : Prop :=
  ∀ (g : Gh) (σ : L2.St) (H : Hp) (fa : Option Addr) (O : List Addr) (s : DS) (x y : V) (d1 d2 d : D) (Q : VK), GI K g σ H fa O s → RepB K (NN g.F fa O) fa H d1 x → RepB K (NN g.F fa O) fa H d2 y → p d1 d2 = some d →
    (∀ v H', StE fa O H fa O H' → GI K g σ H' fa O s → Rep K (NN g.F fa O) fa H' d v → Q v H') → r x y H Q
def R1D (K : PySem.W.Frag) (r : V → Hp → VK → Prop) (p : D → Option D) : Prop :=
  ∀ (g : Gh) (σ : L2.St) (H : Hp) (fa : Option Addr) (O : List Addr) (s : DS) (x : V) (d1 d : D) (Q : VK), GI K g σ H fa O s → RepB K (NN g.F fa O) fa H d1 x → p d1 = some d →
    (∀ v H', StE fa O H fa O H' → GI K g σ H' fa O s → Rep K (NN g.F fa O) fa H' d v → Q v H') → r x H Q
/-- a new list comes -/
def R2F (K : PySem.W.Frag) (r : R2) (p : D → D → Option (List D)) : Prop :=
  ∀ (g : Gh) (σ : L2.St) (H : Hp) (fa : Option Addr) (O : List Addr) (s : DS) (x y : V) (d1 d2 : D) (ds : List D) (Q : VK), GI K g σ H fa O s → RepB K (NN g.F fa O) fa H d1 x → RepB K (NN g.F fa O) fa H d2 y → p d1 d2 = some ds →
    (∀ q xs H', StE fa O H fa O H' → NewL K g σ H' fa O s q xs ds → H q = none → Q (.ref q) H') → r x y H Q
/-- a builtin's call -/
def RCD (K : PySem.W.Frag) (r : List V → Hp → VK → Prop) (p : List D → Option D) : Prop :=
  ∀ (g : Gh) (σ : L2.St) (H : Hp) (fa : Option Addr) (O : List Addr) (s : DS) (xs : List V) (ds : List D) (d : D) (Q : VK), GI K g σ H fa O s → RepBs K (NN g.F fa O) fa H ds xs → p ds = some d →
    (∀ v H', StE fa O H fa O H' → GI K g σ H' fa O s → Rep K (NN g.F fa O) fa H' d v → Q v H') → r xs H Q
def RCF (K : PySem.W.Frag) (r : List V → Hp → VK → Prop) (p : List D → Option (List D)) : Prop :=
  ∀ (g : Gh) (σ : L2.St) (H : Hp) (fa : Option Addr) (O : List Addr) (s : DS) (xs : List V) (ds es : List D) (Q : VK), GI K g σ H fa O s → RepBs K (NN g.F fa O) fa H ds xs → p ds = some es →
    (∀ q ys H', StE fa O H fa O H' → NewL K g σ H' fa O s q ys es → H q = none → Q (.ref q) H') → r xs H Q

def dOp (p : D → D → Option D) (a b : DE) : DE := fun s => (a s).bind fun x => (b x.2).bind fun y => (p x.1 y.1).map fun d => (d, y.2)
def dOpF (p : D → D → Option (List D)) (a b : DE) : DA := fun s => (a s).bind fun x => (b x.2).bind fun y => (p x.1 y.1).map fun d => (d, y.2)
def dUn (p : D → Option D) (a : DE) : DE := fun s => (a s).bind fun x => (p x.1).map fun d => (d, x.2)
theorem dOp_some {α : Type} {p : D → D → Option α} {a b : DE} {s s' : DS} {d : α} (h : ((a s).bind fun x => (b x.2).bind fun y => (p x.1 y.1).map fun d => (d, y.2)) = some (d, s')) : ∃ x s1 y, a s = some (x, s1) ∧ b s1 = some (y, s') ∧ p x y = some d := by
  obtain ⟨⟨x, s1⟩, h1, h⟩ := Option.bind_eq_some_iff.mp h
  obtain ⟨⟨y, s2⟩, h2, h⟩ := Option.bind_eq_some_iff.mp h
  obtain ⟨d', h3, h⟩ := Option.map_eq_some_iff.mp h
  simp only [Prod.mk.injEq] at h
  obtain ⟨e1, e2⟩ := h
  subst e1; subst e2
  exact ⟨x, s1, y, h1, h2, h3⟩
section
variable {X : Cx} {g : Gh} {a b : Expr} {fa fb : DE} {pos : Pos} {r : R2} {p : D → D → Option D}
theorem op_w {r : R2} {p : D → D → Option D} (hr : R2D X.K r p) (σ : L2.St) (H : Hp) (Q : VK) (h : liftE X.K g (dOp p fa fb) σ H Q) : tOp r (liftB X.K g fa) (liftB X.K g fb) σ H Q := by
  obtain ⟨f0, O, s, d, s', I, e, k⟩ := h
  obtain ⟨x, s1, y, h1, h2, h3⟩ := dOp_some e
  refine ⟨f0, O, s, x, s1, I, h1, fun v H1 f1 O1 a1 I1 r1 => ⟨f1, O1, s1, y, s', I1, h2, fun u H2 f2 O2 a2 I2 r2 => ?_⟩⟩
  exact hr g σ H2 f2 O2 s' v u x y d Q I2 (RepB.stp I1 a2 r1) r2 h3 fun z H3 a3 I3 r3 => k z H3 f2 O2 (a1.trans (a2.trans a3)) I3 r3
theorem opF_w {r : R2} {p : D → D → Option (List D)} (hr : R2F X.K r p) (σ : L2.St) (H : Hp) (Q : VK) (h : liftF X.K g (dOpF p fa fb) σ H Q) : tOp r (liftB X.K g fa) (liftB X.K g fb) σ H Q := by
  obtain ⟨f0, O, s, d, s', I, e, k⟩ := h
  obtain ⟨x, s1, y, h1, h2, h3⟩ := dOp_some e
  refine ⟨f0, O, s, x, s1, I, h1, fun v H1 f1 O1 a1 I1 r1 => ⟨f1, O1, s1, y, s', I1, h2, fun u H2 f2 O2 a2 I2 r2 => ?_⟩⟩
  exact hr g σ H2 f2 O2 s' v u x y d Q I2 (RepB.stp I1 a2 r1) r2 h3 fun q xs H3 a3 L e1 => k q xs H3 f2 O2 (a1.trans (a2.trans a3)) L (a1.mon _ (a2.mon _ e1))
theorem eo_op {op : Operator} (ho : OpR X (binaryOp op) r) (hr : R2D X.K r p) (ha : BO X g a fa) (hb : BO X g b fb) : EO X g (.BinOp a op b pos) (dOp p fa fb) := EO.w (pe_op ho ha.pe hb.pe) (op_w hr)
theorem fo_op {op : Operator} {p : D → D → Option (List D)} (ho : OpR X (binaryOp op) r) (hr : R2F X.K r p) (ha : BO X g a fa) (hb : BO X g b fb) : FO X g (.BinOp a op b pos) (dOpF p fa fb) := FO.w (pe_op ho ha.pe hb.pe) (opF_w hr)
theorem eo_cmp {op : CmpOp} (ho : OpR X (compareOp op) r) (hr : R2D X.K r p) (ha : BO X g a fa) (hb : BO X g b fb) (hm : behindInMarks op b = false) : EO X g (.Compare a [op] [b] pos) (dOp p fa fb) := EO.w (pe_cmpR ho ha.pe hb.pe hm) (op_w hr)
theorem eo_ix {r : R2} (ho : IxR X r) (hr : R2D X.K r p) (ha : BO X g a fa) (hb : BO X g b fb) (hs : PlainIx b) : EO X g (.Subscript a b pos) (dOp p fa fb) := EO.w (pe_ix ho ha.pe hb.pe hs) (op_w hr)
theorem eo_un {op : UnaryOp} {r : V → Hp → VK → Prop} {p : D → Option D} (ho : UnR X (unaryOp op) r) (hr : R1D X.K r p) (ha : BO X g a fa) : EO X g (.UnaryOp op a pos) (dUn p fa) := EO.w (pe_un ho ha.pe) fun σ H Q ⟨f0, O, s, d, s', I, e, k⟩ => by
  obtain ⟨⟨x, s1⟩, h1, h⟩ := Option.bind_eq_some_iff.mp e
  obtain ⟨d', h3, h⟩ := Option.map_eq_some_iff.mp h
  simp only [Prod.mk.injEq] at h
  obtain ⟨e1, e2⟩ := h
  subst e1; subst e2
  exact ⟨f0, O, s, x, s1, I, h1, fun v H1 f1 O1 a1 I1 r1 => hr g σ H1 f1 O1 s1 v x d' Q I1 r1 h3 fun z H3 a3 I3 r3 => k z H3 f1 O1 (a1.trans a3) I3 r3⟩
/-- a value that is a truth -/
def dB (f : DE) : DT := fun s => (f s).bind fun x => match x.1 with | .bl b => some (b, x.2) | _ => none
theorem dB_some {f : DE} {s s' : DS} {b : Bool} (h : dB f s = some (b, s')) : f s = some (.bl b, s') := by
  obtain ⟨⟨x, s1⟩, h1, h⟩ := Option.bind_eq_some_iff.mp h
  cases x with
  | bl c => simp only [Option.some.injEq, Prod.mk.injEq] at h; rw [h1, h.1, h.2]
  | _ => cases h
theorem to_cmp {op : CmpOp} (ho : OpR X (compareOp op) r) (hr : R2D X.K r p) (ha : BO X g a fa) (hb : BO X g b fb) (hm : behindInMarks op b = false) : TO X g (.Compare a [op] [b] pos) (dB (dOp p fa fb)) :=
  TO.w (pt_cmpR ho ha.pe hb.pe hm) fun σ H Q ⟨f0, O, s, d, s', I, e, k⟩ => op_w hr σ H _ ⟨f0, O, s, .bl d, s', I, dB_some e, fun v H' f1 O1 a I1 r => by
    simp only [Rep] at r
    exact ⟨d, r, k H' f1 O1 a I1⟩⟩
/-- any thing's truth -/
def dTru : D → Option Bool
  | .non => some false
  | .bl b => some b
  | .int i => some (i != 0)
  | .str x => some ((x.length : Int) != 0)
  | .tup ds => some (!ds.isEmpty)
  | .lst ds => some (!ds.isEmpty)
  | _ => none
def dTr (f : DE) : DT := fun s => (f s).bind fun x => (dTru x.1).map fun b => (b, x.2)
theorem isEmpty_len {α β : Type} {xs : List α} {ys : List β} (h : xs.length = ys.length) : xs.isEmpty = ys.isEmpty := by cases xs <;> cases ys <;> simp_all
theorem to_truth {e : Expr} {f : DE} (h : BO X g e f) (he : ∀ whole, isTrue e X.env whole = (do let v ← whole; standAt e.pos; holding [v] (truthy v)) := by intro _; rfl) : TO X g e (dTr f) :=
  TO.w (pt_truth h.pe he) fun σ H Q ⟨f0, O, s, d, s', I, e, k⟩ => by
    obtain ⟨⟨x, s1⟩, h1, h.pe⟩ := Option.bind_eq_some_iff.mp e
    obtain ⟨d', h3, h.pe⟩ := Option.map_eq_some_iff.mp h.pe
    simp only [Prod.mk.injEq] at h.pe
    obtain ⟨e1, e2⟩ := h.pe
    subst e1; subst e2
    refine ⟨f0, O, s, x, s1, I, h1, fun v H' f1 O1 a I1 r => ⟨d', ?_, k H' f1 O1 a I1⟩⟩
    cases x with
    | non => simp only [RepB, Rep] at r; subst r; cases h3; rfl
    | bl b => simp only [RepB, Rep] at r; subst r; cases h3; rfl
    | int i => simp only [RepB, Rep] at r; subst r; cases h3; rfl
    | str x => simp only [RepB, Rep] at r; obtain ⟨r, l⟩ := r; subst r; cases h3; exact ⟨l, rfl⟩
    | tup ds =>
      simp only [RepB, Rep] at r
      obtain ⟨c, xs, r, q, w⟩ := r
      subst r; cases h3
      exact .inr (.inl ⟨xs, q, by rw [isEmpty_len w.length]⟩)
    | lst ds =>
      obtain ⟨c, xs, r, _, q, w⟩ := r
      subst r; cases h3
      exact .inl ⟨xs, SqL.of q, by rw [isEmpty_len w.length]⟩
    | feed => cases h3
    | scr _ => cases h3
def dAnd (a b : DT) : DT := fun s => (a s).bind fun x => if x.1 = true then b x.2 else some (false, x.2)
def dOr (a b : DT) : DT := fun s => (a s).bind fun x => if x.1 = true then some (true, x.2) else b x.2
def dNot (a : DT) : DT := fun s => (a s).map fun x => (!x.1, x.2)
def dAndV (a b : DE) : DE := fun s => (dB a s).bind fun x => if x.1 = true then b x.2 else some (.bl false, x.2)
def dOrV (a b : DE) : DE := fun s => (dB a s).bind fun x => if x.1 = true then some (.bl true, x.2) else b x.2
def dNotV (a : DE) : DE := fun s => (dB a s).map fun x => (.bl (!x.1), x.2)
variable {ta tb : DT} {rest : List Expr}
theorem wo_and1 (h : TO X g a ta) : WO X g (.BoolOp .And [a] pos) ta := ⟨pw_and1 h.pe⟩
theorem wo_or1 (h : TO X g a ta) : WO X g (.BoolOp .Or [a] pos) ta := ⟨pw_or1 h.pe⟩
theorem wo_and (ha : TO X g a ta) (hb : WO X g (.BoolOp .And (b :: rest) pos) tb) : WO X g (.BoolOp .And (a :: b :: rest) pos) (dAnd ta tb) := WO.w (pw_and ha.pe hb.pe) fun σ H Q ⟨f0, O, s, d, s', I, e, k⟩ => by
  obtain ⟨⟨x, s1⟩, h1, h⟩ := Option.bind_eq_some_iff.mp e
  refine ⟨f0, O, s, x, s1, I, h1, fun H1 f1 O1 a1 I1 => ?_⟩
  cases x with
  | true => rw [if_pos rfl] at h ⊢; exact ⟨f1, O1, s1, d, s', I1, h, fun H2 f2 O2 a2 I2 => k H2 f2 O2 (a1.trans a2) I2⟩
  | false =>
    rw [if_neg Bool.false_ne_true] at h ⊢
    simp only [Option.some.injEq, Prod.mk.injEq] at h
    obtain ⟨e1, e2⟩ := h
    subst e1; subst e2
    exact k H1 f1 O1 a1 I1
theorem wo_or (ha : TO X g a ta) (hb : WO X g (.BoolOp .Or (b :: rest) pos) tb) : WO X g (.BoolOp .Or (a :: b :: rest) pos) (dOr ta tb) := WO.w (pw_or ha.pe hb.pe) fun σ H Q ⟨f0, O, s, d, s', I, e, k⟩ => by
  obtain ⟨⟨x, s1⟩, h1, h⟩ := Option.bind_eq_some_iff.mp e
  refine ⟨f0, O, s, x, s1, I, h1, fun H1 f1 O1 a1 I1 => ?_⟩
  cases x with
  | false => rw [if_neg Bool.false_ne_true] at h ⊢; exact ⟨f1, O1, s1, d, s', I1, h, fun H2 f2 O2 a2 I2 => k H2 f2 O2 (a1.trans a2) I2⟩
  | true =>
    rw [if_pos rfl] at h ⊢
    simp only [Option.some.injEq, Prod.mk.injEq] at h
    obtain ⟨e1, e2⟩ := h
    subst e1; subst e2
    exact k H1 f1 O1 a1 I1
theorem WO.t {e : Expr} {f : DT} (h : WO X g e f) : TO X g e f := ⟨h.pe.pt⟩
theorem eo_one {op} {f : DE} (h : EO X g a f) : EO X g (.BoolOp op [a] pos) f := ⟨pe_one h.pe⟩
theorem eo_and (ha : EO X g a fa) (hb : EO X g (.BoolOp .And (b :: rest) pos) fb) : EO X g (.BoolOp .And (a :: b :: rest) pos) (dAndV fa fb) := EO.w (pe_and ha.pe hb.pe) fun σ H Q ⟨f0, O, s, d, s', I, e, k⟩ => by
  obtain ⟨⟨x, s1⟩, h1, h⟩ := Option.bind_eq_some_iff.mp e
  refine ⟨f0, O, s, _, s1, I, dB_some h1, fun v H1 f1 O1 a1 I1 r => ⟨x, by simpa only [Rep] using r, ?_⟩⟩
  cases x with
  | true => rw [if_pos rfl] at h ⊢; exact ⟨f1, O1, s1, d, s', I1, h, fun v H2 f2 O2 a2 I2 => k v H2 f2 O2 (a1.trans a2) I2⟩
  | false =>
    rw [if_neg Bool.false_ne_true] at h ⊢
    simp only [Option.some.injEq, Prod.mk.injEq] at h
    obtain ⟨e1, e2⟩ := h
    subst e1; subst e2
    exact k _ H1 f1 O1 a1 I1 (by simp only [Rep])
theorem eo_or (ha : EO X g a fa) (hb : EO X g (.BoolOp .Or (b :: rest) pos) fb) : EO X g (.BoolOp .Or (a :: b :: rest) pos) (dOrV fa fb) := EO.w (pe_or ha.pe hb.pe) fun σ H Q ⟨f0, O, s, d, s', I, e, k⟩ => by
  obtain ⟨⟨x, s1⟩, h1, h⟩ := Option.bind_eq_some_iff.mp e
  refine ⟨f0, O, s, _, s1, I, dB_some h1, fun v H1 f1 O1 a1 I1 r => ⟨x, by simpa only [Rep] using r, ?_⟩⟩
  cases x with
  | false => rw [if_neg Bool.false_ne_true] at h ⊢; exact ⟨f1, O1, s1, d, s', I1, h, fun v H2 f2 O2 a2 I2 => k v H2 f2 O2 (a1.trans a2) I2⟩
  | true =>
    rw [if_pos rfl] at h ⊢
    simp only [Option.some.injEq, Prod.mk.injEq] at h
    obtain ⟨e1, e2⟩ := h
    subst e1; subst e2
    exact k _ H1 f1 O1 a1 I1 (by simp only [Rep])
def dIf (c : DT) (a b : DE) : DE := fun s => (c s).bind fun x => if x.1 = true then a x.2 else b x.2
theorem eo_if {c : Expr} {fc : DT} (hc : TO X g c fc) (ha : EO X g a fa) (hb : EO X g b fb) : EO X g (.IfExp c a b pos) (dIf fc fa fb) := EO.w (pe_ifExp hc.pe ha.pe hb.pe) fun σ H Q ⟨f0, O, s, d, s', I, e, k⟩ => by
  obtain ⟨⟨x, s1⟩, h1, h⟩ := Option.bind_eq_some_iff.mp e
  refine ⟨f0, O, s, x, s1, I, h1, fun H1 f1 O1 a1 I1 => ?_⟩
  cases x with
  | false => rw [if_neg Bool.false_ne_true] at h ⊢; exact ⟨f1, O1, s1, d, s', I1, h, fun v H2 f2 O2 a2 I2 => k v H2 f2 O2 (a1.trans a2) I2⟩
  | true => rw [if_pos rfl] at h ⊢; exact ⟨f1, O1, s1, d, s', I1, h, fun v H2 f2 O2 a2 I2 => k v H2 f2 O2 (a1.trans a2) I2⟩

def dNil : DA := fun s => some ([], s)
def dCons (a : DE) (r : DA) : DA := fun s => (a s).bind fun x => (r x.2).map fun y => (x.1 :: y.1, y.2)
theorem dCons_some {a : DE} {r : DA} {s s' : DS} {ds : List D} (h : dCons a r s = some (ds, s')) : ∃ d s1 es, a s = some (d, s1) ∧ r s1 = some (es, s') ∧ ds = d :: es := by
  obtain ⟨⟨x, s1⟩, h1, h⟩ := Option.bind_eq_some_iff.mp h
  obtain ⟨⟨y, s2⟩, h2, h⟩ := Option.map_eq_some_iff.mp h
  simp only [Prod.mk.injEq] at h
  exact ⟨x, s1, y, h1, by rw [h2, h.2], h.1.symm⟩
variable {es : List Expr} {fr : DA}
theorem ao_nil : AO X g [] dNil := AO.w pa_nil fun σ H Q ⟨f0, O, s, d, s', I, e, k⟩ => by
  simp only [dNil, Option.some.injEq, Prod.mk.injEq] at e
  obtain ⟨e1, e2⟩ := e
  subst e1; subst e2
  exact k [] H f0 O StE.refl I (by simp only [Reps])
theorem ao_cons (ha : EO X g a fa) (hr : AO X g es fr) (hs : starEach (a :: es) X.env = (false, eval a X.env) :: starEach es X.env := by rfl) : AO X g (a :: es) (dCons fa fr) := AO.w (pa_cons ha.pe hr.pe hs) fun σ H Q ⟨f0, O, s, ds, s', I, e, k⟩ => by
  obtain ⟨d, s1, es, h1, h2, h3⟩ := dCons_some e
  subst h3
  refine ⟨f0, O, s, d, s1, I, h1, fun v H1 f1 O1 a1 I1 r1 => ⟨f1, O1, s1, es, s', I1, h2, fun vs H2 f2 O2 a2 I2 r2 => ?_⟩⟩
  refine k (v :: vs) H2 f2 O2 (a1.trans a2) I2 ?_
  simp only [Reps]
  exact ⟨v, vs, rfl, Rep.stp I1 a2.stp r1, r2⟩
theorem bao_nil : BAO X g [] dNil := BAO.w pa_nil fun σ H Q ⟨f0, O, s, d, s', I, e, k⟩ => by
  simp only [dNil, Option.some.injEq, Prod.mk.injEq] at e
  obtain ⟨e1, e2⟩ := e
  subst e1; subst e2
  exact k [] H f0 O StE.refl I (by simp only [RepBs])
theorem bao_cons (ha : BO X g a fa) (hr : BAO X g es fr) (hs : starEach (a :: es) X.env = (false, eval a X.env) :: starEach es X.env := by rfl) : BAO X g (a :: es) (dCons fa fr) := BAO.w (pa_cons ha.pe hr.pe hs) fun σ H Q ⟨f0, O, s, ds, s', I, e, k⟩ => by
  obtain ⟨d, s1, es, h1, h2, h3⟩ := dCons_some e
  subst h3
  refine ⟨f0, O, s, d, s1, I, h1, fun v H1 f1 O1 a1 I1 r1 => ⟨f1, O1, s1, es, s', I1, h2, fun vs H2 f2 O2 a2 I2 r2 => ?_⟩⟩
  exact k (v :: vs) H2 f2 O2 (a1.trans a2) I2 ⟨v, vs, rfl, RepB.stp I1 a2 r1, r2⟩
def dTup (f : DA) : DE := fun s => (f s).bind fun x => if x.1.length ≤ sizeLine then some (.tup x.1, x.2) else none
def dLst (f : DA) : DA := fun s => (f s).bind fun x => if x.1.length ≤ sizeLine then some (x.1, x.2) else none
theorem eo_tup {x1} (h : AO X g es fr) : EO X g (.Tuple es x1 pos) (dTup fr) := EO.w (pe_tup h.pe) fun σ H Q ⟨f0, O, s, d, s', I, e, k⟩ => by
  obtain ⟨⟨ds, s1⟩, h1, h.pe⟩ := Option.bind_eq_some_iff.mp e
  by_cases hl : ds.length ≤ sizeLine
  · rw [if_pos hl] at h.pe
    simp only [Option.some.injEq, Prod.mk.injEq] at h.pe
    obtain ⟨e1, e2⟩ := h.pe
    subst e1; subst e2
    refine ⟨f0, O, s, ds, s1, I, h1, fun vs H1 f1 O1 a1 I1 r1 => ⟨by rw [r1.length]; exact hl, fun p hp => ?_⟩⟩
    have a2 : StE f1 O1 H1 f1 O1 (upd H1 p (.tup vs)) := stE_new hp
    refine k _ _ f1 O1 (a1.trans a2) (I1.new hp) ?_
    simp only [Rep]
    exact ⟨p, vs, rfl, SqT.of upd_same, Reps.stp I1 a2.stp r1⟩
  · rw [if_neg hl] at h.pe; cases h.pe
theorem fo_lst (h : AO X g es fr) : FO X g (.List es pos) (dLst fr) := FO.w (pe_lst h.pe) fun σ H Q ⟨f0, O, s, d, s', I, e, k⟩ => by
  obtain ⟨⟨ds, s1⟩, h1, h.pe⟩ := Option.bind_eq_some_iff.mp e
  by_cases hl : ds.length ≤ sizeLine
  · rw [if_pos hl] at h.pe
    simp only [Option.some.injEq, Prod.mk.injEq] at h.pe
    obtain ⟨e1, e2⟩ := h.pe
    subst e1; subst e2
    refine ⟨f0, O, s, ds, s1, I, h1, fun vs H1 f1 O1 a1 I1 r1 => ⟨by rw [r1.length]; exact hl, fun p hp => ?_⟩⟩
    have a2 : StE f1 O1 H1 f1 O1 (upd H1 p (.lst vs)) := stE_new hp
    exact k p vs _ f1 O1 (a1.trans a2) (newL I1 hp r1) (a1.mon _ hp)
  · rw [if_neg hl] at h.pe; cases h.pe
end
end DL

namespace DL
open PySem PySem.Spec L2

section
variable {K : PySem.W.Frag} {g : Gh} {σ : L2.St} {H H' : Hp} {fa fa' : Option Addr} {O O' : List Addr} {s s' : DS}
theorem NN.mono {F : Addr → Prop} {P : List Addr} (h : ∀ b ∈ P, b ∈ O) {b : Addr} (z : NN F fa P b) : NN F fa O b := by
  rcases z with z | z | z
  · exact .inl z
  · exact .inr (.inl (h b z))
  · exact .inr (.inr z)
theorem car_less {F : Addr → Prop} {N : Addr → Prop} (h : ∀ b, NN F fa O b → N b) : Car K N fa H (NN F fa O) fa H := ⟨fun b xs n q => ⟨q, fun z => n (h b z)⟩, fun _ _ q => q, fun _ _ q => q, fun _ q => q⟩
/-- a slot takes a thing -/
theorem DI.put (I : GI K g σ H fa O s) (i : Nat) {d : D} {v : V} (r : Rep K (NN g.F fa O) fa H d v) : ∃ P, (∀ b ∈ P, b ∈ O) ∧ GI K g (σ.set i (some v)) H fa P { s with sl := s.sl.set i (.val d) } := by
  obtain ⟨P, hs, S, _⟩ := SlR.put i I.sl r
  have sub : ∀ b ∈ P, b ∈ O := fun b hb => hs.subset hb
  have c : Car K (NN g.F fa O) fa H (NN g.F fa P) fa H := car_less fun b => NN.mono sub
  exact ⟨P, sub, hs.nodup I.nd, SlR.go c (fun _ _ _ z => z) S, fun b hb => I.fr b (sub b hb), I.st, I.tr, I.ff, I.fd.car c fun _ _ => rfl, fun b z y => I.nf b z (sub b y)⟩
theorem stE_sub {P : List Addr} (h : ∀ b ∈ P, b ∈ O) : StE fa O H fa P H := ⟨h, .inl rfl, fun _ _ e _ => e, fun _ e => e⟩
/-- a slot takes a new list -/
theorem NewL.put {p : Addr} {xs : List V} {ds : List D} (L : NewL K g σ H fa O s p xs ds) (i : Nat) (hi : i < s.sl.length) (h0 : g.H0 p = none) (hp : p ∉ O) : ∃ P, (∀ b ∈ P, b = p ∨ b ∈ O) ∧ GI K g (σ.set i (some (.ref p))) H fa P { s with sl := s.sl.set i (.own ds) } := by
  obtain ⟨P, h1, h2, S⟩ := SlR.putN i L.sl hi hp L.gi.nd L.ls L.rs
  have c : Car K (fun b => NN g.F fa O b ∨ b = p) fa H (NN g.F fa P) fa H := car_less fun b z => by
    rcases z with z | z | z
    · exact .inl (.inl z)
    · rcases h1 b z with y | y
      · exact .inr y
      · exact .inl (.inr (.inl y))
    · exact .inl (.inr (.inr z))
  refine ⟨P, h1, h2, SlR.go c (fun _ _ _ z => z) S, fun b hb => ?_, L.gi.st, L.gi.tr, L.gi.ff, L.fd.car c fun _ _ => rfl, fun b z hb => ?_⟩
  · rcases h1 b hb with y | y
    · rw [y]; exact h0
    · exact L.gi.fr b y
  · rcases h1 b hb with y | y
    · rw [y] at z; exact L.nf z
    · exact L.gi.nf b z y
/-- the list of a slot is rewritten -/
theorem DI.rew (I : GI K g σ H fa O s) {i : Nat} {ds es : List D} {a : Addr} {xs ys : List V} (e1 : s.sl[i]? = some (.own ds)) (e2 : σ[i]? = some (some (.ref a))) (m : a ∈ O) (e3 : H a = some (.lst xs)) (r : Reps K (NN g.F fa O) fa H es ys) :
    GI K g σ (upd H a (.lst ys)) fa O { s with sl := s.sl.set i (.own es) } ∧ Stp fa O H fa O (upd H a (.lst ys)) := by
  have a1 : Stp fa O H fa O (upd H a (.lst ys)) := ⟨fun b hb => .inl hb, .inl rfl, fun b u e n _ => by
    rw [upd_ne (show b ≠ a from fun z => n (by rw [z]; exact m))]; exact e, fun b z => by
    by_cases hb : b = a
    · subst hb; rw [upd_same] at z; cases z
    · rw [upd_ne hb] at z; exact z⟩
  have c := I.car a1
  have k : ∀ b u, b ≠ a → H b = some u → upd H a (.lst ys) b = some u := fun b u n e => by rw [upd_ne n]; exact e
  refine ⟨⟨I.nd, SlR.rew I.sl I.nd (fun b hb => .inr (.inl hb)) e1 e2 upd_same c k (Reps.go c es ys r), I.fr, ?_, I.tr, I.ff, I.fd.car c fun b hb => ?_, I.nf⟩, a1⟩
  · refine ⟨fun b hb => (by cases hb), I.st.fe, fun b u e n f => ?_, fun b z => I.st.mon b (a1.mon b z)⟩
    refine k b u (fun z => ?_) (I.st.same b u e n f)
    rw [z, I.fr a m] at e; cases e
  · refine upd_ne fun z => ?_
    subst z
    exact I.nf _ hb m
end

theorem FlK.shift {K : PySem.W.Frag} {g : Gh} {E : Ends} {fa fa' : Option Addr} {O O' : List Addr} {H H' : Hp} {fl : Fl} {s : DS} (a : Stp fa O H fa' O' H') (h : FlK K g E fa O H fl s) : FlK K g E fa' O' H' fl s := by
  cases fl with
  | next => exact fun σ' H2 f2 O2 a2 I2 => h σ' H2 f2 O2 (a.trans a2) I2
  | brk => exact fun σ' H2 f2 O2 a2 I2 => h σ' H2 f2 O2 (a.trans a2) I2
  | cont => exact fun σ' H2 f2 O2 a2 I2 => h σ' H2 f2 O2 (a.trans a2) I2
  | ret d => exact fun σ' v H2 f2 O2 a2 I2 => h σ' v H2 f2 O2 (a.trans a2) I2
def dSkip : DM := fun s => some (.next, s)
def dThen (b : DM) (x : Fl × DS) : Option (Fl × DS) := match x.1 with
  | .next => b x.2
  | .brk => some (.brk, x.2)
  | .cont => some (.cont, x.2)
  | .ret d => some (.ret d, x.2)
def dSeq (a b : DM) : DM := fun s => (a s).bind (dThen b)
section
variable {X : Cx} {g : Gh} {st : Stmt} {rest : List Stmt} {e : Expr} {pos : Pos} {a b : DM} {f : DE}
theorem ss_nil : SSO X g [] dSkip := SSO.w pss_nil fun E σ H ⟨fa, O, s, fl, s', I, e, k⟩ => by
  cases e
  exact k σ H fa O Stp.refl I
theorem ss_one (h : SO X g st a) : SSO X g [st] a := ⟨pss_one h.pe⟩
theorem ss_cons (h : SO X g st a) (hr : SSO X g rest b) : SSO X g (st :: rest) (dSeq a b) := SSO.w (pss_cons h.pe hr.pe) fun E σ H ⟨fa, O, s, fl, s', I, e, k⟩ => by
  obtain ⟨⟨f1, s1⟩, h1, h2⟩ := Option.bind_eq_some_iff.mp e
  refine ⟨fa, O, s, f1, s1, I, h1, ?_⟩
  cases f1 with
  | next => exact fun σ' H' f1 O1 a1 I1 => ⟨f1, O1, s1, fl, s', I1, h2, k.shift a1⟩
  | brk => cases h2; exact k
  | cont => cases h2; exact k
  | ret d => cases h2; exact k
def dRet (f : DE) : DM := fun s => (f s).map fun x => (.ret x.1, x.2)
theorem s_ret (he : EO X g e f) : SO X g (.Return (some e) pos) (dRet f) := SO.w (ps_ret he.pe) fun E σ H ⟨fa, O, s, fl, s', I, q, k⟩ => by
  obtain ⟨⟨d, s1⟩, h1, h2⟩ := Option.map_eq_some_iff.mp q
  cases h2
  exact ⟨fa, O, s, d, s1, I, h1, fun v H' f1 O1 a1 I1 r => k σ v H' f1 O1 a1.stp I1 r⟩
def dIfS (c : DT) (a b : DM) : DM := fun s => (c s).bind fun x => if x.1 = true then a x.2 else b x.2
theorem s_if {c : Expr} {fc : DT} {la lb : List Stmt} (hc : TO X g c fc) (ha : SSO X g la a) (hb : SSO X g lb b) : SO X g (.If c la lb pos) (dIfS fc a b) := SO.w (ps_if hc.pe ha.pe hb.pe) fun E σ H ⟨fa, O, s, fl, s', I, e, k⟩ => by
  obtain ⟨⟨x, s1⟩, h1, h⟩ := Option.bind_eq_some_iff.mp e
  refine ⟨fa, O, s, x, s1, I, h1, fun H1 f1 O1 a1 I1 => ?_⟩
  cases x with
  | false => rw [if_neg Bool.false_ne_true] at h ⊢; exact ⟨f1, O1, s1, fl, s', I1, h, k.shift a1.stp⟩
  | true => rw [if_pos rfl] at h ⊢; exact ⟨f1, O1, s1, fl, s', I1, h, k.shift a1.stp⟩
def liftG (K : PySem.W.Frag) (g : Gh) (t : D → DS → Option DS) : TG := fun v σ H Q => ∃ fa O s d s', GI K g σ H fa O s ∧ Rep K (NN g.F fa O) fa H d v ∧ t d s = some s' ∧ ∀ σ' H' fa' O', Stp fa O H fa' O' H' → GI K g σ' H' fa' O' s' → Q σ' H'
def liftGs (K : PySem.W.Frag) (g : Gh) (t : List D → DS → Option DS) : TGs := fun vs σ H Q => ∃ fa O s ds s', GI K g σ H fa O s ∧ Reps K (NN g.F fa O) fa H ds vs ∧ t ds s = some s' ∧ ∀ σ' H' fa' O', Stp fa O H fa' O' H' → GI K g σ' H' fa' O' s' → Q σ' H'
structure GO (X : Cx) (g : Gh) (e : Expr) (t : D → DS → Option DS) : Prop where
  pe : PG X e (liftG X.K g t)
structure GsO (X : Cx) (g : Gh) (es : List Expr) (t : List D → DS → Option DS) : Prop where
  pe : PGs X es (liftGs X.K g t)
def dPut (i : Nat) (d : D) : DS → Option DS := fun s => some { s with sl := s.sl.set i (.val d) }
theorem PGw {t t' : TG} (h : PG X e t) (w : ∀ v σ H Q, t' v σ H Q → t v σ H Q) : PG X e t' := fun pins s σ H v u Q I r q => h pins s σ H v u Q I r (w v σ H Q q)
theorem PGsw {es : List Expr} {t t' : TGs} (h : PGs X es t) (w : ∀ v σ H Q, t' v σ H Q → t v σ H Q) : PGs X es t' := fun pins s σ H v u Q I r q => h pins s σ H v u Q I r (w v σ H Q q)
theorem GO.w {f : D → DS → Option DS} {t : TG} (h : PG X e t) (w : ∀ v σ H Q, liftG X.K g f v σ H Q → t v σ H Q) : GO X g e f := ⟨PGw h w⟩
theorem GsO.w {es : List Expr} {f : List D → DS → Option DS} {t : TGs} (h : PGs X es t) (w : ∀ v σ H Q, liftGs X.K g f v σ H Q → t v σ H Q) : GsO X g es f := ⟨PGsw h w⟩
theorem g_name {i : Nat} {x : Str} (h : PG X (.Name x pos) (gName i)) : GO X g (.Name x pos) (dPut i) := GO.w h fun v σ H Q ⟨fa, O, s, d, s', I, r, e, k⟩ => by
  cases e
  obtain ⟨P, sub, I'⟩ := I.put i r
  exact k _ H fa P (stE_sub sub).stp I'
def dPuts0 : List D → DS → Option DS
  | [], s => some s
  | _ :: _, _ => none
def dPuts1 (t : D → DS → Option DS) (u : List D → DS → Option DS) : List D → DS → Option DS
  | [], _ => none
  | d :: r, s => (t d s).bind (u r)
theorem gs_nil : GsO X g [] dPuts0 := GsO.w pgs_nil fun v σ H Q ⟨fa, O, s, ds, s', I, r, e, k⟩ => by
  cases ds with
  | nil => cases e; simp only [Reps] at r; exact ⟨r, k σ H fa O Stp.refl I⟩
  | cons d r' => cases e
theorem gs_cons {es : List Expr} {t : D → DS → Option DS} {u : List D → DS → Option DS} (h : GO X g e t) (hr : GsO X g es u) (hs : (assignEach (e :: es) X.env).map (·.2) = assign e X.env :: (assignEach es X.env).map (·.2) := by rfl) : GsO X g (e :: es) (dPuts1 t u) :=
  GsO.w (pgs_cons h.pe hr.pe hs) fun v σ H Q ⟨fa, O, s, ds, s', I, r, e, k⟩ => by
    cases ds with
    | nil => cases e
    | cons d r' =>
      obtain ⟨s1, h1, h2⟩ := Option.bind_eq_some_iff.mp e
      simp only [Reps] at r
      obtain ⟨x, ys, rfl, rx, ry⟩ := r
      exact ⟨x, ys, rfl, fa, O, s, d, s1, I, rx, h1, fun σ1 H1 f1 O1 a1 I1 => ⟨f1, O1, s1, r', s', I1, Reps.stp I a1 ry, h2, fun σ2 H2 f2 O2 a2 I2 => k σ2 H2 f2 O2 (a1.trans a2) I2⟩⟩
def dPutT (n : Nat) (u : List D → DS → Option DS) (d : D) (s : DS) : Option DS := match d with
  | .tup ds => if ds.length = n then u ds s else none
  | _ => none
theorem g_tup {es : List Expr} {k : Nat} {n : Nat} {u : List D → DS → Option DS} (hc : X.calm = true) (h : GsO X g es u) (hn : (assignEach es X.env).length = n := by rfl) (hst : (assignEach es X.env).findIdx? (·.1) = none := by rfl) : GO X g (.Tuple es k pos) (dPutT n u) :=
  GO.w (pg_tup hc h.pe hn hst) fun v σ H Q ⟨fa, O, s, d, s', I, r, e, k⟩ => by
    cases d with
    | tup ds =>
      simp only [dPutT] at e
      by_cases hl : ds.length = n
      · rw [if_pos hl] at e
        simp only [Rep] at r
        obtain ⟨a, xs, rfl, q, w⟩ := r
        exact ⟨a, xs, rfl, q, by rw [w.length]; exact hl, fa, O, s, ds, s', I, w, e, k⟩
      · rw [if_neg hl] at e; cases e
    | _ => cases e
def dAsg (f : DE) (t : D → DS → Option DS) : DM := fun s => (f s).bind fun x => (t x.1 x.2).map fun s' => (.next, s')
theorem asg_w {f : DE} {t : D → DS → Option DS} (E : Ends) (σ : L2.St) (H : Hp) (h : liftS X.K g (dAsg f t) E σ H) : tAsg (liftE X.K g f) (liftG X.K g t) E σ H := by
  obtain ⟨fa, O, s, fl, s', I, q, k⟩ := h
  obtain ⟨⟨d, s1⟩, h1, h2⟩ := Option.bind_eq_some_iff.mp q
  obtain ⟨s2, h3, h4⟩ := Option.map_eq_some_iff.mp h2
  cases h4
  exact ⟨fa, O, s, d, s1, I, h1, fun v H1 f1 O1 a1 I1 r => ⟨f1, O1, s1, d, _, I1, r, h3, fun σ2 H2 f2 O2 a2 I2 => k σ2 H2 f2 O2 (a1.stp.trans a2) I2⟩⟩
theorem s_asg {tg : Expr} {t : D → DS → Option DS} (he : EO X g e f) (hg : GO X g tg t) (hs : swapsWithSole [tg] e pos.line X.env = pure false := by rfl) (hw : swappedStores [tg] e X.env = pure none := by rfl)
    (h1 : (assignEach [tg] X.env).map (·.2) = [assign tg X.env] := by rfl) : SO X g (.Assign [tg] e pos) (dAsg f t) := SO.w (ps_asg he.pe hg.pe hs hw h1) asg_w
theorem s_set {i : Nat} {x : Str} {pos' : Pos} (hN : X.N.Nodup) (hi : X.N[i]? = some x) (hx : Loc X.env.scope x) (he : EO X g e f) (hs : swapsWith e (some (.Name x pos')) pos.line X.env = pure false := by rfl) (hf : X.fn x = true ∨ X.env.scope.names.lookup x = some .local := by first | exact .inl rfl | exact .inr rfl | assumption) :
    SO X g (.Assign [.Name x pos'] e pos) (dAsg f (dPut i)) := SO.w (ps_set hN hi hx he.pe hs hf) fun E σ H h => by
  obtain ⟨fa, O, s, d, s1, I, h1, k⟩ := asg_w E σ H h
  refine ⟨fa, O, s, d, s1, I, h1, fun v H1 f1 O1 a1 I1 r => ?_⟩
  obtain ⟨f2, O2, s2, d2, s3, I2, r2, e2, k2⟩ := k v H1 f1 O1 a1 I1 r
  cases e2
  obtain ⟨P, sub, I'⟩ := I2.put i r2
  exact k2 _ H1 f2 P (stE_sub sub).stp I'
/-- x = a new list -/
def dAsgF (i : Nat) (f : DA) : DM := fun s => (f s).bind fun x => if i < x.2.sl.length then some (.next, { x.2 with sl := x.2.sl.set i (.own x.1) }) else none
theorem s_setF {i : Nat} {x : Str} {f : DA} {pos' : Pos} (hN : X.N.Nodup) (hi : X.N[i]? = some x) (hx : Loc X.env.scope x) (he : FO X g e f) (hs : swapsWith e (some (.Name x pos')) pos.line X.env = pure false := by rfl) (hf : X.fn x = true ∨ X.env.scope.names.lookup x = some .local := by first | exact .inl rfl | exact .inr rfl | assumption) :
    SO X g (.Assign [.Name x pos'] e pos) (dAsgF i f) := SO.w (ps_set hN hi hx he.pe hs hf) fun E σ H ⟨fa, O, s, fl, s', I, q, k⟩ => by
  obtain ⟨⟨ds, s1⟩, h1, h2⟩ := Option.bind_eq_some_iff.mp q
  by_cases hl : i < s1.sl.length
  · simp only [] at h2
    rw [if_pos hl] at h2
    cases h2
    refine ⟨fa, O, s, ds, s1, I, h1, fun p xs H1 f1 O1 a1 L hp => ?_⟩
    have np : p ∉ O1 := fun z => by
      obtain ⟨ys, e⟩ := I.owned (a1.sub p z)
      rw [hp] at e; cases e
    obtain ⟨P, sub, I'⟩ := L.put i hl (I.st.mon p hp) np
    refine k _ H1 f1 P ⟨fun b hb => ?_, a1.fe, fun b u e _ n => a1.same b u e n, a1.mon⟩ I'
    rcases sub b hb with y | y
    · exact .inr (by rw [y]; exact hp)
    · exact .inl (a1.sub b y)
  · simp only [] at h2
    rw [if_neg hl] at h2; cases h2
/-- x.append(e) -/
def dApp (i : Nat) (f : DE) : DM := fun s => match s.sl[i]? with
  | some (.own _) => (f s).bind fun x => match x.2.sl[i]? with
    | some (.own ds) => if ds.length < sizeLine then some (.next, { x.2 with sl := x.2.sl.set i (.own (ds ++ [x.1])) }) else none
    | _ => none
  | _ => none
theorem s_app {i : Nat} {x : Str} {p1 p2 p3 p4 : Pos} (hv : PE X (.Name x p1) (tVar i)) (he : EO X g e f) (hbase : attributeBase (.Name x p1) ("append" : Str) X.env (eval (.Name x p1) X.env) = eval (.Name x p1) X.env := by rfl)
    (hfew : ((backTo p3 (starEach [e] X.env)).all (fun x => !x.1) && (backToKw p3 (keywordEach [] X.env)).all (fun x => x.1.isSome)
      && decide ([e].length + ([] : List Keyword).length + (if ([] : List Keyword).isEmpty then 0 else 1) < 30)) = true := by rfl)
    (hline : (p2.endLine == p3.line) = true := by rfl) (hs : starEach [e] X.env = (false, eval e X.env) :: starEach [] X.env := by rfl) (hplain : (backTo p3 (starEach [] X.env)).any (·.1) = false := by rfl)
    (hsw : swapsWith (.Call (.Attribute (.Name x p1) ("append" : Str) p2) [e] [] p3) none p4.line X.env = pure false := by rfl) :
    SO X g (.Expr (.Call (.Attribute (.Name x p1) ("append" : Str) p2) [e] [] p3) p4) (dApp i f) :=
  SO.w (ps_expr (pe_bm PySem.F.plainAttrs_list PySem.F.slot_list_append PySem.F.type_list_append mt_append hv (pa_cons he.pe pa_nil hs) hbase hfew hline hs hplain) hsw) fun E σ H ⟨fa, O, s, fl, s', I, q, k⟩ => by
    cases q0 : s.sl[i]? with
    | none => simp only [dApp, q0] at q; cases q
    | some z =>
    cases z with
    | no => simp only [dApp, q0] at q; cases q
    | val _ => simp only [dApp, q0] at q; cases q
    | own ds0 =>
    simp only [dApp, q0] at q
    obtain ⟨a, xs0, e1, m, e2, _⟩ := SlR.own I.sl q0
    obtain ⟨⟨d, s1⟩, h1, h2⟩ := Option.bind_eq_some_iff.mp q
    cases q2 : s1.sl[i]? with
    | none => simp only [q2] at h2; cases h2
    | some z =>
      cases z with
      | no => simp only [q2] at h2; cases h2
      | val _ => simp only [q2] at h2; cases h2
      | own ds =>
        simp only [q2] at h2
        by_cases hl : ds.length < sizeLine
        · rw [if_pos hl] at h2
          cases h2
          refine ⟨_, e1, .inl ⟨rfl, xs0, SqL.of e2⟩, fa, O, s, d, s1, I, h1, fun v H1 f1 O1 a1 I1 r => ?_⟩
          obtain ⟨b, xs, e3, m1, e4, r1⟩ := SlR.own I1.sl q2
          rw [e1] at e3; cases e3
          obtain ⟨I2, a2⟩ := I1.rew q2 e1 m1 e4 (Reps.append r1 (Reps.one r))
          exact ⟨a, xs, v, rfl, rfl, e4, by rw [r1.length]; exact hl, k σ _ f1 O1 (a1.stp.trans a2) I2⟩
        · rw [if_neg hl] at h2; cases h2
end
end DL

namespace DL
open PySem PySem.Spec L2

def dForL (t : D → DS → Option DS) (b : DM) : List D → DS → Option (Fl × DS)
  | [], s => some (.next, s)
  | d :: r, s => (t d s).bind fun s1 => (b s1).bind fun x => match x.1 with
    | .next => dForL t b r x.2
    | .cont => dForL t b r x.2
    | .brk => some (.next, x.2)
    | .ret v => some (.ret v, x.2)
def PvD (K : PySem.W.Frag) (g : Gh) (f1 : Option Addr) (O1 : List Addr) (H1 : Hp) (t : D → DS → Option DS) (b : DM) (ds : List D) (fl : Fl) (sf : DS) (i : Nat) : L2.St → Hp → Prop := fun σ' H' =>
  ∃ fa' O' s', Stp f1 O1 H1 fa' O' H' ∧ GI K g σ' H' fa' O' s' ∧ dForL t b (ds.drop i) s' = some (fl, sf)
section
variable {K : PySem.W.Frag} {g : Gh} {f1 : Option Addr} {O1 : List Addr} {H1 H' : Hp} {t : D → DS → Option DS} {b : DM} {ds : List D} {fl : Fl} {sf : DS} {i : Nat} {E : Ends} {σ' : L2.St}
theorem drop_at {α : Type} {l : List α} {i : Nat} {d : α} (h : l[i]? = some d) : l.drop i = d :: l.drop (i + 1) := by
  obtain ⟨hi, e⟩ := List.getElem?_eq_some_iff.mp h
  rw [List.drop_eq_getElem_cons hi, e]
theorem loop_turn (hk : FlK K g E f1 O1 H1 fl sf) {d : D} {x : V} (hd : ds[i]? = some d) (hr : ∀ fa' O', Stp f1 O1 H1 fa' O' H' → Rep K (NN g.F fa' O') fa' H' d x) (h : PvD K g f1 O1 H1 t b ds fl sf i σ' H') :
    liftG K g t x σ' H' fun σ2 H2 => liftS K g b { E with nx := PvD K g f1 O1 H1 t b ds fl sf (i + 1), ct := PvD K g f1 O1 H1 t b ds fl sf (i + 1), bk := E.nx } σ2 H2 := by
  obtain ⟨fa', O', s', st, I, e⟩ := h
  rw [drop_at hd, dForL] at e
  obtain ⟨s1, h1, h2⟩ := Option.bind_eq_some_iff.mp e
  obtain ⟨⟨fb, s2⟩, h3, h4⟩ := Option.bind_eq_some_iff.mp h2
  refine ⟨fa', O', s', d, s1, I, hr fa' O' st, h1, fun σ2 H2 f2 O2 a2 I2 => ⟨f2, O2, s1, fb, s2, I2, h3, ?_⟩⟩
  cases fb with
  | next => exact fun σ3 H3 f3 O3 a3 I3 => ⟨f3, O3, s2, st.trans (a2.trans a3), I3, h4⟩
  | cont => exact fun σ3 H3 f3 O3 a3 I3 => ⟨f3, O3, s2, st.trans (a2.trans a3), I3, h4⟩
  | brk => cases h4; exact fun σ3 H3 f3 O3 a3 I3 => hk σ3 H3 f3 O3 (st.trans (a2.trans a3)) I3
  | ret v => cases h4; exact fun σ3 v H3 f3 O3 a3 I3 r => hk σ3 v H3 f3 O3 (st.trans (a2.trans a3)) I3 r
theorem loop_end (hk : FlK K g E f1 O1 H1 fl sf) {n : Nat} (hn : ds.length ≤ n) (h : PvD K g f1 O1 H1 t b ds fl sf n σ' H') : E.nx σ' H' := by
  obtain ⟨fa', O', s', st, I, e⟩ := h
  rw [List.drop_eq_nil_of_le hn, dForL] at e
  cases e
  exact hk σ' H' fa' O' st I
end
def dFor (f : DE) (t : D → DS → Option DS) (b : DM) : DM := fun s => (f s).bind fun x => match x.1 with
  | .lst ds => dForL t b ds x.2
  | .tup ds => dForL t b ds x.2
  | _ => none
section
variable {X : Cx} {g : Gh} {tg iter : Expr} {body : List Stmt} {f : DE} {t : D → DS → Option DS} {b : DM} {pos : Pos}
def iSeq (K : PySem.W.Frag) (tl : TE) : TI := fun σ H R => tl σ H fun x H1 => ∃ a, x = .ref a ∧ (((∃ xs, SqL K H1 a xs) ∧ R (Itl K a) H1) ∨ ((∃ xs, SqT K H1 a xs) ∧ R (Itt K a) H1))
theorem pi_seq {l : Expr} {tl : TE} (hl : PE X l tl) : PI X tg l (iSeq X.K tl) := by
  intro pins s σ H R I h
  refine thn (hl pins s σ H _ I h) fun v s1 ⟨x, H1, I1, r1, q1⟩ => ?_
  obtain ⟨a, e, q⟩ := q1
  subst e
  cases r1
  rcases q with ⟨⟨xs, hq⟩, q⟩ | ⟨⟨xs, hq⟩, q⟩
  · obtain ⟨its, rv, p, hz⟩ := I1.list hq
    refine wpAny_pyIter_list p.isList ?_
    refine ⟨s1.heap.objs.size, [s1.heap.objs.size], _, _, H1, rfl, I1.kept (t' := s1.toks) fun b o e => Heap.get?_push_of_some _ e, turn_list a _, ⟨_, Heap.get?_push_size _ rfl, rfl, rfl⟩, fun b hb => ?_, q⟩
    have e : b = s1.heap.objs.size := by simpa using hb
    subst e
    exact I1.fpOk (Nat.le_refl _) (I1.hok.fresh (Nat.le_refl _))
  · obtain ⟨its, rv, p, hz⟩ := I1.tuple hq
    refine wpAny_pyIter_tuple (show s1.heap.IsTuple a its.toArray from p) ?_
    refine ⟨s1.heap.objs.size, [s1.heap.objs.size], _, _, H1, rfl, I1.kept (t' := s1.toks) fun b o e => Heap.get?_push_of_some _ e, turn_tuple a _, ⟨_, Heap.get?_push_size _ rfl, rfl, rfl⟩, fun b hb => ?_, q⟩
    have e : b = s1.heap.objs.size := by simpa using hb
    subst e
    exact I1.fpOk (Nat.le_refl _) (I1.hok.fresh (Nat.le_refl _))
theorem s_for (hp : PassesOwn (model X.prog X.w) X.A X.env X.xe) (hc : X.calm = true) (he : EO X g iter f) (hg : GO X g tg t) (hb : SSO X g body b) (hs : ∀ x, foldedSetIterable iter X.env x = pure x := by intro _; rfl) :
    SO X g (.For tg iter body [] pos) (dFor f t b) := SO.w (ps_for hp hc (pi_seq he.pe) hg.pe hb.pe hs) fun E σ H ⟨fa, O, s, fl, sf, I, q, k⟩ => by
  obtain ⟨⟨d, s1⟩, h1, h2⟩ := Option.bind_eq_some_iff.mp q
  refine ⟨fa, O, s, d, s1, I, h1, fun v H1 f1 O1 a1 I1 r => ?_⟩
  have k1 := k.shift a1.stp
  cases d with
  | lst ds =>
    simp only [Rep] at r
    obtain ⟨a, xs, rfl, na, q, w⟩ := r
    refine ⟨a, rfl, .inl ⟨⟨xs, SqL.of q⟩, for_list (xs := xs) (PvD X.K g f1 O1 H1 t b ds fl sf) ⟨f1, O1, s1, Stp.refl, I1, h2⟩ ?_ ?_ ?_⟩⟩
    · rintro i σ' H' _ ⟨fa', O', s', st, I', e⟩
      exact SqL.of ((I1.car st).ls a xs na q).1
    · intro i x σ' H' hx h
      obtain ⟨d, hd, rd⟩ := Reps.get' w hx
      exact loop_turn k1 hd (fun fa' O' st => Rep.stp I1 st rd) h
    · intro σ' H' h
      exact loop_end k1 (Nat.le_of_eq w.length.symm) h
  | tup ds =>
    simp only [Rep] at r
    obtain ⟨a, xs, rfl, q, w⟩ := r
    refine ⟨a, rfl, .inr ⟨⟨xs, q⟩, for_tup (xs := xs) (PvD X.K g f1 O1 H1 t b ds fl sf) ⟨f1, O1, s1, Stp.refl, I1, h2⟩ ?_ ?_ ?_⟩⟩
    · rintro i σ' H' _ ⟨fa', O', s', st, I', e⟩
      exact (I1.car st).tp a xs q
    · intro i x σ' H' hx h
      obtain ⟨d, hd, rd⟩ := Reps.get' w hx
      exact loop_turn k1 hd (fun fa' O' st => Rep.stp I1 st rd) h
    · intro σ' H' h
      exact loop_end k1 (Nat.le_of_eq w.length.symm) h
  | _ => cases h2
/-- lo, lo + 1, .., n of them -/
def ups (lo : Int) (n : Nat) : List D := (List.range n).map fun (i : Nat) => D.int (lo + (i : Int))
theorem ups_get {lo : Int} {n i : Nat} (h : i < n) : (ups lo n)[i]? = some (.int (lo + (i : Int))) := by simp [ups, h]
theorem ups_len (lo : Int) (n : Nat) : (ups lo n).length = n := by simp [ups]
def dRng : List D → Option (List D)
  | [.int j] => if -(2 ^ 62) ≤ j ∧ j < 2 ^ 62 then some (ups 0 j.toNat) else none
  | [.int i, .int j] => if -(2 ^ 62) ≤ i ∧ i < 2 ^ 62 ∧ -(2 ^ 62) ≤ j ∧ j < 2 ^ 62 then some (ups i (j - i).toNat) else none
  | _ => none
def dForR (f : DA) (t : D → DS → Option DS) (b : DM) : DM := fun s => (f s).bind fun x => (dRng x.1).bind fun ds => dForL t b ds x.2
theorem rng1 {ds es : List D} {a : D} (h : dRng ds = some es) (l : ds = [a]) : ∃ j : Int, a = .int j ∧ -(2 ^ 62) ≤ j ∧ j < 2 ^ 62 ∧ es = ups 0 j.toNat := by
  subst l
  cases a with
  | int j =>
    simp only [dRng] at h
    by_cases hj : -(2 ^ 62) ≤ j ∧ j < 2 ^ 62
    · rw [if_pos hj] at h; cases h; exact ⟨j, rfl, hj.1, hj.2, rfl⟩
    · rw [if_neg hj] at h; cases h
  | _ => cases h
theorem s_for1 {a : Expr} {fa : DE} {p cpos : Pos} (hp : PassesOwn (model X.prog X.w) X.A X.env X.xe) (hc : X.calm = true) (hgl : Gl X "range") (hm : X.mg "range" = none) (ha : EO X g a fa) (hg : GO X g tg t) (hb : SSO X g body b)
    (hs1 : starEach [a] X.env = [(false, eval a X.env)] := by rfl) (hs : ∀ x, foldedSetIterable (.Call (.Name "range" p) [a] [] cpos) X.env x = pure x := by intro _; rfl) :
    SO X g (.For tg (.Call (.Name "range" p) [a] [] cpos) body [] pos) (dForR (dCons fa dNil) t b) :=
  SO.w (ps_for hp hc (pi_range1 hgl hm (ao_cons ha ao_nil hs1).pe hs1) hg.pe hb.pe hs) fun E σ H ⟨fa, O, s, fl, sf, I, q, k⟩ => by
    obtain ⟨⟨ds, s1⟩, h1, h2⟩ := Option.bind_eq_some_iff.mp q
    obtain ⟨es, h3, h4⟩ := Option.bind_eq_some_iff.mp h2
    obtain ⟨d, s2, rs, e1, e2, e3⟩ := dCons_some h1
    cases e2
    obtain ⟨j, rfl, j1, j2, rfl⟩ := rng1 h3 e3
    refine ⟨fa, O, s, ds, s1, I, h1, fun vs H1 f1 O1 a1 I1 r => ?_⟩
    have k1 := k.shift a1.stp
    rw [e3] at r
    simp only [Reps, Rep] at r
    obtain ⟨x, ys, rfl, rfl, rfl⟩ := r
    refine ⟨j, rfl, j1, j2, for_range (lo := 0) (n := j.toNat) (PvD X.K g f1 O1 H1 t b (ups 0 j.toNat) fl sf) ⟨f1, O1, s1, Stp.refl, I1, h4⟩ ?_ ?_⟩
    · intro i σ' H' hi h
      exact loop_turn k1 (ups_get hi) (fun fa' O' st => by simp only [Rep]) h
    · intro σ' H' h
      exact loop_end k1 (by rw [ups_len]; exact Nat.le_refl _) h
def whN (c : DT) (b : DM) : Nat → DS → Option (Fl × DS)
  | 0, _ => none
  | n + 1, s => (c s).bind fun x => if x.1 = true then (b x.2).bind fun y => match y.1 with
      | .next => whN c b n y.2
      | .cont => whN c b n y.2
      | .brk => some (.next, y.2)
      | .ret v => some (.ret v, y.2)
    else some (.next, x.2)
open Classical in
noncomputable def dWhile (c : DT) (b : DM) : DM := fun s => if h : ∃ n r, whN c b n s = some r then whN c b h.choose s else none
theorem whN_mono {c : DT} {b : DM} : ∀ (n : Nat) {s : DS} {r : Fl × DS}, whN c b n s = some r → whN c b (n + 1) s = some r
  | 0, s, r, h => by cases h
  | n + 1, s, r, h => by
    rw [whN] at h ⊢
    obtain ⟨⟨x, s1⟩, h1, h2⟩ := Option.bind_eq_some_iff.mp h
    refine Option.bind_eq_some_iff.mpr ⟨(x, s1), h1, ?_⟩
    cases x with
    | false => exact h2
    | true =>
      simp only [if_true] at h2 ⊢
      obtain ⟨⟨y, s2⟩, h3, h4⟩ := Option.bind_eq_some_iff.mp h2
      refine Option.bind_eq_some_iff.mpr ⟨(y, s2), h3, ?_⟩
      cases y with
      | next => exact whN_mono n h4
      | cont => exact whN_mono n h4
      | brk => exact h4
      | ret v => exact h4
theorem whN_le {c : DT} {b : DM} {n m : Nat} (hnm : n ≤ m) {s : DS} {r : Fl × DS} (h : whN c b n s = some r) : whN c b m s = some r := by
  induction hnm with
  | refl => exact h
  | step _ ih => exact whN_mono _ ih
theorem dWhile_of {c : DT} {b : DM} {n : Nat} {s : DS} {r : Fl × DS} (h : whN c b n s = some r) : dWhile c b s = some r := by
  have hx : ∃ n r, whN c b n s = some r := ⟨n, r, h⟩
  unfold dWhile
  rw [dif_pos hx]
  obtain ⟨r', h'⟩ := hx.choose_spec
  have e1 := whN_le (Nat.le_max_left n hx.choose) h
  have e2 := whN_le (Nat.le_max_right n hx.choose) h'
  rw [e1] at e2
  rw [h', e2]
theorem dWhile_to {c : DT} {b : DM} {s : DS} {r : Fl × DS} (h : dWhile c b s = some r) : ∃ n, whN c b n s = some r := by
  unfold dWhile at h
  by_cases hx : ∃ n r, whN c b n s = some r
  · rw [dif_pos hx] at h; exact ⟨_, h⟩
  · rw [dif_neg hx] at h; cases h
/-- one turn more -/
theorem dWhile_turn {c : DT} {b : DM} {s s1 s2 : DS} {r : Fl × DS} (h1 : c s = some (true, s1)) (h2 : b s1 = some (.next, s2)) (h3 : dWhile c b s2 = some r) : dWhile c b s = some r := by
  obtain ⟨n, h⟩ := dWhile_to h3
  refine dWhile_of (n := n + 1) ?_
  rw [whN, h1]
  simp only [Option.bind_some, if_true, h2]
  exact h
theorem dWhile_end {c : DT} {b : DM} {s s1 : DS} (h1 : c s = some (false, s1)) : dWhile c b s = some (.next, s1) := by
  refine dWhile_of (n := 1) ?_
  rw [whN, h1]
  simp
theorem s_while {c : Expr} {fc : DT} (hp : PassesOwn (model X.prog X.w) X.A X.env X.xe) (hc : TO X g c fc) (hb : SSO X g body b) : SO X g (.While c body [] pos) (dWhile fc b) := SO.w (ps_while hp hc.pe hb.pe) fun E σ H ⟨fa, O, s, fl, sf, I, q, k⟩ => by
  obtain ⟨n, h⟩ := dWhile_to q
  refine ⟨fun m σ' H' => ∃ fa' O' s', Stp fa O H fa' O' H' ∧ GI X.K g σ' H' fa' O' s' ∧ whN fc b m s' = some (fl, sf), ⟨n, fa, O, s, Stp.refl, I, h⟩, ?_⟩
  rintro m σ1 H1 ⟨f1, O1, s1, a1, I1, h1⟩
  cases m with
  | zero => cases h1
  | succ m =>
    rw [whN] at h1
    obtain ⟨⟨x, s2⟩, h2, h3⟩ := Option.bind_eq_some_iff.mp h1
    refine ⟨f1, O1, s1, x, s2, I1, h2, fun H2 f2 O2 a2 I2 => ?_⟩
    cases x with
    | false => rw [if_neg Bool.false_ne_true] at h3 ⊢; cases h3; exact k σ1 H2 f2 O2 (a1.trans a2.stp) I2
    | true =>
      rw [if_pos rfl] at h3 ⊢
      obtain ⟨⟨y, s3⟩, h4, h5⟩ := Option.bind_eq_some_iff.mp h3
      refine ⟨fun σ' H' => ∃ fa' O' s', Stp fa O H fa' O' H' ∧ GI X.K g σ' H' fa' O' s' ∧ whN fc b m s' = some (fl, sf), fun σ' H' z => ⟨m, Nat.lt_succ_self m, z⟩, f2, O2, s2, y, s3, I2, h4, ?_⟩
      have a12 := a1.trans a2.stp
      cases y with
      | next => exact fun σ3 H3 f3 O3 a3 I3 => ⟨f3, O3, s3, a12.trans a3, I3, h5⟩
      | cont => exact fun σ3 H3 f3 O3 a3 I3 => ⟨f3, O3, s3, a12.trans a3, I3, h5⟩
      | brk => cases h5; exact fun σ3 H3 f3 O3 a3 I3 => k σ3 H3 f3 O3 (a12.trans a3) I3
      | ret v => cases h5; exact fun σ3 v H3 f3 O3 a3 I3 r => k σ3 v H3 f3 O3 (a12.trans a3) I3 r
end

abbrev DFn := List D → Option FS → Option (D × Option FS)
def spD (K : PySem.W.Frag) (n : Nat) (m : DFn) : Sp := fun vs H Q _ => ∃ (F : Addr → Prop) (fa : Option Addr) (ds : List D) (fs : Option FS) (d : D) (fs' : Option FS),
  (∀ b, F b → H b ≠ none) ∧ (∀ a, fa = some a → F a) ∧ Reps K F fa H ds vs ∧ FeedR F H fa fs ∧ m ds fs = some (d, fs') ∧ ds.length = n ∧
    ∀ v H' fa', Stp fa [] H fa' [] H' → FeedR (fun b => F b ∨ fa' = some b) H' fa' fs' → Rep K (fun b => F b ∨ fa' = some b) fa' H' d v → Q v H'
abbrev FnD (P : Program) (w : World) (K : PySem.W.Frag) (mg : Str → Option Value) (base : Heap) (k : Nat) (f : Addr) (fd : FuncData) (ps : List Str) (m : DFn) : Prop := FnOk P w K mg base CX0 k f fd ps (spD K ps.length m)
def mFn (n : Nat) (b : DM) : DFn := fun ds fs => (b ⟨ds.map .val ++ List.replicate (n - ds.length) .no, fs⟩).bind fun x => match x.1 with
  | .ret d => some (d, x.2.fs)
  | .next => some (.non, x.2.fs)
  | _ => none
theorem slr_no {K : PySem.W.Frag} {N : Addr → Prop} {fa : Option Addr} {H : Hp} : ∀ n : Nat, SlR K N fa H (List.replicate n .no) (List.replicate n none) []
  | 0 => by simp [SlR]
  | n + 1 => by
    simp only [List.replicate_succ, SlR]
    exact ⟨_, _, rfl, slr_no n⟩
theorem slr_start {K : PySem.W.Frag} {N : Addr → Prop} {fa : Option Addr} {H : Hp} {n : Nat} : ∀ {ds : List D} {vs : List V}, Reps K N fa H ds vs → SlR K N fa H (ds.map .val ++ List.replicate n .no) (vs.map some ++ List.replicate n none) []
  | [], vs, h => by simp only [Reps] at h; subst h; simpa using slr_no n
  | d :: r, vs, h => by
    simp only [Reps] at h
    obtain ⟨x, ys, rfl, h1, h2⟩ := h
    simp only [List.map_cons, List.cons_append, SlR]
    exact ⟨x, _, rfl, h1, slr_start h2⟩
theorem Reps.len {K : PySem.W.Frag} {N : Addr → Prop} {fa : Option Addr} {H : Hp} {ds : List D} {vs : List V} (h : Reps K N fa H ds vs) : vs.length = ds.length := h.length
section
variable {P : Program} {w : World} {K : PySem.W.Frag} {mg : Str → Option Value} {base : Heap}
theorem fn_D {x qual : Str} {st : Stmt} {f : Addr} {fd : FuncData} {N ps : List Str} {k : Nat} {b : DM} (F : Fun K x qual st f fd) (S : FnScope N ps (defScope st))
    (hbody : ∀ (cdv : Value) (A : Around) (outer : List Env) (s : Shared) (H : Hp) (E : XK) (g : Gh), Room k (A.deeper (PyProof.Rows.envOfC qual (defScope st) s.heap.objs.size f cdv)) → SSO (cxOf CX0 P w K mg base N qual (defScope st) f cdv A outer s H E).nox g (defBody st) b) :
    FnD P w K mg base (k + 1) f fd ps (mFn N.length b) := by
  refine F.ok S (fun vs H Q E h => ?_) (fun cdv A outer s H vs Q E hr h => ?_)
  · obtain ⟨F, fa, ds, fs, d, fs', _, _, r, _, _, hl, _⟩ := h
    rw [r.length]; exact hl
  obtain ⟨F, fa, ds, fs, d, fs', tr, ff, r, fd, e, hl, q⟩ := h
  refine ⟨_, (hbody cdv A outer s H E ⟨F, H, fa⟩ hr).pe, ?_⟩
  obtain ⟨⟨fl, s'⟩, h1, h2⟩ := Option.bind_eq_some_iff.mp e
  have hN : ∀ b, NN F fa [] b → F b := fun b z => by
    rcases z with z | z | z
    · exact z
    · cases z
    · exact ff b z
  have c : Car K F fa H (NN F fa []) fa H := ⟨fun b xs n q => ⟨q, fun z => n (hN b z)⟩, fun _ _ q => q, fun _ _ q => q, fun _ q => q⟩
  have el : (L2.start N vs) = vs.map some ++ List.replicate (N.length - ds.length) none := by rw [L2.start, r.length]
  have I : GI K ⟨F, H, fa⟩ (L2.start N vs) H fa [] ⟨ds.map .val ++ List.replicate (N.length - ds.length) .no, fs⟩ := by
    refine ⟨List.nodup_nil, ?_, fun b hb => (by cases hb), Stp.refl, tr, ff, fd.car c fun _ _ => rfl, fun _ _ z => (by cases z)⟩
    rw [el]
    exact slr_start (Reps.go c ds vs r)
  have fin : ∀ {fa' : Option Addr} {O' : List Addr} {H' : Hp} {σ' : L2.St} {v : V} {dd : D}, Stp fa [] H fa' O' H' → GI K ⟨F, H, fa⟩ σ' H' fa' O' s' → Rep K (NN F fa' O') fa' H' dd v → dd = d → s'.fs = fs' → Q v H' := by
    intro fa' O' H' σ' v dd a1 I1 r1 e1 e2
    subst e1; subst e2
    have c1 : Car K (NN F fa' O') fa' H' (fun b => F b ∨ fa' = some b) fa' H' := ⟨fun b xs n q => ⟨q, fun z => n (by
      rcases z with z | z
      · exact .inl z
      · exact .inr (.inr z))⟩, fun _ _ q => q, fun _ _ q => q, fun _ q => q⟩
    exact q v H' fa' ⟨fun b hb => (by cases hb), a1.fe, a1.same, a1.mon⟩ (I1.fd.car c1 fun _ _ => rfl) (Rep.go c1 _ _ r1)
  refine ⟨fa, [], _, fl, s', I, h1, ?_⟩
  cases fl with
  | next =>
    simp only [Option.some.injEq, Prod.mk.injEq] at h2
    exact fun σ' H' fa' O' a1 I1 => fin a1 I1 (v := .non) (dd := .non) (by simp only [Rep]) h2.1 h2.2
  | ret dd =>
    simp only [Option.some.injEq, Prod.mk.injEq] at h2
    exact fun σ' v H' fa' O' a1 I1 r1 => fin a1 I1 r1 h2.1 h2.2
  | brk => cases h2
  | cont => cases h2
end
def dCall (m : DFn) (f : DA) : DE := fun s => (f s).bind fun x => (m x.1 x.2.fs).map fun y => (y.1, { x.2 with fs := y.2 })
section
variable {X : Cx} {g : Gh} {k : Nat} {f : Addr} {fd : FuncData} {ps : List Str} {m : DFn} {x : Str} {p pos : Pos} {e : Expr} {es : List Expr} {t : DA}
theorem call_w {n : Nat} (hn : ∀ s ds s', t s = some (ds, s') → ds.length = n) (σ : L2.St) (H : Hp) (Q : VK) (h : liftE X.K g (dCall m t) σ H Q) : tCall (spD X.K n m) [] E0 (liftA X.K g t) σ H Q := by
  obtain ⟨fa, O, s, d, s', I, q, k⟩ := h
  obtain ⟨⟨ds, s1⟩, h1, h2⟩ := Option.bind_eq_some_iff.mp q
  obtain ⟨⟨d1, fs1⟩, h3, h4⟩ := Option.map_eq_some_iff.mp h2
  simp only [Prod.mk.injEq] at h4
  obtain ⟨e1, e2⟩ := h4
  subst e1; subst e2
  refine ⟨fa, O, s, ds, s1, I, h1, fun vs H1 f1 O1 a1 I1 r => ?_⟩
  show spD X.K n m (vs ++ []) H1 Q E0
  rw [List.append_nil]
  refine ⟨NN g.F f1 O1, f1, ds, s1.fs, d1, fs1, fun b hb => I1.nn_tracked hb, fun a ha => .inr (.inr ha), r, I1.fd, h3, hn s ds s1 h1, fun v H2 f2 a2 fd2 r2 => ?_⟩
  have a3 : StE f1 O1 H1 f2 O1 H2 := ⟨fun b hb => hb, a2.fe, fun b u e n => a2.same b u e (by simp) n, a2.mon⟩
  have c := I1.car a3.stp
  have c2 : Car X.K (fun b => NN g.F f1 O1 b ∨ f2 = some b) f2 H2 (NN g.F f2 O1) f2 H2 := ⟨fun b xs n q => ⟨q, fun z => n (by
      rcases z with z | z | z
      · exact .inl (.inl z)
      · exact .inl (.inr (.inl z))
      · exact .inr z)⟩, fun _ _ q => q, fun _ _ q => q, fun _ q => q⟩
  refine k v H2 f2 O1 (a1.trans a3) ⟨I1.nd, SlR.go c (fun b xs hb e => ?_) I1.sl, I1.fr, I1.st.trans ⟨fun b hb => (by cases hb), a2.fe, fun b u e n z => a2.same b u e n z, a2.mon⟩, I1.tr, I1.ff, fd2.car c2 fun _ _ => rfl, I1.nf_step a3.fe⟩ (Rep.go c2 _ _ r2)
  exact a3.same b _ e fun z => I1.nf b z hb
theorem eo_call (F : FnD X.prog X.w X.K X.mg X.base k f fd ps m) (hr : Room k X.A) (hg : Gl X x) (hm : X.mg x = some (.ref f)) (hk : PySem.W.keepIn X.K (.ref f) = true) (hb : Binds X.K fd ps [])
    (ha : AO X g (e :: es) t) (hn : ∀ s ds s', t s = some (ds, s') → ds.length = ps.length) (hdb : (x == ("__debug__" : Str)) = false := by decide) (he : starEach (e :: es) X.env = (false, eval e X.env) :: starEach es X.env := by rfl) (hpl : (backTo pos (starEach es X.env)).any (·.1) = false := by rfl) :
    EO X g (.Call (.Name x p) (e :: es) [] pos) (dCall m t) := EO.w (pe_call F hr hg hm hk hb .nil pass0 ha.pe hdb he hpl) (call_w hn)
theorem dNil_len : ∀ s ds s', dNil s = some (ds, s') → ds.length = 0 := fun s ds s' h => by cases h; rfl
theorem dCons_len {a : DE} {r : DA} {n : Nat} (h : ∀ s ds s', r s = some (ds, s') → ds.length = n) : ∀ s ds s', dCons a r s = some (ds, s') → ds.length = n + 1 := fun s ds s' q => by
  obtain ⟨d, s1, es, h1, h2, h3⟩ := dCons_some q
  subst h3
  simp [h _ _ _ h2]
end
end DL

namespace DL
open PySem PySem.Spec L2

def ItD (K : PySem.W.Frag) (N : Addr → Prop) (fa : Option Addr) (H1 : Hp) (J : It) (ds : List D) : Prop := ∀ N' fa' H', Car K N fa H1 N' fa' H' → ∀ i : Nat,
  (∀ d, ds[i]? = some d → J.go i H' ∧ ∀ x H'', J.yld i H' x H'' → H'' = H' ∧ Rep K N' fa' H' d x) ∧ (ds.length ≤ i → J.stop i H')
def liftI (K : PySem.W.Frag) (g : Gh) (f : DA) : TI := fun σ H R => ∃ fa O s ds s', GI K g σ H fa O s ∧ f s = some (ds, s') ∧ ds.length ≤ sizeLine ∧
  ∀ J H' fa' O', StE fa O H fa' O' H' → GI K g σ H' fa' O' s' → ItD K (NN g.F fa' O') fa' H' J ds → R J H'
structure IO (X : Cx) (g : Gh) (tg iter : Expr) (f : DA) : Prop where
  pe : PI X tg iter (liftI X.K g f)
def dItems (f : DE) : DA := fun s => (f s).bind fun x => match x.1 with
  | .lst ds => some (ds, x.2)
  | .tup ds => some (ds, x.2)
  | _ => none
def dRange (f : DA) : DA := fun s => (f s).bind fun x => (dRng x.1).map fun ds => (ds, x.2)
section
variable {X : Cx} {g : Gh} {tg iter : Expr} {f : DE}
theorem PIw {t t' : TI} (h : PI X tg iter t) (w : ∀ σ H R, t' σ H R → t σ H R) : PI X tg iter t' := fun pins s σ H R I q => h pins s σ H R I (w σ H R q)
theorem IO.w {f : DA} {t : TI} (h : PI X tg iter t) (w : ∀ σ H R, liftI X.K g f σ H R → t σ H R) : IO X g tg iter f := ⟨PIw h w⟩
theorem io_seq (h : EO X g iter f) : IO X g tg iter (dItems f) := IO.w (pi_seq h.pe) fun σ H R ⟨fa, O, s, ds, s', I, e, hz, k⟩ => by
  obtain ⟨⟨d, s1⟩, h1, h2⟩ := Option.bind_eq_some_iff.mp e
  refine ⟨fa, O, s, d, s1, I, h1, fun v H1 f1 O1 a1 I1 r => ?_⟩
  cases d with
  | lst es =>
    cases h2
    simp only [Rep] at r
    obtain ⟨a, xs, rfl, na, q, w⟩ := r
    refine ⟨a, rfl, .inl ⟨⟨xs, SqL.of q⟩, k _ H1 f1 O1 a1 I1 fun N' fa' H' c i => ⟨fun d hd => ?_, fun hl => ?_⟩⟩⟩
    · obtain ⟨x, hx, rx⟩ := Reps.get w hd
      have q' := (c.ls a xs na q).1
      refine ⟨⟨xs, x, SqL.of q', hx⟩, fun y H'' hy => ?_⟩
      obtain ⟨e1, e2⟩ := hy
      have := e2 xs (SqL.of q')
      rw [hx] at this; cases this
      exact ⟨e1, Rep.go c d x rx⟩
    · exact ⟨xs, SqL.of (c.ls a xs na q).1, by rw [w.length]; exact hl⟩
  | tup es =>
    cases h2
    simp only [Rep] at r
    obtain ⟨a, xs, rfl, q, w⟩ := r
    refine ⟨a, rfl, .inr ⟨⟨xs, q⟩, k _ H1 f1 O1 a1 I1 fun N' fa' H' c i => ⟨fun d hd => ?_, fun hl => ?_⟩⟩⟩
    · obtain ⟨x, hx, rx⟩ := Reps.get w hd
      have q' := c.tp a xs q
      refine ⟨⟨xs, x, q', hx⟩, fun y H'' hy => ?_⟩
      obtain ⟨e1, e2⟩ := hy
      have := e2 xs q'
      rw [hx] at this; cases this
      exact ⟨e1, Rep.go c d x rx⟩
    · exact ⟨xs, c.tp a xs q, by rw [w.length]; exact hl⟩
  | _ => cases h2
theorem it_range {K : PySem.W.Frag} {N : Addr → Prop} {fa : Option Addr} {H1 : Hp} (lo : Int) (n : Nat) : ItD K N fa H1 (Itr lo n) (ups lo n) := fun N' fa' H' c i => ⟨fun d hd => by
  have hi : i < n := by have := (List.getElem?_eq_some_iff.mp hd).1; rwa [ups_len] at this
  rw [ups_get hi] at hd
  cases hd
  refine ⟨hi, fun x H'' hy => ?_⟩
  obtain ⟨e1, e2⟩ := hy
  subst e2
  exact ⟨e1, by simp only [Rep]⟩, fun hl => by rw [ups_len] at hl; exact hl⟩
theorem io_range1 {a : Expr} {fa : DE} {p cpos : Pos} (hgl : Gl X "range") (hm : X.mg "range" = none) (ha : EO X g a fa) (hs1 : starEach [a] X.env = [(false, eval a X.env)] := by rfl) :
    IO X g tg (.Call (.Name "range" p) [a] [] cpos) (dRange (dCons fa dNil)) := IO.w (pi_range1 hgl hm (ao_cons ha ao_nil hs1).pe hs1) fun σ H R ⟨fa, O, s, es, s', I, q, hz, k⟩ => by
  obtain ⟨⟨ds, s1⟩, h1, h2⟩ := Option.bind_eq_some_iff.mp q
  obtain ⟨es', h3, h4⟩ := Option.map_eq_some_iff.mp h2
  cases h4
  obtain ⟨d, s2, rs, e1, e2, e3⟩ := dCons_some h1
  cases e2
  obtain ⟨j, rfl, j1, j2, rfl⟩ := rng1 h3 e3
  refine ⟨fa, O, s, ds, _, I, h1, fun vs H1 f1 O1 a1 I1 r => ?_⟩
  rw [e3] at r
  simp only [Reps, Rep] at r
  obtain ⟨x, ys, rfl, rfl, rfl⟩ := r
  exact ⟨j, rfl, j1, j2, k _ H1 f1 O1 a1 I1 (it_range 0 j.toNat)⟩
end

def capOne (sl : List Sl) (i : Nat) : Sl := match sl[i]? with
  | some (Sl.val d) => Sl.val d
  | _ => Sl.no
def capS (idx : List Nat) (sl : List Sl) : List Sl := idx.map (capOne sl)
def dCompL (mk : D → Option (List Sl)) (fc : DT) (fe : DE) : List D → Option FS → Option (List D × Option FS)
  | [], fs => some ([], fs)
  | d :: r, fs => (mk d).bind fun sl => (fc ⟨sl, fs⟩).bind fun c => if c.1 = true then (fe c.2).bind fun y => (dCompL mk fc fe r y.2.fs).map fun z => (y.1 :: z.1, z.2) else dCompL mk fc fe r c.2.fs
def dComp1 (idx : List Nat) (fi : DA) (fc : DT) (fe : DE) : DA := fun s => (fi s).bind fun x => if x.1.length ≤ sizeLine then (dCompL (fun d => some (.val d :: capS idx x.2.sl)) fc fe x.1 x.2.fs).map fun y => (y.1, { x.2 with fs := y.2 }) else none
def FF (g : Gh) (fa : Option Addr) (O : List Addr) (p : Addr) : Addr → Prop := fun b => NN g.F fa O b ∨ b = p
structure CI (K : PySem.W.Frag) (g : Gh) (f1 : Option Addr) (O1 : List Addr) (Hd : Hp) (p : Addr) (fa : Option Addr) (H : Hp) (ys : List V) (res : List D) (fs : Option FS) : Prop where
  st : Stp f1 [p] Hd fa [p] H
  ls : H p = some (.lst ys)
  rs : Reps K (FF g fa O1 p) fa H res ys
  fd : FeedR (FF g fa O1 p) H fa fs
  nf : fa ≠ some p
section
variable {K : PySem.W.Frag} {g : Gh} {f1 fa fa' : Option Addr} {O1 : List Addr} {Hd H H' : Hp} {p : Addr} {ys : List V} {res : List D} {fs : Option FS}
theorem CI.nofa (c : CI K g f1 O1 Hd p fa H ys res fs) : fa ≠ some p := c.nf
theorem ci_car (h0 : ∀ xs, fa ≠ none → ∀ a, fa = some a → ¬ Rd H a (.tup xs)) (hfz : ∀ a, fa = some a → ∀ o u, ¬ H a = some (.frz o u)) (a : StE fa [] H fa' [] H') : Car K (FF g fa O1 p) fa H (FF g fa' O1 p) fa' H' := by
  refine ⟨fun b xs n q => ⟨a.same b _ q fun z => n (.inl (.inr (.inr z))), fun z => ?_⟩, fun b xs q => ?_, fun b xs q => ?_, fun x e => a.stp.fa_keep e⟩
  · rcases z with (z | z | z) | z
    · exact n (.inl (.inl z))
    · exact n (.inl (.inr (.inl z)))
    · rcases a.fe with e | ⟨e, h⟩
      · exact n (.inl (.inr (.inr (e ▸ z))))
      · rw [h b z] at q; cases q
    · exact n (.inr z)
  · refine SqT.stp' a.stp (fun x e ys => h0 ys (by rw [e]; simp) x e) (fun x hx => by cases hx) q
  · rcases q with ⟨o, q⟩ | q
    · exact .inl ⟨o, a.same _ _ q fun z => hfz b z _ _ q⟩
    · exact .inr q
theorem feed_notup {N : Addr → Prop} (h : FeedR N H fa fs) : ∀ xs, fa ≠ none → ∀ a, fa = some a → ¬ Rd H a (.tup xs) := fun xs _ a e z => h.no_tup e z
theorem CI.step (c : CI K g f1 O1 Hd p fa H ys res fs) (a : StE fa [] H fa' [] H') {g' : Gh} {σ : L2.St} {s' : DS} (hF : ∀ b, FF g fa' O1 p b → NN g'.F fa' [] b) (I : GI K g' σ H' fa' [] s') : CI K g f1 O1 Hd p fa' H' ys res s'.fs := by
  have cr : Car K (FF g fa O1 p) fa H (FF g fa' O1 p) fa' H' := ci_car (feed_notup c.fd) (fun x e o u => c.fd.no_frz e) a
  refine ⟨c.st.trans ⟨fun b hb => .inl hb, a.fe, fun b u e _ n => a.same b u e n, a.mon⟩, a.same p _ c.ls c.nofa, Reps.go cr _ _ c.rs, I.fd.car (K := K) ⟨fun b xs n q => ⟨q, fun z => n (hF b z)⟩, fun _ _ q => q, fun _ _ q => q, fun _ q => q⟩ fun _ _ => rfl, fun z => ?_⟩
  rcases a.fe with y | ⟨_, y⟩
  · rw [y] at z; exact c.nf z
  · have := c.ls; rw [y p z] at this; cases this
theorem CI.app (c : CI K g f1 O1 Hd p fa H ys res fs) {N : Addr → Prop} {d : D} {v : V} (hF : ∀ b, FF g fa O1 p b → N b) (r : Rep K N fa H d v) : CI K g f1 O1 Hd p fa (upd H p (.lst (ys ++ [v]))) (ys ++ [v]) (res ++ [d]) fs := by
  have cr : Car K (FF g fa O1 p) fa H (FF g fa O1 p) fa (upd H p (.lst (ys ++ [v]))) := by
    refine ⟨fun b xs n q => ⟨by rw [upd_ne (fun z => n (.inr z))]; exact q, n⟩, fun b xs q => ?_, fun b xs q => ?_, fun _ q => q⟩
    · rcases q with (q | ⟨o, q⟩) | q
      · exact .inl (.inl (by rw [upd_ne (fun z => by rw [z, c.ls] at q; cases q)]; exact q))
      · exact .inl (.inr ⟨o, by rw [upd_ne (fun z => by rw [z, c.ls] at q; cases q)]; exact q⟩)
      · exact .inr q
    · rcases q with ⟨o, q⟩ | q
      · exact .inl ⟨o, by rw [upd_ne (fun z => by rw [z, c.ls] at q; cases q)]; exact q⟩
      · exact .inr q
  have c0 : Car K N fa H (FF g fa O1 p) fa H := ⟨fun b xs n q => ⟨q, fun z => n (hF b z)⟩, fun _ _ q => q, fun _ _ q => q, fun _ q => q⟩
  refine ⟨c.st.trans ⟨fun b hb => .inl hb, .inl rfl, fun b u e n _ => by rw [upd_ne (fun z => n (by simp [z]))]; exact e, fun b z => ?_⟩, upd_same, ?_, c.fd.car cr fun a e => upd_ne fun z => c.nofa (z ▸ e), c.nf⟩
  · by_cases hb : b = p
    · subst hb; rw [upd_same] at z; cases z
    · rw [upd_ne hb] at z; exact z
  · exact Reps.append (Reps.go cr _ _ c.rs) (Reps.one (Rep.go cr _ _ (Rep.go c0 _ _ r)))
end
section
variable {X : Cx} {g : Gh} {scope : Scope} {cl : List (Str × Addr)} {N' : List Str} {idx : List Nat} {iter elt tg : Expr} {ifs : List Expr} {pos : Pos} {fi : DA} {fc : DT} {fe : DE}
def IfsO (X : Cx) (g : Gh) (ifs : List Expr) (f : DT) : Prop := PIfs X ifs (liftT X.K g f)
def dYes : DT := fun s => some (true, s)
theorem ifs_nil : IfsO X g [] dYes := fun pins s σ H Q I ⟨fa, O, s0, d, s', G, e, k⟩ => pifs_nil pins s σ H Q I (by cases e; exact k H fa O StE.refl G)
theorem ifs_one {c : Expr} {f : DT} (h : TO X g c f) : IfsO X g [c] f := pifs_one h.pe
theorem slr_cap {K : PySem.W.Frag} {N : Addr → Prop} {fa : Option Addr} {H : Hp} {sl : List Sl} {σ : L2.St} {O : List Addr} (h : SlR K N fa H sl σ O) : ∀ idx : List Nat, SlR K N fa H (capS idx sl) (idx.map fun i => (σ[i]?).join) []
  | [] => by simp [capS, SlR]
  | i :: r => by
    have ih := slr_cap h r
    have go : ∀ e : sl[i]? = none ∨ (∃ z, sl[i]? = some z ∧ ∀ d, z ≠ .val d), capOne sl i = .no := fun e => by
      unfold capOne
      rcases e with e | ⟨z, e, n⟩
      · rw [e]
      · rw [e]
        cases z with
        | val d => exact absurd rfl (n d)
        | no => rfl
        | own ds => rfl
    show SlR K N fa H (capOne sl i :: capS r sl) ((σ[i]?).join :: r.map fun i => (σ[i]?).join) []
    cases e : sl[i]? with
    | none =>
      rw [go (.inl e)]
      simp only [SlR]
      exact ⟨_, _, rfl, ih⟩
    | some z =>
      cases z with
      | no =>
        rw [go (.inr ⟨_, e, fun d z => by cases z⟩)]
        simp only [SlR]
        exact ⟨_, _, rfl, ih⟩
      | own ds =>
        rw [go (.inr ⟨_, e, fun d z => by cases z⟩)]
        simp only [SlR]
        exact ⟨_, _, rfl, ih⟩
      | val d =>
        obtain ⟨u, e1, q⟩ := SlR.val h e
        have ec : capOne sl i = .val d := by unfold capOne; rw [e]
        rw [ec]
        simp only [SlR]
        exact ⟨u, _, by rw [e1]; rfl, q, ih⟩
def dCompG (mk : List Sl → D → Option (List Sl)) (fi : DA) (fc : DT) (fe : DE) : DA := fun s => (fi s).bind fun x => if x.1.length ≤ sizeLine then (dCompL (mk x.2.sl) fc fe x.1 x.2.fs).map fun y => (y.1, { x.2 with fs := y.2 }) else none
theorem compG_w {n : Nat} {G : TG} {mk : List Sl → D → Option (List Sl)} (hG : ∀ (N : Addr → Prop) (fa : Option Addr) (sl : List Sl) (d : D) (sl0 : List Sl) (x : V) (σ : L2.St) (H : Hp) (Q : L2.St → Hp → Prop), mk sl d = some sl0 → Rep X.K N fa H d x → SlR X.K N fa H (capS idx sl) (idx.map fun i => (σ[i]?).join) [] →
    (∀ σ' : L2.St, (σ'.length = (blkS n idx σ).length ∧ ∀ (j : Nat) (v : V), (blkS n idx σ)[j]? = some (some v) → σ'[j]? = some (some v)) → SlR X.K N fa H sl0 σ' [] → Q σ' H) → G x (blkS n idx σ) H Q) : ∀ σ H Q, liftF X.K g (dCompG mk fi fc fe) σ H Q → tComp n idx (liftI X.K g fi) G (fun σ H Q => ∃ g', liftT X.K g' fc σ H Q) (fun σ H Q => ∃ g', liftE X.K g' fe σ H Q) σ H Q := by
  intro σ H Q ⟨fa, O, s, res, s', I, e, kk⟩
  obtain ⟨⟨ds, s1⟩, h1, h2⟩ := Option.bind_eq_some_iff.mp e
  by_cases hz : ds.length ≤ sizeLine
  · simp only [if_pos hz] at h2
    obtain ⟨⟨out, fsf⟩, h3, h4⟩ := Option.map_eq_some_iff.mp h2
    simp only [Prod.mk.injEq] at h4
    obtain ⟨e1, e2⟩ := h4
    subst e1; subst e2
    refine ⟨fa, O, s, ds, s1, I, h1, hz, fun J H1 f1 O1 a1 I1 J1 p hp => ?_⟩
    -- from the start to a turn
    have stE : ∀ {fa' : Option Addr} {H' : Hp}, Stp f1 [p] (upd H1 p (.lst [])) fa' [p] H' → StE f1 O1 H1 fa' O1 H' := fun {fa' H'} a => by
      refine ⟨fun _ h => h, ?_, fun b u e n => ?_, fun b z => (stE_new (fa := f1) (O := O1) hp).mon b (a.mon b z)⟩
      · rcases a.fe with e | ⟨e, h⟩
        · exact .inl e
        · exact .inr ⟨e, fun x z => (stE_new (fa := f1) (O := O1) hp).mon x (h x z)⟩
      · have nb : b ≠ p := ne_of_none e hp
        exact a.same b u (by rw [upd_ne nb]; exact e) (by simp [nb]) n
    have carP : ∀ {fa' : Option Addr} {H' : Hp}, Stp f1 [p] (upd H1 p (.lst [])) fa' [p] H' → Car X.K (NN g.F f1 O1) f1 H1 (FF g fa' O1 p) fa' H' := fun {fa' H'} a => by
      have c := I1.car (stE a).stp
      refine ⟨fun b xs n q => ?_, c.tp, c.fz, c.fe⟩
      obtain ⟨q', n'⟩ := c.ls b xs n q
      refine ⟨q', ?_⟩
      rintro (z | z)
      · exact n' z
      · subst z; rw [hp] at q; cases q
    refine ⟨fun i m H' => m = ds.length - i ∧ i ≤ ds.length ∧ ∃ fa' ys res' rest fs', CI X.K g f1 O1 (upd H1 p (.lst [])) p fa' H' ys res' fs' ∧ dCompL (mk s1.sl) fc fe (ds.drop i) fs' = some (rest, fsf) ∧ res' ++ rest = out ∧ ys.length ≤ i, ?_, ?_⟩
    · refine ⟨ds.length, by simp, Nat.zero_le _, f1, [], [], out, s1.fs, ⟨Stp.refl, upd_same, Reps.nil, ?_, fun z => I1.fd.tracked z hp⟩, by simpa using h3, rfl, Nat.le_refl _⟩
      exact I1.fd.car (car_new I1 hp) (I1.fd.same_new hp)
    · rintro i m H' ⟨rfl, hil, fa', ys, res', rest, fs', c, hd, ho, hy⟩
      have Hcar := carP c.st
      obtain ⟨jgo, jstop⟩ := J1 _ _ _ Hcar i
      by_cases hlt : i < ds.length
      · have hdi : ds[i]? = some ds[i] := List.getElem?_eq_getElem hlt
        obtain ⟨go, yl⟩ := jgo _ hdi
        refine .inr ⟨go, fun x H'' hx => ?_⟩
        obtain ⟨e1, rx⟩ := yl x H'' hx
        subst e1
        rw [drop_at hdi, dCompL] at hd
        obtain ⟨sl0, hm, hd⟩ := Option.bind_eq_some_iff.mp hd
        obtain ⟨⟨b, sb⟩, h5, h6⟩ := Option.bind_eq_some_iff.mp hd
        -- the block's state
        have hNN : ∀ b, NN (FF g fa' O1 p) fa' [] b → FF g fa' O1 p b := fun b z => by
          rcases z with z | z | z
          · exact z
          · cases z
          · exact .inl (.inr (.inr z))
        have cN : Car X.K (FF g fa' O1 p) fa' H'' (NN (FF g fa' O1 p) fa' []) fa' H'' := ⟨fun b xs n q => ⟨q, fun z => n (hNN b z)⟩, fun _ _ q => q, fun _ _ q => q, fun _ q => q⟩
        have trk : ∀ b, FF g fa' O1 p b → H'' b ≠ none := fun b z => by
          rcases z with (z | z | z) | z
          · exact fun w => I1.trF z ((stE c.st).mon b w)
          · obtain ⟨xs, e⟩ := I1.owned z
            exact fun w => by have := (stE c.st).mon b w; rw [e] at this; cases this
          · exact c.fd.tracked z
          · rw [z, c.ls]; simp
        refine hG (NN (FF g fa' O1 p) fa' []) fa' s1.sl ds[i] sl0 x σ H'' _ hm (Rep.go cN _ _ rx) (SlR.go cN (fun a xs ha => by cases ha) (slr_cap (SlR.go Hcar (fun a xs ha e => (stE c.st).same a _ e fun z => I1.nf a z ha) I1.sl) idx)) fun σ1 hσ hsl => ⟨hσ, ?_⟩
        have G0 : GI X.K ⟨FF g fa' O1 p, H'', fa'⟩ σ1 H'' fa' [] ⟨sl0, fs'⟩ := ⟨List.nodup_nil, hsl, fun b hb => (by cases hb), Stp.refl, trk, fun a ha => .inl (.inr (.inr ha)), c.fd.car cN fun _ _ => rfl, fun _ _ z => (by cases z)⟩
        refine ⟨⟨FF g fa' O1 p, H'', fa'⟩, fa', [], _, b, sb, G0, h5, fun H3 f3 O3 a3 I3 => ?_⟩
        have eO : O3 = [] := List.eq_nil_iff_forall_not_mem.mpr fun z hz => by have := a3.sub z hz; cases this
        subst eO
        have hF3 : ∀ b, FF g f3 O1 p b → NN (FF g fa' O1 p) f3 [] b := fun b z => by
          rcases z with (z | z | z) | z
          · exact .inl (.inl (.inl z))
          · exact .inl (.inl (.inr (.inl z)))
          · exact .inr (.inr z)
          · exact .inl (.inr z)
        have c3 := c.step a3 hF3 I3
        cases b with
        | false =>
          rw [if_neg Bool.false_ne_true] at h6
          refine iteF ?_
          exact ⟨ds.length - (i + 1), by omega, rfl, hlt, f3, ys, res', rest, sb.fs, c3, h6, ho, Nat.le_succ_of_le hy⟩
        | true =>
          rw [if_pos rfl] at h6
          refine iteT ?_
          obtain ⟨⟨dd, sd⟩, h7, h8⟩ := Option.bind_eq_some_iff.mp h6
          obtain ⟨⟨rest2, fs2⟩, h9, h10⟩ := Option.map_eq_some_iff.mp h8
          simp only [Prod.mk.injEq] at h10
          refine ⟨⟨FF g fa' O1 p, H'', fa'⟩, f3, [], sb, dd, sd, I3, h7, fun v H4 f4 O4 a4 I4 r4 => ?_⟩
          have eO : O4 = [] := List.eq_nil_iff_forall_not_mem.mpr fun z hz => by have := a4.sub z hz; cases this
          subst eO
          have hF4 : ∀ b, FF g f4 O1 p b → NN (FF g fa' O1 p) f4 [] b := fun b z => by
            rcases z with (z | z | z) | z
            · exact .inl (.inl (.inl z))
            · exact .inl (.inl (.inr (.inl z)))
            · exact .inr (.inr z)
            · exact .inl (.inr z)
          have c4 := c3.step a4 hF4 I4
          refine ⟨ys, c4.ls, by omega, ds.length - (i + 1), by omega, rfl, hlt, f4, ys ++ [v], res' ++ [dd], rest2, sd.fs, c4.app hF4 r4, by rw [h9, h10.2], ?_, by simp; omega⟩
          rw [← ho, ← h10.1]; simp
      · refine .inl ⟨jstop (Nat.le_of_not_lt hlt), ?_⟩
        rw [List.drop_eq_nil_of_le (Nat.le_of_not_lt hlt), dCompL] at hd
        simp only [Option.some.injEq, Prod.mk.injEq] at hd
        obtain ⟨hd1, hd2⟩ := hd
        subst hd1; subst hd2
        rw [List.append_nil] at ho
        subst ho
        have aE := stE c.st
        have car1 := I1.car aE.stp
        have sameO : ∀ a xs, a ∈ O1 → H1 a = some (.lst xs) → H' a = some (.lst xs) := fun a xs ha e => aE.same a _ e fun z => I1.nf a z ha
        refine kk p ys H' fa' O1 (a1.trans aE) ⟨⟨I1.nd, SlR.go car1 sameO I1.sl, I1.fr, I1.st.trans ⟨fun b hb => (by cases hb), aE.fe, fun b u e _ n => aE.same b u e n, aE.mon⟩, I1.tr, I1.ff, ?_, I1.nf_step aE.fe⟩, c.ls, SlR.go Hcar sameO I1.sl, c.fd, c.rs, c.nf⟩ (a1.mon p hp)
        exact c.fd.car (K := X.K) ⟨fun b xs n q => ⟨q, fun z => n (.inl z)⟩, fun _ _ q => q, fun _ _ q => q, fun _ q => q⟩ fun _ _ => rfl
  · simp only [if_neg hz] at h2; cases h2
theorem comp1_w (k : CompOk X scope cl N' 1 idx) : ∀ σ H Q, liftF X.K g (dComp1 idx fi fc fe) σ H Q → tComp 1 idx (liftI X.K g fi) (gName 0) (fun σ H Q => ∃ g', liftT X.K g' fc σ H Q) (fun σ H Q => ∃ g', liftE X.K g' fe σ H Q) σ H Q :=
  compG_w (mk := fun sl d => some (.val d :: capS idx sl)) fun N fa sl d sl0 x σ H Q hm rx hc kk => by
    cases hm
    refine kk _ ⟨by simp, fun j v hj => ?_⟩ ?_
    · cases j with
      | zero => simp [blkS] at hj
      | succ j => rw [List.getElem?_set_ne (by simp)]; exact hj
    · have eb : (blkS 1 idx σ).set 0 (some x) = some x :: idx.map fun i => (σ[i]?).join := by simp [blkS]
      rw [eb]
      simp only [SlR]
      exact ⟨x, _, rfl, rx, hc⟩
theorem fo_comp1 (hc : X.calm = true) (k : CompOk X scope cl N' 1 idx) (hi : IO X g tg iter fi) (hg : ∀ C s0 H0 ex, PG (blk X N' scope cl C s0 H0 ex) tg (gName 0))
    (ht : ∀ C s0 H0 ex g', IfsO (blk X N' scope cl C s0 H0 ex) g' ifs fc) (he : ∀ C s0 H0 ex g', EO (blk X N' scope cl C s0 H0 ex) g' elt fe) (hs : ∀ x, foldedSetIterable iter X.env x = pure x := by intro _; rfl) :
    FO X g (.ListComp elt [⟨tg, iter, ifs, 0⟩] scope pos) (dComp1 idx fi fc fe) := by
  -- the readings of the block for every g'
  exact FO.w (pe_comp (tc := fun σ H Q => ∃ g', liftT X.K g' fc σ H Q) (te := fun σ H Q => ∃ g', liftE X.K g' fe σ H Q) hc k hi.pe hg (fun C s0 H0 ex pins s σ H Q I ⟨g', h⟩ => ht C s0 H0 ex g' pins s σ H Q I h) (fun C s0 H0 ex pins s σ H Q I ⟨g', h⟩ => (he C s0 H0 ex g').pe pins s σ H Q I h) hs) (comp1_w k)
end
end DL

namespace HT2
open PySem PyProof.Rows
theorem cat_tup0 {prog : Program} {w : World} {A : Around} {E : Value → Shared → Prop} {s : Shared} {t b : Addr} {ws : List Value} {Q : Value → Shared → Prop} (ht : IsTup s.heap t ([] : List Value).toArray) (hb : IsTup s.heap b ws.toArray)
    (h : Q (.ref b) s) : wpAny (model prog w) A (binaryOp .Add (.ref t) (.ref b)) Q E s := by
  obtain ⟨⟨cls, dd, data, sl⟩, ho, hc, n, hd⟩ := id ht
  obtain ⟨⟨cls2, dd2, data2, sl2⟩, ho2, hc2, n2, hd2⟩ := id hb
  simp only at hc hd hc2 hd2
  subst hc hd hc2 hd2
  exact concat_meets ⟨_, ho, rfl⟩ ⟨_, ho2, rfl⟩ noFill_tuple_add seq_tuple_add PySem.F.slot_tuple_add PySem.F.entry_tuple_add (PySem.F.args_tuple_add_2 _ _)
    (tuple_addW0 t b _ ws.toArray n n2 dd dd2 sl sl2 (by simp)) ⟨ho, ho2, h⟩
end HT2
namespace DL
open PySem PySem.Spec L2

def bitsOk (i : Int) : Bool := decide (i.natAbs.log2 < 1000000)
theorem bits_of {i : Int} (h : bitsOk i = true) : Builtin.Int.intBits i ≤ 2 ^ 20 := by
  have h1 : i.natAbs.log2 < 1000000 := of_decide_eq_true h
  unfold Builtin.Int.intBits
  split
  · exact Nat.zero_le _
  · have e : (2 : Nat) ^ 20 = 1048576 := by decide
    rw [e]; omega
def divOk (j : Int) : Bool := decide (j ≠ 0) && decide (j.natAbs.log2 < 9000)
section
variable {X : Cx}
theorem op_mulB : OpR X (binaryOp .Mult) (rI (fun i j => bitsOk i = true ∧ bitsOk j = true) fun i j => .int (i * j)) := opI fun _ _ _ _ _ _ _ hc q => PyProof.Rows.mul_int q (IntMulOk.of_bits (bits_of hc.1) (bits_of hc.2))
theorem op_fdivB : OpR X (binaryOp .FloorDiv) (rI (fun _ j => divOk j = true) fun i j => .int (i.fdiv j)) := opI fun i j _ _ _ _ _ hc q => by
  have hc' : divOk j = true := hc
  unfold divOk at hc'
  rw [Bool.and_eq_true] at hc'
  exact PyProof.Rows.floordiv_int (of_decide_eq_true hc'.1) q (.inl (PyProof.noPylong_of_log2 (of_decide_eq_true hc'.2)))
/-- () + u is u -/
def rCatT0 (K : PySem.W.Frag) : R2 := fun x y H Q => ∃ a b ys, x = .ref a ∧ y = .ref b ∧ SqT K H a [] ∧ SqT K H b ys ∧ Q (.ref b) H
theorem op_catT0 : OpR X (binaryOp .Add) (rCatT0 X.K) := by
  intro pins s σ H x y v u Q I rx ry h
  obtain ⟨a, b, ys, rfl, rfl, ha, hb, q⟩ := h
  cases rx
  cases ry
  obtain ⟨its, r1, ht, _⟩ := I.tuple ha
  obtain ⟨its2, r2, ht2, _⟩ := I.tuple hb
  cases r1
  exact HT2.cat_tup0 ht ht2 ⟨.ref b, H, I, rfl, q⟩
def rAdd (K : PySem.W.Frag) : R2 := fun x y H Q => (rI0 (fun i j => .int (i + j)) x y H Q ∨ (∃ i j, x = .str i ∧ y = .str j ∧ i.length + j.length ≤ sizeLine ∧ Q (.str (i ++ j)) H)) ∨ ((rCatT0 K x y H Q ∨ rCatT K x y H Q) ∨ rCat x y H Q)
theorem op_addD : OpR X (binaryOp .Add) (rAdd X.K) := (op_add.or op_add_str).or ((op_catT0.or op_catT).or op_cat)
def rMul : R2 := fun x y H Q => rI (fun i j => bitsOk i = true ∧ bitsOk j = true) (fun i j => .int (i * j)) x y H Q ∨ rRep x y H Q
theorem op_mulD : OpR X (binaryOp .Mult) rMul := op_mulB.or op_rep
end
def pAdd : D → D → Option D
  | .int i, .int j => some (.int (i + j))
  | .str x, .str y => if x.length + y.length ≤ sizeLine then some (.str (x ++ y)) else none
  | .tup xs, .tup ys => if xs.length + ys.length ≤ sizeLine then some (.tup (xs ++ ys)) else none
  | .lst xs, .lst ys => if xs.length + ys.length ≤ sizeLine then some (.lst (xs ++ ys)) else none
  | _, _ => none
def pSub : D → D → Option D
  | .int i, .int j => some (.int (i - j))
  | _, _ => none
def pMul : D → D → Option D
  | .int i, .int j => if bitsOk i && bitsOk j then some (.int (i * j)) else none
  | .lst xs, .int k => if -(2 ^ 63) ≤ k ∧ k < 2 ^ 63 ∧ xs.length * k.toNat ≤ sizeLine then some (.lst (List.replicate k.toNat xs).flatten) else none
  | _, _ => none
def pDiv : D → D → Option D
  | .int i, .int j => if divOk j then some (.int (i.fdiv j)) else none
  | _, _ => none
def pMod : D → D → Option D
  | .int i, .int j => if j ≠ 0 then some (.int (i.fmod j)) else none
  | _, _ => none
def pPow : D → D → Option D
  | .int i, .int j => if 0 ≤ j ∧ j ≤ 1000000 ∧ i.natAbs < 2 ^ 64 then some (.int (i ^ j.toNat)) else none
  | _, _ => none
def pNeg : D → Option D
  | .int i => some (.int (-i))
  | _ => none
def pCmp (p : Int → Int → Bool) : D → D → Option D
  | .int i, .int j => some (.bl (p i j))
  | _, _ => none
def pIsN : D → D → Option D
  | .non, .non => some (.bl true)
  | .feed, .non => none
  | .scr _, .non => none
  | _, .non => some (.bl false)
  | _, _ => none
theorem xsEmpty {K : PySem.W.Frag} {N : Addr → Prop} {fa : Option Addr} {H : Hp} {ds : List D} {xs : List V} (r : Reps K N fa H ds xs) : xs = [] ↔ ds = [] := by
  have := r.length
  cases xs <;> cases ds <;> simp_all
theorem Reps.flat {K : PySem.W.Frag} {N : Addr → Prop} {fa : Option Addr} {H : Hp} {ds : List D} {xs : List V} (r : Reps K N fa H ds xs) : ∀ k : Nat, Reps K N fa H (List.replicate k ds).flatten (List.replicate k xs).flatten
  | 0 => by simp [Reps]
  | k + 1 => by
    simp only [List.replicate_succ, List.flatten_cons]
    exact Reps.append r (Reps.flat r k)
section
variable {K : PySem.W.Frag}
theorem r_add : R2D K (rAdd K) pAdd := by
  intro g σ H fa O s x y d1 d2 d Q I r1 r2 e k
  cases d1 with
  | int i =>
    cases d2 with
    | int j =>
      cases e
      simp only [RepB, Rep] at r1 r2
      exact .inl (.inl ⟨i, j, r1, r2, k _ H StE.refl I (by simp only [Rep])⟩)
    | _ => cases e
  | str a =>
    cases d2 with
    | str b =>
      simp only [pAdd] at e
      by_cases h : a.length + b.length ≤ sizeLine
      · rw [if_pos h] at e
        cases e
        simp only [RepB, Rep] at r1 r2
        refine .inl (.inr ⟨a, b, r1.1, r2.1, h, k _ H StE.refl I ?_⟩)
        simp only [Rep]
        exact ⟨trivial, by rw [strLen_append]; exact h⟩
      · rw [if_neg h] at e; cases e
    | _ => cases e
  | tup as =>
    cases d2 with
    | tup bs =>
      simp only [pAdd] at e
      by_cases h : as.length + bs.length ≤ sizeLine
      · rw [if_pos h] at e
        cases e
        simp only [RepB, Rep] at r1 r2
        obtain ⟨a, xs, rfl, qa, wa⟩ := r1
        obtain ⟨b, ys, rfl, qb, wb⟩ := r2
        by_cases hx : xs = []
        · have ha := (xsEmpty wa).mp hx
          subst hx; subst ha
          refine .inr (.inl (.inl ⟨a, b, ys, rfl, rfl, qa, qb, k _ H StE.refl I ?_⟩))
          simp only [Rep, List.nil_append]
          exact ⟨b, ys, rfl, qb, wb⟩
        · refine .inr (.inl (.inr ⟨a, b, xs, ys, rfl, rfl, qa, qb, hx, by rw [wa.length, wb.length]; exact h, fun hy => ?_, fun hy p hp => ?_⟩))
          · have hb := (xsEmpty wb).mp hy
            subst hy; subst hb
            refine k _ H StE.refl I ?_
            simp only [Rep, List.append_nil]
            exact ⟨a, xs, rfl, qa, wa⟩
          · have a2 : StE fa O H fa O (upd H p (.tup (xs ++ ys))) := stE_new hp
            refine k _ _ a2 (I.new hp) ?_
            simp only [Rep]
            exact ⟨p, _, rfl, SqT.of upd_same, Reps.stp I a2.stp (Reps.append wa wb)⟩
      · rw [if_neg h] at e; cases e
    | _ => cases e
  | lst as =>
    cases d2 with
    | lst bs =>
      simp only [pAdd] at e
      by_cases h : as.length + bs.length ≤ sizeLine
      · rw [if_pos h] at e
        cases e
        obtain ⟨a, xs, rfl, _, qa, wa⟩ := r1
        obtain ⟨b, ys, rfl, _, qb, wb⟩ := r2
        refine .inr (.inr ⟨a, b, xs, ys, rfl, rfl, qa, qb, by rw [wa.length, wb.length]; exact h, fun p hp => ?_⟩)
        have a2 : StE fa O H fa O (upd H p (.lst (xs ++ ys))) := stE_new hp
        have L := newL I hp (Reps.append wa wb)
        refine k _ _ a2 L.gi ?_
        simp only [Rep]
        exact ⟨p, _, rfl, new_out I a2 L.gi hp L.nf, upd_same, Reps.stp I a2.stp (Reps.append wa wb)⟩
      · rw [if_neg h] at e; cases e
    | _ => cases e
  | _ => cases e
def pAddL : D → D → Option (List D)
  | .lst xs, .lst ys => if xs.length + ys.length ≤ sizeLine then some (xs ++ ys) else none
  | _, _ => none
theorem r_addF : R2F K rCat pAddL := by
  intro g σ H fa O s x y d1 d2 ds Q I r1 r2 e k
  cases d1 with
  | lst as =>
    cases d2 with
    | lst bs =>
      simp only [pAddL] at e
      by_cases h : as.length + bs.length ≤ sizeLine
      · rw [if_pos h] at e
        cases e
        obtain ⟨a, xs, rfl, _, qa, wa⟩ := r1
        obtain ⟨b, ys, rfl, _, qb, wb⟩ := r2
        refine ⟨a, b, xs, ys, rfl, rfl, qa, qb, by rw [wa.length, wb.length]; exact h, fun p hp => ?_⟩
        exact k p _ _ (stE_new hp) (newL I hp (Reps.append wa wb)) hp
      · rw [if_neg h] at e; cases e
    | _ => cases e
  | _ => cases e
theorem r_int {C : Int → Int → Prop} {f : Int → Int → D} {f' : Int → Int → V} {p : D → D → Option D} (hp : ∀ d1 d2 d, p d1 d2 = some d → ∃ i j, d1 = .int i ∧ d2 = .int j ∧ C i j ∧ d = f i j) (hf : ∀ N fa H i j, Rep K N fa H (f i j) (f' i j)) : R2D K (rI C f') p := by
  intro g σ H fa O s x y d1 d2 d Q I r1 r2 e k
  obtain ⟨i, j, rfl, rfl, c, rfl⟩ := hp d1 d2 d e
  simp only [RepB, Rep] at r1 r2
  exact ⟨i, j, r1, r2, c, k _ H StE.refl I (hf _ _ _ _ _)⟩
theorem r_int0 {f : Int → Int → D} {f' : Int → Int → V} {p : D → D → Option D} (hp : ∀ d1 d2 d, p d1 d2 = some d → ∃ i j, d1 = .int i ∧ d2 = .int j ∧ d = f i j) (hf : ∀ N fa H i j, Rep K N fa H (f i j) (f' i j)) : R2D K (rI0 f') p := by
  intro g σ H fa O s x y d1 d2 d Q I r1 r2 e k
  obtain ⟨i, j, rfl, rfl, rfl⟩ := hp d1 d2 d e
  simp only [RepB, Rep] at r1 r2
  exact ⟨i, j, r1, r2, k _ H StE.refl I (hf _ _ _ _ _)⟩
theorem r_sub : R2D K (rI0 fun i j => .int (i - j)) pSub := r_int0 (f := fun i j => .int (i - j)) (fun d1 d2 d e => by
  cases d1 <;> cases d2 <;> first | (cases e; done) | (cases e; exact ⟨_, _, rfl, rfl, rfl⟩)) fun _ _ _ _ _ => by simp only [Rep]
theorem r_cmp (p : Int → Int → Bool) : R2D K (rI0 fun i j => .bl (p i j)) (pCmp p) := r_int0 (f := fun i j => .bl (p i j)) (fun d1 d2 d e => by
  cases d1 <;> cases d2 <;> first | (cases e; done) | (cases e; exact ⟨_, _, rfl, rfl, rfl⟩)) fun _ _ _ _ _ => by simp only [Rep]
theorem r_mul : R2D K rMul pMul := by
  intro g σ H fa O s x y d1 d2 d Q I r1 r2 e k
  cases d1 with
  | int i =>
    cases d2 with
    | int j =>
      simp only [pMul] at e
      by_cases h : (bitsOk i && bitsOk j) = true
      · rw [if_pos h] at e
        cases e
        rw [Bool.and_eq_true] at h
        simp only [RepB, Rep] at r1 r2
        exact .inl ⟨i, j, r1, r2, h, k _ H StE.refl I (by simp only [Rep])⟩
      · rw [if_neg h] at e; cases e
    | _ => cases e
  | lst as =>
    cases d2 with
    | int j =>
      simp only [pMul] at e
      by_cases h : -(2 ^ 63) ≤ j ∧ j < 2 ^ 63 ∧ as.length * j.toNat ≤ sizeLine
      · rw [if_pos h] at e
        cases e
        obtain ⟨a, xs, rfl, _, qa, wa⟩ := r1
        simp only [RepB, Rep] at r2
        subst r2
        refine .inr ⟨a, j, xs, rfl, rfl, qa, h.1, h.2.1, by rw [wa.length]; exact h.2.2, fun p hp => ?_⟩
        have a2 : StE fa O H fa O (upd H p (.lst (List.replicate j.toNat xs).flatten)) := stE_new hp
        have L := newL I hp (wa.flat j.toNat)
        refine k _ _ a2 L.gi ?_
        simp only [Rep]
        exact ⟨p, _, rfl, new_out I a2 L.gi hp L.nf, upd_same, Reps.stp I a2.stp (wa.flat j.toNat)⟩
      · rw [if_neg h] at e; cases e
    | _ => cases e
  | _ => cases e
theorem r_div : R2D K (rI (fun _ j => divOk j = true) fun i j => .int (i.fdiv j)) pDiv := r_int (f := fun i j => .int (i.fdiv j)) (fun d1 d2 d e => by
  cases d1 <;> cases d2 <;> first
    | (cases e; done)
    | (simp only [pDiv] at e
       split at e
       · rename_i h; cases e; exact ⟨_, _, rfl, rfl, h, rfl⟩
       · cases e)) fun _ _ _ _ _ => by simp only [Rep]
theorem r_mod : R2D K (rI (fun _ j => j ≠ 0) fun i j => .int (i.fmod j)) pMod := r_int (f := fun i j => .int (i.fmod j)) (fun d1 d2 d e => by
  cases d1 <;> cases d2 <;> first
    | (cases e; done)
    | (simp only [pMod] at e
       split at e
       · rename_i h; cases e; exact ⟨_, _, rfl, rfl, h, rfl⟩
       · cases e)) fun _ _ _ _ _ => by simp only [Rep]
theorem r_pow : R2D K (rI CPow fun i j => .int (i ^ j.toNat)) pPow := r_int (f := fun i j => .int (i ^ j.toNat)) (fun d1 d2 d e => by
  cases d1 <;> cases d2 <;> first
    | (cases e; done)
    | (simp only [pPow] at e
       split at e
       · rename_i h; cases e; exact ⟨_, _, rfl, rfl, h, rfl⟩
       · cases e)) fun _ _ _ _ _ => by simp only [Rep]
theorem r_neg : R1D K (rU fun i => .int (-i)) pNeg := by
  intro g σ H fa O s x d1 d Q I r1 e k
  cases d1 with
  | int i => cases e; simp only [RepB, Rep] at r1; exact ⟨i, r1, k _ H StE.refl I (by simp only [Rep])⟩
  | _ => cases e
def isNon : D → Bool
  | .non => true
  | _ => false
theorem rep_non {N : Addr → Prop} {fa : Option Addr} {H : Hp} {d : D} {x : V} (r : RepB K N fa H d x) : decide (x = .non) = isNon d := by
  cases d with
  | non => simp only [RepB, Rep] at r; subst r; rfl
  | bl b => simp only [RepB, Rep] at r; subst r; rfl
  | int i => simp only [RepB, Rep] at r; subst r; rfl
  | str x => simp only [RepB, Rep] at r; obtain ⟨r, _⟩ := r; subst r; rfl
  | tup ds => simp only [RepB, Rep] at r; obtain ⟨a, xs, rfl, _⟩ := r; rfl
  | lst ds => obtain ⟨a, xs, rfl, _⟩ := r; rfl
  | feed => simp only [RepB, Rep] at r; obtain ⟨a, _, rfl⟩ := r; rfl
  | scr ns => simp only [RepB, Rep] at r; obtain ⟨_, a, rfl, _⟩ := r; rfl
theorem r_isN : R2D K (fun x y H Q => y = .non ∧ Q (.bl (decide (x = .non))) H) pIsN := by
  intro g σ H fa O s x y d1 d2 d Q I r1 r2 e k
  have h2 : d2 = .non := by cases d1 <;> cases d2 <;> first | rfl | cases e
  subst h2
  simp only [RepB, Rep] at r2
  refine ⟨r2, k _ H StE.refl I ?_⟩
  rw [rep_non r1]
  cases d1 <;> first | (cases e; simp [Rep, isNon]; done) | cases e
end
end DL

namespace DL
open PySem PySem.Spec L2

section
variable {X : Cx} {pins : List (Addr × Obj)} {σ : L2.St} {H : Hp} {s : Shared} {N : Addr → Prop} {fa : Option Addr}
mutual
theorem reads_of (I : Inv X pins σ H s) : ∀ (d : D) (v : V) (u : Value), RepO X.K N fa H d v → RelV v u → d.plain = true → ∃ as, Reads s.heap u d.py as
  | .non, v, u, r, ru, _ => by
    simp only [RepO, Rep] at r; subst r; cases ru
    simp only [D.py]; exact ⟨[], .none⟩
  | .bl b, v, u, r, ru, _ => by
    simp only [RepO, Rep] at r; subst r; cases ru
    simp only [D.py]; exact ⟨[], .bool b⟩
  | .int i, v, u, r, ru, _ => by
    simp only [RepO, Rep] at r; subst r
    obtain ⟨t, rfl⟩ := ru
    simp only [D.py]; exact ⟨[], .int i t⟩
  | .str x, v, u, r, ru, _ => by
    simp only [RepO, Rep] at r; obtain ⟨r, _⟩ := r; subst r
    obtain ⟨t, rfl⟩ := ru
    simp only [D.py]; exact ⟨[], .str x t⟩
  | .tup ds, v, u, r, ru, hp => by
    simp only [RepO, Rep] at r
    obtain ⟨a, xs, rfl, q, w⟩ := r
    cases ru
    obtain ⟨its, rv, ⟨o, h1, h2, n, h3⟩, _⟩ := I.tuple q
    obtain ⟨as, ra⟩ := reads_all I ds xs its w rv (by simpa only [D.plain] using hp)
    simp only [D.py]
    exact ⟨as, .tuple h1 h2 h3 (by simpa using ra)⟩
  | .lst ds, v, u, r, ru, hp => by
    obtain ⟨a, xs, rfl, q, w⟩ := r
    cases ru
    obtain ⟨its, rv, ⟨o, n, h1, h2, h3, h4⟩, _⟩ := I.list (SqL.of q)
    obtain ⟨as, ra⟩ := reads_all I ds xs its w rv (by simpa only [D.plain] using hp)
    simp only [D.py]
    exact ⟨_, .list h1 h2 h4 (by simpa using ra)⟩
  | .feed, v, u, r, ru, hp => by simp only [D.plain] at hp; cases hp
  | .scr _, v, u, r, ru, hp => by simp only [D.plain] at hp; cases hp
theorem reads_all (I : Inv X pins σ H s) : ∀ (ds : List D) (xs : List V) (us : List Value), Reps X.K N fa H ds xs → Vals xs us → D.plains ds = true → ∃ as, ReadsAll s.heap us (D.pys ds) as
  | [], xs, us, r, ru, _ => by
    simp only [Reps] at r; subst r; cases ru
    simp only [D.pys]; exact ⟨[], .nil⟩
  | d :: ds, xs, us, r, ru, hp => by
    simp only [Reps] at r
    obtain ⟨x, ys, rfl, r1, r2⟩ := r
    cases ru with
    | cons q qs =>
      simp only [D.plains, Bool.and_eq_true] at hp
      obtain ⟨as, h1⟩ := reads_of I d x _ r1.o q hp.1
      obtain ⟨bs, h2⟩ := reads_all I ds ys _ r2 qs hp.2
      simp only [D.pys]; exact ⟨_, .cons h1 h2⟩
end
end

def eqOk (d : D) : Bool := d.plain && SeqAt.shaped d.py
def pEq (d1 d2 : D) : Option D := match d1, d2 with
  | .str x, .str y => some (.bl (decide (x = y)))
  | d1, d2 => if eqOk d1 && eqOk d2 then some (.bl (PyData.eqv d1.py d2.py)) else none
def pNe (d1 d2 : D) : Option D := match d1, d2 with
  | .str x, .str y => some (.bl (!decide (x = y)))
  | d1, d2 => if eqOk d1 && eqOk d2 then some (.bl (!PyData.eqv d1.py d2.py)) else none
def rEqD (K : PySem.W.Frag) (f : Bool → Bool) : R2 := fun x y H Q => ∃ N fa d1 d2, RepB K N fa H d1 x ∧ RepB K N fa H d2 y ∧ eqOk d1 = true ∧ eqOk d2 = true ∧ Q (.bl (f (PyData.eqv d1.py d2.py))) H
section
variable {X : Cx} {K : PySem.W.Frag}
theorem op_eqD0 (hu : X.A.units + 64 < cLine) : OpR X (compareOp .Eq) (rEqD X.K id) := by
  intro pins s σ H x y v u Q I rx ry h
  obtain ⟨N, fa, d1, d2, r1, r2, o1, o2, q⟩ := h
  unfold eqOk at o1 o2
  rw [Bool.and_eq_true] at o1 o2
  obtain ⟨as, h1⟩ := reads_of I d1 x v r1.o rx o1.1
  obtain ⟨bs, h2⟩ := reads_of I d2 y u r2.o ry o2.1
  exact PyProof.Rows.eq_dataH h1 h2 o1.2 o2.2 hu ⟨.bl _, H, I, rfl, q⟩
theorem op_neD0 (hu : X.A.units + 64 < cLine) : OpR X (compareOp .NotEq) (rEqD X.K not) := by
  intro pins s σ H x y v u Q I rx ry h
  obtain ⟨N, fa, d1, d2, r1, r2, o1, o2, q⟩ := h
  unfold eqOk at o1 o2
  rw [Bool.and_eq_true] at o1 o2
  obtain ⟨as, h1⟩ := reads_of I d1 x v r1.o rx o1.1
  obtain ⟨bs, h2⟩ := reads_of I d2 y u r2.o ry o2.1
  exact PyProof.Rows.ne_dataH h1 h2 o1.2 o2.2 hu ⟨.bl _, H, I, rfl, q⟩
theorem op_eqD (hu : X.A.units + 64 < cLine) : OpR X (compareOp .Eq) (fun x y H Q => rEq x y H Q ∨ rEqD X.K id x y H Q) := op_eq.or (op_eqD0 hu)
theorem op_neD (hu : X.A.units + 64 < cLine) : OpR X (compareOp .NotEq) (fun x y H Q => rNe x y H Q ∨ rEqD X.K not x y H Q) := op_ne.or (op_neD0 hu)
theorem pEq_cases {d1 d2 d : D} (h : pEq d1 d2 = some d) : (∃ x y, d1 = .str x ∧ d2 = .str y ∧ d = .bl (decide (x = y))) ∨ (eqOk d1 = true ∧ eqOk d2 = true ∧ d = .bl (PyData.eqv d1.py d2.py)) := by
  unfold pEq at h
  split at h
  · cases h; exact .inl ⟨_, _, rfl, rfl, rfl⟩
  · split at h
    · rename_i q
      rw [Bool.and_eq_true] at q
      cases h; exact .inr ⟨q.1, q.2, rfl⟩
    · cases h
theorem pNe_cases {d1 d2 d : D} (h : pNe d1 d2 = some d) : (∃ x y, d1 = .str x ∧ d2 = .str y ∧ d = .bl (!decide (x = y))) ∨ (eqOk d1 = true ∧ eqOk d2 = true ∧ d = .bl (!PyData.eqv d1.py d2.py)) := by
  unfold pNe at h
  split at h
  · cases h; exact .inl ⟨_, _, rfl, rfl, rfl⟩
  · split at h
    · rename_i q
      rw [Bool.and_eq_true] at q
      cases h; exact .inr ⟨q.1, q.2, rfl⟩
    · cases h
theorem dec_strV (x y : Str) : decide (V.str x = V.str y) = decide (x = y) := by
  by_cases h : x = y
  · subst h; simp
  · rw [decide_eq_false h, decide_eq_false fun z => h (V.str.inj z)]
theorem r_eq : R2D K (fun x y H Q => rEq x y H Q ∨ rEqD K id x y H Q) pEq := by
  intro g σ H fa O s x y d1 d2 d Q I r1 r2 e k
  rcases pEq_cases e with ⟨a, b, rfl, rfl, rfl⟩ | ⟨h1, h2, rfl⟩
  · simp only [RepB, Rep] at r1 r2
    obtain ⟨rfl, _⟩ := r1
    obtain ⟨rfl, _⟩ := r2
    exact .inl ⟨rfl, k _ H StE.refl I (by simp only [Rep, dec_strV])⟩
  · exact .inr ⟨_, _, d1, d2, r1, r2, h1, h2, k _ H StE.refl I (by simp only [Rep, id])⟩
theorem r_ne : R2D K (fun x y H Q => rNe x y H Q ∨ rEqD K not x y H Q) pNe := by
  intro g σ H fa O s x y d1 d2 d Q I r1 r2 e k
  rcases pNe_cases e with ⟨a, b, rfl, rfl, rfl⟩ | ⟨h1, h2, rfl⟩
  · simp only [RepB, Rep] at r1 r2
    obtain ⟨rfl, _⟩ := r1
    obtain ⟨rfl, _⟩ := r2
    exact .inl ⟨rfl, k _ H StE.refl I (by simp only [Rep, dec_strV])⟩
  · exact .inr ⟨_, _, d1, d2, r1, r2, h1, h2, k _ H StE.refl I (by simp only [Rep])⟩

def pIx : D → D → Option D
  | .tup ds, .int i => atI ds i
  | .lst ds, .int i => atI ds i
  | _, _ => none
theorem atI_rep {N : Addr → Prop} {fa : Option Addr} {H : Hp} {ds : List D} {xs : List V} {i : Int} {d : D} (r : Reps K N fa H ds xs) (h : atI ds i = some d) : ∃ v, atI xs i = some v ∧ Rep K N fa H d v := by
  unfold atI at h ⊢
  rw [r.length]
  cases e : ixN ds.length i with
  | none => rw [e] at h; cases h
  | some j =>
    rw [e] at h
    simp only [Option.bind_some] at h ⊢
    exact Reps.get r h
theorem r_ix : R2D K (fun x y H Q => rIxL K x y H Q ∨ rIxT K x y H Q) pIx := by
  intro g σ H fa O s x y d1 d2 d Q I r1 r2 e k
  cases d1 with
  | tup ds =>
    cases d2 with
    | int i =>
      simp only [RepB, Rep] at r1 r2
      obtain ⟨a, xs, rfl, q, w⟩ := r1
      obtain ⟨v, hv, rv⟩ := atI_rep w (show atI ds i = some d from e)
      exact .inr ⟨a, xs, i, v, rfl, r2, q, hv, k v H StE.refl I rv⟩
    | _ => cases e
  | lst ds =>
    cases d2 with
    | int i =>
      obtain ⟨a, xs, rfl, _, q, w⟩ := r1
      simp only [RepB, Rep] at r2
      obtain ⟨v, hv, rv⟩ := atI_rep w (show atI ds i = some d from e)
      exact .inl ⟨a, xs, i, v, rfl, r2, SqL.of q, hv, k v H StE.refl I rv⟩
    | _ => cases e
  | _ => cases e
theorem ix_D : IxR X (fun x y H Q => rIxL X.K x y H Q ∨ rIxT X.K x y H Q) := ix_list.or ix_tup
end

def dCB (p : List D → Option D) (f : DA) : DE := fun s => (f s).bind fun x => (p x.1).map fun d => (d, x.2)
def dCF (p : List D → Option (List D)) (f : DA) : DA := fun s => (f s).bind fun x => (p x.1).map fun d => (d, x.2)
section
variable {X : Cx} {g : Gh} {x : Str} {p pos : Pos} {e : Expr} {es : List Expr} {t : DA} {id T : String} {r : List V → Hp → VK → Prop} {pr : List D → Option D} {pf : List D → Option (List D)}
theorem cb_w (hr : RCD X.K r pr) (σ : L2.St) (H : Hp) (Q : VK) (h : liftE X.K g (dCB pr t) σ H Q) : tCB r (liftBA X.K g t) σ H Q := by
  obtain ⟨f0, O, s, d, s', I, e, k⟩ := h
  obtain ⟨⟨ds, s1⟩, h1, h⟩ := Option.bind_eq_some_iff.mp e
  obtain ⟨d', h3, h⟩ := Option.map_eq_some_iff.mp h
  simp only [Prod.mk.injEq] at h
  obtain ⟨e1, e2⟩ := h
  subst e1; subst e2
  exact ⟨f0, O, s, ds, s1, I, h1, fun vs H1 f1 O1 a1 I1 r1 => hr g σ H1 f1 O1 s1 vs ds d' Q I1 r1 h3 fun z H3 a3 I3 r3 => k z H3 f1 O1 (a1.trans a3) I3 r3⟩
theorem cf_w (hr : RCF X.K r pf) (σ : L2.St) (H : Hp) (Q : VK) (h : liftF X.K g (dCF pf t) σ H Q) : tCB r (liftBA X.K g t) σ H Q := by
  obtain ⟨f0, O, s, d, s', I, e, k⟩ := h
  obtain ⟨⟨ds, s1⟩, h1, h⟩ := Option.bind_eq_some_iff.mp e
  obtain ⟨d', h3, h⟩ := Option.map_eq_some_iff.mp h
  simp only [Prod.mk.injEq] at h
  obtain ⟨e1, e2⟩ := h
  subst e1; subst e2
  exact ⟨f0, O, s, ds, s1, I, h1, fun vs H1 f1 O1 a1 I1 r1 => hr g σ H1 f1 O1 s1 vs ds d' Q I1 r1 h3 fun q ys H3 a3 L e3 => k q ys H3 f1 O1 (a1.trans a3) L (a1.mon _ e3)⟩
theorem eo_cb (hc : CallR X (.builtin id) r) (hr : RCD X.K r pr) (hg : Gl X x) (hm : X.mg x = none) (hv : bootBuiltins x = some (.builtin id)) (ha : BAO X g (e :: es) t) (hn : x ≠ "__name__" := by decide) (hdb : (x == ("__debug__" : Str)) = false := by decide)
    (he : starEach (e :: es) X.env = (false, eval e X.env) :: starEach es X.env := by rfl) (hpl : (backTo pos (starEach es X.env)).any (·.1) = false := by rfl) : EO X g (.Call (.Name x p) (e :: es) [] pos) (dCB pr t) :=
  EO.w (pe_callB hc hg hm hv ha.pe hn hdb he hpl) (cb_w hr)
theorem eo_cty (hc : CallR X (.type T) r) (hr : RCD X.K r pr) (hg : Gl X x) (hm : X.mg x = none) (hv : bootBuiltins x = some (.type T)) (ha : BAO X g (e :: es) t) (hn : x ≠ "__name__" := by decide) (hdb : (x == ("__debug__" : Str)) = false := by decide)
    (he : starEach (e :: es) X.env = (false, eval e X.env) :: starEach es X.env := by rfl) (hpl : (backTo pos (starEach es X.env)).any (·.1) = false := by rfl) : EO X g (.Call (.Name x p) (e :: es) [] pos) (dCB pr t) :=
  EO.w (pe_callTy hc hg hm hv ha.pe hn hdb he hpl) (cb_w hr)
end
theorem repBs1 {K : PySem.W.Frag} {N : Addr → Prop} {fa : Option Addr} {H : Hp} {d : D} {xs : List V} (r : RepBs K N fa H [d] xs) : ∃ x, xs = [x] ∧ RepB K N fa H d x := by
  obtain ⟨x, ys, rfl, r1, r2⟩ := r
  simp only [RepBs] at r2; subst r2
  exact ⟨x, rfl, r1⟩
def one {α : Type} (p : D → Option α) : List D → Option α
  | [d] => p d
  | _ => none
theorem one_some {α : Type} {p : D → Option α} {ds : List D} {a : α} (h : one p ds = some a) : ∃ d, ds = [d] ∧ p d = some a := by
  cases ds with
  | nil => cases h
  | cons d r =>
    cases r with
    | nil => exact ⟨d, rfl, h⟩
    | cons _ _ => cases h
def pLen : D → Option D
  | .tup ds => some (.int (ds.length : Nat))
  | .lst ds => some (.int (ds.length : Nat))
  | .str x => some (.int (x.length : Nat))
  | _ => none
def pAbs : D → Option D
  | .int i => some (.int (if i < 0 then -i else i))
  | _ => none
def pInt : D → Option D
  | .int i => some (.int i)
  | .bl b => some (.int (if b then 1 else 0))
  | _ => none
def pTuple : D → Option D
  | .tup ds => some (.tup ds)
  | .lst ds => some (.tup ds)
  | _ => none
def showOk (d : D) : Bool := d.plain && d.py.showable && d.py.canLay0 && decide (d.py.depth ≤ 64) && decide (d.py.shown.length ≤ sizeLine)
def pRepr (d : D) : Option D := if showOk d then some (.str d.py.shown) else none
section
variable {X : Cx} {K : PySem.W.Frag}
theorem c_len : CallR X (.builtin "len") (fun xs H Q => (∃ p ys, xs = [.ref p] ∧ (SqL X.K H p ys ∨ SqT X.K H p ys) ∧ Q (.int ys.length) H) ∨ (∃ z, xs = [.str z] ∧ z.length ≤ sizeLine ∧ Q (.int z.length) H)) := call_len_seq.or call_len_str
theorem rc1 {r : List V → Hp → VK → Prop} {p : D → Option D} (h : ∀ (g : Gh) (σ : L2.St) (H : Hp) (fa : Option Addr) (O : List Addr) (s : DS) (x : V) (d1 d : D) (Q : VK), GI K g σ H fa O s → RepB K (NN g.F fa O) fa H d1 x → p d1 = some d →
    (∀ v H', StE fa O H fa O H' → GI K g σ H' fa O s → Rep K (NN g.F fa O) fa H' d v → Q v H') → r [x] H Q) : RCD K r (one p) := by
  intro g σ H fa O s xs ds d Q I rs e k
  obtain ⟨d1, rfl, e1⟩ := one_some e
  obtain ⟨x, rfl, rx⟩ := repBs1 rs
  exact h g σ H fa O s x d1 d Q I rx e1 k
theorem r_len : RCD K (fun xs H Q => (∃ p ys, xs = [.ref p] ∧ (SqL K H p ys ∨ SqT K H p ys) ∧ Q (.int ys.length) H) ∨ (∃ z, xs = [.str z] ∧ z.length ≤ sizeLine ∧ Q (.int z.length) H)) (one pLen) := rc1 fun g σ H fa O s x d1 d Q I r e k => by
  cases d1 with
  | tup es =>
    cases e
    simp only [RepB, Rep] at r
    obtain ⟨a, ys, rfl, q, w⟩ := r
    exact .inl ⟨a, ys, rfl, .inr q, k _ H StE.refl I (by rw [w.length]; simp only [Rep])⟩
  | lst es =>
    cases e
    obtain ⟨a, ys, rfl, _, q, w⟩ := r
    exact .inl ⟨a, ys, rfl, .inl (SqL.of q), k _ H StE.refl I (by rw [w.length]; simp only [Rep])⟩
  | str z =>
    cases e
    simp only [RepB, Rep] at r
    obtain ⟨rfl, l⟩ := r
    exact .inr ⟨z, rfl, l, k _ H StE.refl I (by simp only [Rep])⟩
  | _ => cases e
theorem r_abs : RCD K (fun xs H Q => ∃ i, xs = [.int i] ∧ Q (.int (if i < 0 then -i else i)) H) (one pAbs) := rc1 fun g σ H fa O s x d1 d Q I r e k => by
  cases d1 with
  | int i =>
    cases e
    simp only [RepB, Rep] at r
    subst r
    exact ⟨i, rfl, k _ H StE.refl I (by simp only [Rep])⟩
  | _ => cases e
theorem r_toint : RCD K (fun xs H Q => (∃ i, xs = [.int i] ∧ Q (.int i) H) ∨ ∃ k, xs = [.bl k] ∧ Q (.int (if k then 1 else 0)) H) (one pInt) := rc1 fun g σ H fa O s x d1 d Q I r e k => by
  cases d1 with
  | int i =>
    cases e
    simp only [RepB, Rep] at r
    subst r
    exact .inl ⟨i, rfl, k _ H StE.refl I (by simp only [Rep])⟩
  | bl b =>
    cases e
    simp only [RepB, Rep] at r
    subst r
    exact .inr ⟨b, rfl, k _ H StE.refl I (by simp only [Rep])⟩
  | _ => cases e
theorem r_tuple : RCD K (fun xs H Q => ∃ p ys, xs = [.ref p] ∧ ((SqL K H p ys ∧ ∀ l, H l = none → Q (.ref l) (upd H l (.tup ys))) ∨ (SqT K H p ys ∧ Q (.ref p) H))) (one pTuple) := rc1 fun g σ H fa O s x d1 d Q I r e k => by
  cases d1 with
  | tup es =>
    cases e
    simp only [RepB, Rep] at r
    obtain ⟨a, ys, rfl, q, w⟩ := r
    exact ⟨a, ys, rfl, .inr ⟨q, k _ H StE.refl I (by simp only [Rep]; exact ⟨a, ys, rfl, q, w⟩)⟩⟩
  | lst es =>
    cases e
    obtain ⟨a, ys, rfl, _, q, w⟩ := r
    refine ⟨a, ys, rfl, .inl ⟨SqL.of q, fun p hp => ?_⟩⟩
    have a2 : StE fa O H fa O (upd H p (.tup ys)) := stE_new hp
    refine k _ _ a2 (I.new hp) ?_
    simp only [Rep]
    exact ⟨p, ys, rfl, SqT.of upd_same, Reps.stp I a2.stp w⟩
  | _ => cases e
def rRepr (K : PySem.W.Frag) : List V → Hp → VK → Prop := fun xs H Q => ∃ N fa d x, xs = [x] ∧ RepB K N fa H d x ∧ showOk d = true ∧ Q (.str d.py.shown) H
theorem c_repr (hu : X.A.units + 66 < cLine) (hg : X.A.guards = some []) : CallR X (.builtin "repr") (rRepr X.K) := by
  intro pins s σ H xs us Q I r h
  obtain ⟨N, fa, d, x, rfl, rx, ok, q⟩ := h
  obtain ⟨u, rfl, ru⟩ := vals1 r
  unfold showOk at ok
  simp only [Bool.and_eq_true, decide_eq_true_eq] at ok
  obtain ⟨⟨⟨⟨hp, hs⟩, hl⟩, hd⟩, hz⟩ := ok
  obtain ⟨as, ra⟩ := reads_of I d x u rx.o ru hp
  have fin : ∀ (h' : Heap) (tk : Nat) (t : Tok), (∀ b o, s.heap.get? b = some o → h'.get? b = some o) → EP X pins σ Q (.str d.py.shown t) { s with heap := h', toks := tk } := fun h' tk t hk => ⟨.str d.py.shown, H, I.kept hk, ⟨t, rfl⟩, q⟩
  cases d with
  | non =>
    simp only [RepB, Rep] at rx; subst rx; cases ru
    exact P.repr_of_none (fin s.heap _ _ fun _ _ e => e)
  | bl b =>
    simp only [RepB, Rep] at rx; subst rx; cases ru
    have := fin s.heap (s.toks + 1) s.toks fun _ _ e => e
    refine P.repr_of_bool ?_
    cases b <;> simpa only [D.py, PyData.shown] using this
  | int i =>
    simp only [RepB, Rep] at rx; subst rx
    obtain ⟨t, rfl⟩ := ru
    have := fin s.heap (s.toks + 1) s.toks fun _ _ e => e
    simp only [D.py, PyData.showable, decide_eq_true_eq] at hs
    exact P.repr_of_int hs (by simpa only [D.py, PyData.shown] using this)
  | str z =>
    simp only [RepB, Rep] at rx; obtain ⟨rx, _⟩ := rx; subst rx
    obtain ⟨t, rfl⟩ := ru
    have := fin s.heap (s.toks + 1) s.toks fun _ _ e => e
    exact P.repr_of_str (by simpa only [D.py, PyData.shown] using this) (by simpa only [D.py, PyData.shown] using hz)
  | tup ds =>
    simp only [RepB, Rep] at rx
    obtain ⟨a, ys, rfl, _⟩ := rx
    cases ru
    exact repr_of_reads' ra hs (PyData.noDict_hsm (PyData.hasDict_of_canLay _ hl)) hg (by omega) (fun _ _ e => e) (fun h' t tk hk => fin h' tk t hk) hz
  | lst ds =>
    obtain ⟨a, ys, rfl, _⟩ := rx
    cases ru
    exact repr_of_reads' ra hs (PyData.noDict_hsm (PyData.hasDict_of_canLay _ hl)) hg (by omega) (fun _ _ e => e) (fun h' t tk hk => fin h' tk t hk) hz
  | feed => cases hp
  | scr _ => cases hp
theorem r_repr : RCD K (rRepr K) (one pRepr) := rc1 fun g σ H fa O s x d1 d Q I r e k => by
  unfold pRepr at e
  by_cases h : showOk d1 = true
  · rw [if_pos h] at e
    cases e
    refine ⟨_, _, d1, x, rfl, r, h, k _ H StE.refl I ?_⟩
    simp only [Rep]
    unfold showOk at h
    simp only [Bool.and_eq_true, decide_eq_true_eq] at h
    exact ⟨trivial, h.2⟩
  · rw [if_neg h] at e; cases e
end
end DL

namespace DL
open PySem PySem.Spec L2

def FS.get (key : Str) (f : FS) : Option D :=
  if f.kind = 0 then if key = "cells" then some (.lst (f.cells.map .int)) else if key = "at" then some (.int f.pos) else if key = "left" then some (.int f.left) else if key = "turn" then some (.int f.turn) else none else none
def FS.put (key : Str) (n : Int) (f : FS) : Option FS :=
  if f.kind = 0 then if key = "at" then some { f with pos := n } else if key = "left" then some { f with left := n } else if key = "turn" then some { f with turn := n } else none else none
def dFG (i : Nat) (key : Str) : DE := fun s => match s.sl[i]? with
  | some (.val .feed) => s.fs.bind fun f => (f.get key).map fun d => (d, s)
  | _ => none
def dFP (i : Nat) (key : Str) (fe : DE) : DM := fun s => (fe s).bind fun x => match x.2.sl[i]?, x.1 with
  | some (.val .feed), .int n => x.2.fs.bind fun f => (f.put key n).map fun f' => (.next, { x.2 with fs := some f' })
  | _, _ => none
def dFN (i : Nat) : DE := fun s => match s.sl[i]?, s.fs with
  | some (.val (.scr ns)), none => some (.feed, { s with fs := some ⟨ns, 0, 0, 0, 0⟩ })
  | _, _ => none
abbrev fkvs (c : Addr) (f : FS) : List (Key × V) := [(Sum.inr ("cells" : Str), V.ref c), (Sum.inr ("at" : Str), V.int f.pos), (Sum.inr ("left" : Str), V.int f.left), (Sum.inr ("turn" : Str), V.int f.turn)]
theorem s_ca : ¬ (Sum.inr ("cells" : Str) : Key) = Sum.inr ("at" : Str) := by intro h; exact absurd (Sum.inr.inj h) (by decide +kernel)
theorem s_cl : ¬ (Sum.inr ("cells" : Str) : Key) = Sum.inr ("left" : Str) := by intro h; exact absurd (Sum.inr.inj h) (by decide +kernel)
theorem s_ct : ¬ (Sum.inr ("cells" : Str) : Key) = Sum.inr ("turn" : Str) := by intro h; exact absurd (Sum.inr.inj h) (by decide +kernel)
theorem s_al : ¬ (Sum.inr ("at" : Str) : Key) = Sum.inr ("left" : Str) := by intro h; exact absurd (Sum.inr.inj h) (by decide +kernel)
theorem s_at : ¬ (Sum.inr ("at" : Str) : Key) = Sum.inr ("turn" : Str) := by intro h; exact absurd (Sum.inr.inj h) (by decide +kernel)
theorem s_lt : ¬ (Sum.inr ("left" : Str) : Key) = Sum.inr ("turn" : Str) := by intro h; exact absurd (Sum.inr.inj h) (by decide +kernel)
theorem val_c (c : Addr) (f : FS) : valV (fkvs c f) (Sum.inr ("cells" : Str)) = some (.ref c) := valV_pos rfl
theorem val_a (c : Addr) (f : FS) : valV (fkvs c f) (Sum.inr ("at" : Str)) = some (.int f.pos) := by rw [valV_neg s_ca, valV_pos rfl]
theorem val_l (c : Addr) (f : FS) : valV (fkvs c f) (Sum.inr ("left" : Str)) = some (.int f.left) := by rw [valV_neg s_cl, valV_neg s_al, valV_pos rfl]
theorem val_t (c : Addr) (f : FS) : valV (fkvs c f) (Sum.inr ("turn" : Str)) = some (.int f.turn) := by rw [valV_neg s_ct, valV_neg s_at, valV_neg s_lt, valV_pos rfl]
theorem putK_there {kvs : List (Key × V)} {k : Key} {v x : V} (h : valV kvs k = some x) : putK kvs k v = kvs.map (fun kv => if kv.1 = k then (kv.1, v) else kv) := by
  unfold putK
  rw [if_pos (by rw [valV_any, h]; rfl)]
theorem put_a (c : Addr) (f : FS) (n : Int) : putK (fkvs c f) (Sum.inr ("at" : Str)) (.int n) = fkvs c { f with pos := n } := by
  rw [putK_there (val_a c f)]
  simp only [List.map_cons, List.map_nil, if_neg s_ca, if_neg (Ne.symm s_al), if_neg (Ne.symm s_at), if_true]
theorem put_l (c : Addr) (f : FS) (n : Int) : putK (fkvs c f) (Sum.inr ("left" : Str)) (.int n) = fkvs c { f with left := n } := by
  rw [putK_there (val_l c f)]
  simp only [List.map_cons, List.map_nil, if_neg s_cl, if_neg s_al, if_neg (Ne.symm s_lt), if_true]
theorem put_t (c : Addr) (f : FS) (n : Int) : putK (fkvs c f) (Sum.inr ("turn" : Str)) (.int n) = fkvs c { f with turn := n } := by
  rw [putK_there (val_t c f)]
  simp only [List.map_cons, List.map_nil, if_neg s_ct, if_neg s_at, if_neg s_lt, if_true]
theorem FS.get_val {key : Str} {f : FS} {d : D} (h : f.get key = some d) (c : Addr) : ∃ v, valV (fkvs c f) (Sum.inr key) = some v ∧ ((v = .ref c ∧ d = .lst (f.cells.map .int)) ∨ ∃ i, v = .int i ∧ d = .int i) ∧ f.kind = 0 := by
  unfold FS.get at h
  split at h
  case isFalse => cases h
  rename_i hk
  split at h
  · rename_i e; subst e; cases h; exact ⟨_, val_c c f, .inl ⟨rfl, rfl⟩, hk⟩
  split at h
  · rename_i e; subst e; cases h; exact ⟨_, val_a c f, .inr ⟨_, rfl, rfl⟩, hk⟩
  split at h
  · rename_i e; subst e; cases h; exact ⟨_, val_l c f, .inr ⟨_, rfl, rfl⟩, hk⟩
  split at h
  · rename_i e; subst e; cases h; exact ⟨_, val_t c f, .inr ⟨_, rfl, rfl⟩, hk⟩
  · cases h
theorem FS.put_val {key : Str} {f f' : FS} {n : Int} (h : f.put key n = some f') (c : Addr) : putK (fkvs c f) (Sum.inr key) (.int n) = fkvs c f' ∧ f'.cells = f.cells ∧ f.kind = 0 ∧ f'.kind = 0 := by
  unfold FS.put at h
  split at h
  case isFalse => cases h
  rename_i hk
  split at h
  · rename_i e; subst e; cases h; exact ⟨put_a c f n, rfl, hk, hk⟩
  split at h
  · rename_i e; subst e; cases h; exact ⟨put_l c f n, rfl, hk, hk⟩
  split at h
  · rename_i e; subst e; cases h; exact ⟨put_t c f n, rfl, hk, hk⟩
  · cases h
section
variable {X : Cx} {g : Gh} {i : Nat} {x key : Str} {p1 p2 pos pos' : Pos} {j : Nat}
theorem eo_fget (hu : X.A.units + 1 < cLine) (hv : PE X (.Name x p1) (tVar i)) : EO X g (.Subscript (.Name x p1) (.Constant (.str key) j p2) pos) (dFG i key) :=
  EO.w (pe_dget hu hv pe_str (fun _ _ => rfl)) fun σ H Q ⟨fa, O, s, d, s', I, e, k⟩ => by
    unfold dFG at e
    cases q : s.sl[i]? with
    | none => rw [q] at e; cases e
    | some z =>
      rw [q] at e
      cases z with
      | no => cases e
      | own _ => cases e
      | val dz =>
        cases dz with
        | feed =>
          obtain ⟨f, h1, h2⟩ := Option.bind_eq_some_iff.mp e
          obtain ⟨d', h3, h4⟩ := Option.map_eq_some_iff.mp h2
          cases h4
          obtain ⟨u, e1, r⟩ := SlR.val I.sl q
          simp only [Rep] at r
          obtain ⟨a, ha, rfl⟩ := r
          have fd := I.fd
          rw [h1, ha] at fd
          obtain ⟨_, c, hc, nc, lc⟩ := fd
          obtain ⟨v, hval, hd, hk⟩ := FS.get_val h3 c
          rw [fho_d hk] at hc
          refine ⟨_, e1, a, v, rfl, ?_, k v H fa O StE.refl I ?_⟩
          · have := DGet.k (k := Sum.inr key) hc
            rw [hval] at this
            exact this
          · rcases hd with ⟨rfl, rfl⟩ | ⟨n, rfl, rfl⟩
            · simp only [Rep]
              exact ⟨c, _, rfl, by rw [ha]; exact nc, lc, Reps.ints⟩
            · simp only [Rep]
        | _ => cases e
theorem s_fput {e : Expr} {fe : DE} (hu : X.A.units + 1 < cLine) (hv : PE X (.Name x p1) (tVar i)) (he : EO X g e fe) (hs : swapsWith e (some (.Subscript (.Name x p1) (.Constant (.str key) j p2) pos')) pos.line X.env = pure false := by rfl) :
    SO X g (.Assign [.Subscript (.Name x p1) (.Constant (.str key) j p2) pos'] e pos) (dFP i key fe) :=
  SO.w (ps_dput hu hv pe_str he.pe hs) fun E σ H ⟨fa, O, s, fl, s', I, q, k⟩ => by
    obtain ⟨⟨d, s1⟩, h1, h2⟩ := Option.bind_eq_some_iff.mp q
    simp only [] at h2
    cases q1 : s1.sl[i]? with
    | none => rw [q1] at h2; cases h2
    | some z =>
      rw [q1] at h2
      cases z with
      | no => cases h2
      | own _ => cases h2
      | val dz =>
        cases dz with
        | feed =>
          cases d with
          | int n =>
            simp only [] at h2
            obtain ⟨f, h3, h4⟩ := Option.bind_eq_some_iff.mp h2
            obtain ⟨f', h5, h6⟩ := Option.map_eq_some_iff.mp h4
            cases h6
            refine ⟨fa, O, s, .int n, s1, I, h1, fun v H1 f1 O1 a1 I1 r => ?_⟩
            simp only [Rep] at r
            subst r
            obtain ⟨u, e1, ru⟩ := SlR.val I1.sl q1
            simp only [Rep] at ru
            obtain ⟨a, ha, rfl⟩ := ru
            have fd := I1.fd
            rw [h3, ha] at fd
            obtain ⟨lc63, c, hc, nc, lc⟩ := fd
            obtain ⟨hput, hcell, hk, hk'⟩ := FS.put_val h5 c
            rw [fho_d hk] at hc
            have hp := DPut.k (k := Sum.inr key) (v := .int n) hc (by show 4 < sizeLine; decide)
            rw [hput] at hp
            refine ⟨_, e1, a, _, rfl, hp, ?_⟩
            have a2 : StE f1 O1 H1 f1 O1 (upd H1 a (.dK (fkvs c f'))) := ⟨fun _ h => h, .inl rfl, fun b w e nb => by rw [upd_ne (fun z => nb (by rw [z]; exact ha))]; exact e, fun b z => by
              by_cases hb : b = a
              · subst hb; rw [upd_same] at z; cases z
              · rw [upd_ne hb] at z; exact z⟩
            have cr := I1.car a2.stp
            refine k σ _ f1 O1 (a1.stp.trans a2.stp) ⟨I1.nd, SlR.go cr (fun b xs hb e => a2.same b _ e fun z => I1.nf b z hb) I1.sl, I1.fr, ?_, I1.tr, I1.ff, ?_, I1.nf⟩
            · refine ⟨fun b hb => (by cases hb), I1.st.fe, fun b w e _ nb => ?_, fun b z => I1.st.mon b (a2.mon b z)⟩
              refine a2.same b w (I1.st.same b w e (by simp) nb) fun z => ?_
              rcases I1.st.fe with y | ⟨y, y2⟩
              · rw [y] at z; exact nb z
              · rw [y2 b z] at e; cases e
            · rw [ha]
              refine ⟨by rw [hcell]; exact lc63, c, by rw [fho_d hk', upd_same], nc, ?_⟩
              rw [upd_ne (fun z => by rw [z, hc] at lc; cases lc), hcell]
              exact lc
          | _ => cases h2
        | _ => cases h2
theorem cut_all (xs : List V) (h : xs.length ≤ 63) : cutV xs none (some 63) = xs := by
  unfold cutV
  have e1 : HT.sIx xs.length 0 none = 0 := rfl
  have e2 : HT.sIx xs.length xs.length (some 63) = xs.length := by
    have := HT.sIx_nat xs.length xs.length 63
    rw [show ((63 : Nat) : Int) = 63 from rfl] at this
    rw [this]; omega
  rw [e1, e2, List.drop_zero, Nat.sub_zero, List.take_length]
theorem merge_f (q : Addr) : mergeK [] [(Sum.inr ("cells" : Str), V.ref q), (Sum.inr ("at" : Str), V.int 0), (Sum.inr ("left" : Str), V.int 0), (Sum.inr ("turn" : Str), V.int 0)] = fkvs q ⟨[], 0, 0, 0, 0⟩ := by
  show putK (putK (putK (putK ([] : List (Key × V)) (Sum.inr ("cells" : Str)) (V.ref q)) (Sum.inr ("at" : Str)) (V.int 0)) (Sum.inr ("left" : Str)) (V.int 0)) (Sum.inr ("turn" : Str)) (V.int 0) = _
  have e1 : putK ([] : List (Key × V)) (Sum.inr ("cells" : Str)) (V.ref q) = [(Sum.inr ("cells" : Str), V.ref q)] := putK_new _ valV_nil
  have e2 : putK ([(Sum.inr ("cells" : Str), V.ref q)] : List (Key × V)) (Sum.inr ("at" : Str)) (V.int 0) = [(Sum.inr ("cells" : Str), V.ref q), (Sum.inr ("at" : Str), V.int 0)] := putK_new _ (by rw [valV_neg s_ca, valV_nil])
  have e3 : putK ([(Sum.inr ("cells" : Str), V.ref q), (Sum.inr ("at" : Str), V.int 0)] : List (Key × V)) (Sum.inr ("left" : Str)) (V.int 0) = [(Sum.inr ("cells" : Str), V.ref q), (Sum.inr ("at" : Str), V.int 0), (Sum.inr ("left" : Str), V.int 0)] := putK_new _ (by rw [valV_neg s_cl, valV_neg s_al, valV_nil])
  rw [e1, e2, e3]
  exact putK_new _ (by rw [valV_neg s_ct, valV_neg s_at, valV_neg s_lt, valV_nil])
theorem eo_feed {k1 k2 k3 k4 j63 j0 j1 j2 : Nat} {q1 q2 q3 q4 q5 q6 q7 q8 q9 q10 : Pos} (hv : PE X (.Name x p1) (tVar i)) :
    EO X g (.Dict [some (.Constant (.str ("cells" : Str)) k1 q1), some (.Constant (.str ("at" : Str)) k2 q2), some (.Constant (.str ("left" : Str)) k3 q3), some (.Constant (.str ("turn" : Str)) k4 q4)]
      [.Subscript (.Name x p1) (.Slice none (some (.Constant (.int 63) j63 q5)) none q6) q7, .Constant (.int 0) j0 q8, .Constant (.int 0) j1 q9, .Constant (.int 0) j2 q10] pos) (dFN i) :=
  EO.w (pe_disp (pps_cons pe_str (pe_slice sl_list hv po_none (po_some pe_int)) (pps_cons pe_str pe_int (pps_cons pe_str pe_int (pps_cons pe_str pe_int pps_nil)))) rfl rfl (by simp) (by show 4 ≤ 15; decide)) fun σ H Q ⟨fa, O, s, d, s', I, e, k⟩ => by
    unfold dFN at e
    cases q : s.sl[i]? with
    | none => rw [q] at e; cases e
    | some z =>
      rw [q] at e
      cases z with
      | no => cases e
      | own _ => cases e
      | val dz =>
        cases dz with
        | scr ns =>
          cases hf : s.fs with
          | some f => rw [hf] at e; cases e
          | none =>
            rw [hf] at e
            cases e
            obtain ⟨u, e1, r⟩ := SlR.val I.sl q
            simp only [Rep] at r
            obtain ⟨l63, a, rfl, sq⟩ := r
            have fd := I.fd
            rw [hf] at fd
            have fan : fa = none := by cases fa with | none => rfl | some _ => exact fd.elim
            subst fan
            intro p hp
            have sq1 : SqF X.K (upd H p (.dK [])) a (ns.map V.int) := by
              rcases sq with ⟨o, sq⟩ | sq
              · exact .inl ⟨o, by rw [upd_ne (ne_of_none sq hp)]; exact sq⟩
              · exact .inr sq
            refine ⟨_, e1, 63, rfl, a, _, rfl, sq1.sq, fun c hc => ?_⟩
            rw [cut_all _ (by rw [List.length_map]; exact l63)]
            have npc : c ≠ p := fun z => by rw [z, upd_same] at hc; cases hc
            have hcH : H c = none := by rw [upd_ne npc] at hc; exact hc
            refine ⟨by rw [upd_ne (Ne.symm npc), upd_same], [(Sum.inr ("cells" : Str), V.ref c), (Sum.inr ("at" : Str), V.int 0), (Sum.inr ("left" : Str), V.int 0), (Sum.inr ("turn" : Str), V.int 0)], rfl, by show 4 ≤ 15; decide, ?_⟩
            rw [merge_f]
            -- the new heap
            have fresh : ∀ b u, H b = some u → b ≠ p ∧ b ≠ c := fun b u e => ⟨ne_of_none e hp, ne_of_none e hcH⟩
            have a2 : StE none O H (some p) O (upd (upd (upd H p (.dK [])) c (.lst (ns.map V.int))) p (.dK (fkvs c ⟨[], 0, 0, 0, 0⟩))) := by
              refine ⟨fun _ h => h, .inr ⟨rfl, fun b z => by cases z; exact hp⟩, fun b u e _ => ?_, fun b z => ?_⟩
              · obtain ⟨n1, n2⟩ := fresh b u e
                rw [upd_ne n1, upd_ne n2, upd_ne n1]; exact e
              · by_cases h1 : b = p
                · subst h1; exact hp
                · by_cases h2 : b = c
                  · subst h2; exact hcH
                  · rw [upd_ne h1, upd_ne h2, upd_ne h1] at z; exact z
            have cr := I.car a2.stp
            refine k _ _ (some p) O a2 ⟨I.nd, SlR.go cr (fun b xs hb e => a2.same b _ e (by simp)) I.sl, I.fr, I.st.trans ⟨fun b hb => (by cases hb), a2.fe, fun b u e _ n => a2.same b u e n, a2.mon⟩, I.tr, I.ff, ?_, I.nf_step a2.fe⟩ (by simp only [Rep]; exact ⟨p, rfl, rfl⟩)
            refine ⟨l63, c, upd_same, ?_, ?_⟩
            · rintro (z | z | z)
              · exact I.trF z hcH
              · obtain ⟨xs, e⟩ := I.owned z
                rw [hcH] at e; cases e
              · exact npc (Option.some.inj z).symm
            · rw [upd_ne npc, upd_same]
        | _ => cases e
end
end DL
namespace DL
open PySem PySem.Spec L2
section
variable {X : Cx} {g : Gh} {i : Nat} {x : Str} {n : Int} {p1 p2 pos pos' : Pos} {j : Nat}
end
end DL

namespace DL
open PySem PySem.Spec L2

/-- a def of the text, ready to be called -/
structure Cal (P : Program) (w : World) (K : PySem.W.Frag) (mg : Str → Option Value) (base : Heap) (k : Nat) (x : Str) (ps : List Str) (m : DFn) : Prop where
  ex : ∃ (f : Addr) (fd : FuncData), FnD P w K mg base k f fd ps m ∧ mg x = some (.ref f) ∧ PySem.W.keepIn K (.ref f) = true ∧ Binds K fd ps []
/-- Python's own names are not bound by the text -/
structure Blt (mg : Str → Option Value) : Prop where
  len : mg "len" = none
  range : mg "range" = none
  abs : mg "abs" = none
  tuple : mg "tuple" = none
  list : mg "list" = none
  int : mg "int" = none
  bool : mg "bool" = none
  str : mg "str" = none
  repr : mg "repr" = none
  all : mg "all" = none
  isinstance : mg "isinstance" = none
  zip : mg "zip" = none
  enumerate : mg "enumerate" = none
  min : mg "min" = none
  max : mg "max" = none
  reversed : mg "reversed" = none
  any : mg "any" = none
  sum : mg "sum" = none
  sorted : mg "sorted" = none
section
variable {X : Cx} {g : Gh} {k : Nat} {ps : List Str} {m : DFn} {x : Str} {p pos : Pos} {e : Expr} {es : List Expr} {t : DA}
theorem eo_calC (C : Cal X.prog X.w X.K X.mg X.base k x ps m) (k' : Nat) (hr : Room k' X.A) (hk : k ≤ k') (hg : Gl X x)
    (ha : AO X g (e :: es) t) (hn : ∀ s ds s', t s = some (ds, s') → ds.length = ps.length) (hdb : (x == ("__debug__" : Str)) = false := by decide) (he : starEach (e :: es) X.env = (false, eval e X.env) :: starEach es X.env := by rfl) (hpl : (backTo pos (starEach es X.env)).any (·.1) = false := by rfl) :
    EO X g (.Call (.Name x p) (e :: es) [] pos) (dCall m t) := by
  obtain ⟨f, fd, F, hm, hkp, hb⟩ := C.ex
  exact eo_call F (hr.mono hk) hg hm hkp hb ha hn hdb he hpl
end
theorem cal_of {P : Program} {w : World} {K : PySem.W.Frag} {mg : Str → Option Value} {base : Heap} {x : Str} {st : Stmt} {f : Addr} {fd : FuncData} {N ps : List Str} {k : Nat} {b : DM} (F : Fun K x x st f fd) (hm : mg x = some (.ref f)) (hb : Binds K fd ps []) (S : FnScope N ps (defScope st))
    (hbody : ∀ (cdv : Value) (A : Around) (outer : List Env) (s : Shared) (H : Hp) (E : XK) (g : Gh), Room k (A.deeper (PyProof.Rows.envOfC x (defScope st) s.heap.objs.size f cdv)) → SSO (cxOf CX0 P w K mg base N x (defScope st) f cdv A outer s H E).nox g (defBody st) b) :
    Cal P w K mg base (k + 1) x ps (mFn N.length b) := ⟨f, fd, fn_D F S hbody, hm, F.kp, hb⟩
theorem u64 {A : Around} {k : Nat} (hr : Room k A) : A.units + 64 < cLine := by have := hr.un; omega
theorem u66 {A : Around} {k : Nat} (hr : Room k A) : A.units + 66 < cLine := by have := hr.un; omega
theorem boot_len' : bootBuiltins ("len" : Str) = some (.builtin "len") := by decide +kernel
theorem boot_abs' : bootBuiltins ("abs" : Str) = some (.builtin "abs") := by decide +kernel
theorem boot_repr' : bootBuiltins ("repr" : Str) = some (.builtin "repr") := by decide +kernel
theorem boot_tuple' : bootBuiltins ("tuple" : Str) = some (.type "tuple") := by decide +kernel
theorem boot_int' : bootBuiltins ("int" : Str) = some (.type "int") := by decide +kernel
theorem lookup_mem {κ : Type} [BEq κ] [LawfulBEq κ] {β : Type} : ∀ {l : List (κ × β)} {x : κ} {v : β}, l.lookup x = some v → (x, v) ∈ l
  | [], _, _, h => by simp at h
  | (a, b) :: r, x, v, h => by
    rw [List.lookup_cons] at h
    cases e : x == a with
    | true =>
      rw [e] at h
      cases h
      rw [eq_of_beq e]
      exact List.mem_cons_self ..
    | false =>
      rw [e] at h
      exact List.mem_cons_of_mem _ (lookup_mem h)
def hasAll (names : List (Str × NameKind)) (cl : List (Str × Addr)) : Bool := names.all fun p => !(p.2 == .cell || p.2 == .free) || (cl.lookup p.1).isSome
theorem has_of {names : List (Str × NameKind)} {cl : List (Str × Addr)} (h : hasAll names cl = true) : ∀ x, (names.lookup x = some .cell ∨ names.lookup x = some .free) → ∃ c, cl.lookup x = some c := fun x hx => by
  have key : ∀ kd, names.lookup x = some kd → (kd == NameKind.cell || kd == NameKind.free) = true → ∃ c, cl.lookup x = some c := fun kd e q => by
    have m := lookup_mem e
    have z := List.all_eq_true.mp h _ m
    simp only [q, Bool.not_true, Bool.false_or] at z
    exact Option.isSome_iff_exists.mp z
  rcases hx with e | e
  · exact key _ e rfl
  · exact key _ e rfl
inductive CapL (X : Cx) (scope : Scope) : List Nat → List Str → Prop where
  | nil : CapL X scope [] []
  | cons {i : Nat} {y : Str} {r : List Nat} {ys : List Str} (h1 : X.N[i]? = some y) (h2 : X.env.scope.names.lookup y = some .cell ∨ X.env.scope.names.lookup y = some .free)
      (h3 : (relabel scope X.env).names.lookup y = some .cell ∨ (relabel scope X.env).names.lookup y = some .free) (t : CapL X scope r ys) : CapL X scope (i :: r) (y :: ys)
theorem CapL.len {X : Cx} {scope : Scope} : ∀ {idx : List Nat} {ys : List Str}, CapL X scope idx ys → ys.length = idx.length
  | _, _, .nil => rfl
  | _, _, .cons _ _ _ t => by simp [CapL.len t]
theorem CapL.at {X : Cx} {scope : Scope} : ∀ {idx : List Nat} {ys : List Str}, CapL X scope idx ys → ∀ (j i : Nat) (y : Str), idx[j]? = some i → ys[j]? = some y →
    X.N[i]? = some y ∧ (X.env.scope.names.lookup y = some .cell ∨ X.env.scope.names.lookup y = some .free) ∧ ((relabel scope X.env).names.lookup y = some .cell ∨ (relabel scope X.env).names.lookup y = some .free)
  | _, _, .nil, j, i, y, h, _ => by simp at h
  | _, _, .cons h1 h2 h3 t, 0, i, y, e1, e2 => by
    simp at e1 e2
    subst e1; subst e2
    exact ⟨h1, h2, h3⟩
  | _, _, .cons _ _ _ t, j + 1, i, y, e1, e2 => t.at j i y (by simpa using e1) (by simpa using e2)
inductive SubL (cells : List (Str × Addr)) : List (Str × Addr) → Prop where
  | nil : SubL cells []
  | cons {x : Str} {c : Addr} {r : List (Str × Addr)} (h : cells.lookup x = some c) (t : SubL cells r) : SubL cells ((x, c) :: r)
theorem SubL.mem {cells : List (Str × Addr)} : ∀ {cl : List (Str × Addr)}, SubL cells cl → ∀ x c, (x, c) ∈ cl → cells.lookup x = some c
  | _, .nil, x, c, h => by cases h
  | _, .cons e t, x, c, h => by
    rcases List.mem_cons.mp h with z | z
    · cases z; exact e
    · exact t.mem x c z
theorem compOk1 {X : Cx} {scope : Scope} {cl : List (Str × Addr)} {x : Str} {caps : List Str} {idx : List Nat} (clos : closureFor scope X.env = pure cl) (sub : SubL X.env.cells cl) (cell : ∀ y ∈ scope.names, y.2 ≠ .cell) (kind : scope.kind = .function)
    (names : ∀ y ∈ scope.names, y.2 = .local → scope.names.lookup y.1 = some .local) (has : hasAll (relabel scope X.env).names cl = true) (cap : CapL X scope idx caps) : CompOk X scope cl (x :: caps) 1 idx :=
  ⟨clos, fun y c e => sub.mem y c (lookup_mem e), cell, kind, names, has_of has, by rw [List.length_cons, cap.len, Nat.add_comm], fun j i y e1 e2 => cap.at j i y e1 (by rw [Nat.add_comm] at e2; simpa using e2)⟩
/-- a, b = x, y -/
def dPar (i j : Nat) (f : DA) : DM := fun s => (f s).bind fun x => match x.1 with
  | [a, b] => some (.next, { x.2 with sl := (x.2.sl.set i (.val a)).set j (.val b) })
  | _ => none
section
variable {X : Cx} {g : Gh}
theorem s_par {i j : Nat} {x y : Str} {a b : Expr} {f : DA} {px py pt pos : Pos} {kt k2 pt2} (hc : X.calm = true) (hN : X.N.Nodup) (hi : X.N[i]? = some x) (hj : X.N[j]? = some y) (hij : i ≠ j)
    (hx : X.env.scope.names.lookup x = some .local) (hy : X.env.scope.names.lookup y = some .local) (ha : AO X g [a, b] f)
    (hw : swappedStores [.Tuple [.Name x px, .Name y py] kt pt] (.Tuple [a, b] k2 pt2) X.env = pure (some [x, y]))
    (hs : swapsWithSole [.Tuple [.Name x px, .Name y py] kt pt] (.Tuple [a, b] k2 pt2) pos.line X.env = pure false := by rfl) :
    SO X g (.Assign [.Tuple [.Name x px, .Name y py] kt pt] (.Tuple [a, b] k2 pt2) pos) (dPar i j f) := SO.w (ps_par hc hN hi hj hij hx hy ha.pe hw hs) fun E σ H ⟨fa, O, s, fl, s', I, q, k⟩ => by
  obtain ⟨⟨ds, s1⟩, h1, h2⟩ := Option.bind_eq_some_iff.mp q
  refine ⟨fa, O, s, ds, s1, I, h1, fun vs H1 f1 O1 a1 I1 r => ?_⟩
  match ds, h2, r with
  | [d1, d2], h2, r =>
    simp only [Option.some.injEq, Prod.mk.injEq] at h2
    obtain ⟨e1, e2⟩ := h2
    subst e1; subst e2
    simp only [Reps] at r
    obtain ⟨v, ys, rfl, rv, u, zs, rfl, ru, rfl⟩ := r
    refine ⟨v, u, rfl, ?_⟩
    obtain ⟨P, sub, I2⟩ := I1.put i rv
    have a2 : StE f1 O1 H1 f1 P H1 := stE_sub sub
    obtain ⟨P3, sub3, I3⟩ := I2.put j (Rep.stp I1 a2.stp ru)
    exact k _ H1 f1 P3 (a1.stp.trans (a2.stp.trans (stE_sub sub3).stp)) I3
end
theorem walkD {l : PySem.W.OpenLaw} {q : Program} {loose : List Str} {XP : (Str → Option Value) → Heap → Prop} {YP : World → Heap → Prop} {d : DefRec} {K : Params → PySem.W.Frag} {m : DFn} {k : Nat} (hn : l.most = some 63) (hdf : d.params.defaults = []) (hr : Room k callerA)
    (hY : ∀ (w : World) (h : Heap), YP w h → (K w.params).In h)
    (F : ∀ (w : World) (mg : Str → Option Value) (fa : Addr) (h : Heap), (K w.params).In h → h.Ns mainGlobals mg → mg d.name = some (.ref fa) →
      ∃ fd : FuncData, (∀ (s : Shared) (u : Value), BindsTo s fd ⟨[u], []⟩ [("_law_script", u)]) ∧ ∀ base : Heap, (K w.params).In base → base.Ns mainGlobals mg → FnOk l.prog w (K w.params) mg base CX0 k fa fd ["_law_script"] (spD (K w.params) 1 m))
    (math : ∀ ns : List Int, ns.length ≤ 63 → ∃ fs', m [.scr ns] none = some (.bl true, fs')) :
    PySem.W.WalkO q loose XP YP l.row.toRowW d [] (fun f vs => PySem.call f vs) :=
  L2.walk_of (n := 63) (k := k) (x := "_law_script") (CX := fun _ => CX0) (sp := fun w => spD (K w.params) 1 m) hn (by decide) hdf hr hY F (fun w H a ns hl hO hS => by
    obtain ⟨fs', e⟩ := math ns hl
    refine ⟨fun _ => False, none, [.scr ns], none, .bl true, fs', fun b z => z.elim, fun a z => (by cases z), ?_, trivial, e, rfl, fun v H' fa' _ _ r => by simpa only [Rep] using r⟩
    simp only [Reps, Rep]
    refine ⟨_, _, rfl, ⟨hl, a, rfl, ?_⟩, rfl⟩
    rcases hS with (z | ⟨o, z⟩) | z
    · rcases hO a with y | ⟨o, xs, y⟩ <;> · rw [z] at y; cases y
    · exact .inl ⟨o, z⟩
    · exact .inr z) fun _ _ _ _ _ z => z
end DL

namespace DL
open PySem PySem.Spec L2
section
variable {X : Cx} {g : Gh} {a b c : Expr} {fa fb fc : DE} {pos : Pos}
abbrev DO := DS → Option (Option Int × DS)
def liftO (K : PySem.W.Frag) (g : Gh) (f : DO) : L2.TO := fun σ H Q => ∃ fa O s d s', GI K g σ H fa O s ∧ f s = some (d, s') ∧ ∀ H' fa' O', StE fa O H fa' O' H' → GI K g σ H' fa' O' s' → Q d H'
structure OO (X : Cx) (g : Gh) (e : Option Expr) (f : DO) : Prop where
  pe : PO X e (liftO X.K g f)
def dNo : DO := fun s => some (none, s)
def dAt (f : DE) : DO := fun s => (f s).bind fun x => match x.1 with | .int i => some (some i, x.2) | _ => none
theorem POw {e : Option Expr} {t t' : L2.TO} (h : PO X e t) (w : ∀ σ H Q, t' σ H Q → t σ H Q) : PO X e t' := fun pins s σ H Q I q => h pins s σ H Q I (w σ H Q q)
theorem OO.w {e : Option Expr} {f : DO} {t : L2.TO} (h : PO X e t) (w : ∀ σ H Q, liftO X.K g f σ H Q → t σ H Q) : OO X g e f := ⟨POw h w⟩
theorem oo_none : OO X g none dNo := OO.w po_none fun σ H Q ⟨f0, O, s, d, s', I, e, k⟩ => by
  cases e
  exact k H f0 O StE.refl I
theorem oo_some (h : BO X g a fa) : OO X g (some a) (dAt fa) := OO.w (po_some h.pe) fun σ H Q ⟨f0, O, s, d, s', I, e, k⟩ => by
  obtain ⟨⟨x, s1⟩, h1, e⟩ := Option.bind_eq_some_iff.mp e
  cases x with
  | int i =>
    simp only [Option.some.injEq, Prod.mk.injEq] at e
    obtain ⟨e1, e2⟩ := e
    subst e1; subst e2
    exact ⟨f0, O, s, .int i, s1, I, h1, fun v H1 f1 O1 a1 I1 r1 => ⟨i, by simpa only [RepB, Rep] using r1, k H1 f1 O1 a1 I1⟩⟩
  | _ => cases e
def cutD (xs : List D) (lo hi : Option Int) : List D := (xs.drop (HT.sIx xs.length 0 lo)).take (HT.sIx xs.length xs.length hi - HT.sIx xs.length 0 lo)
theorem cut_rep {K : PySem.W.Frag} {N : Addr → Prop} {fa : Option Addr} {H : Hp} {ds : List D} {xs : List V} (r : Reps K N fa H ds xs) (lo hi : Option Int) : Reps K N fa H (cutD ds lo hi) (cutV xs lo hi) := by
  unfold cutD cutV
  rw [r.length]
  exact (r.drop _).take _
end
end DL

namespace HT2
open PySem PyProof.Rows HT
section
variable {prog : Program} {w : World} {A : Around} {E : Value → Shared → Prop} {s : Shared}
theorem getItem_tuple_whole {t sl : Addr} {items : Array Value} {vl vu : Value} {lo hi : Option Int} {Q : Value → Shared → Prop} (ht : IsTup s.heap t items) (hs : s.heap.IsSliceOf sl vl vu .none) (pl : IsPart vl lo) (pu : IsPart vu hi)
    (hw : sIx items.size 0 lo = 0 ∧ sIx items.size items.size hi = items.size) (h : Q (.ref t) s) : wpAny (model prog w) A (getItem (.ref t) (.ref sl)) Q E s := by
  obtain ⟨os, hos, hcs, hds⟩ := id hs
  have hTs : s.TypeIs (.ref sl) "slice" := ⟨os, hos, hcs⟩
  unfold getItem
  try with_reducible refine wpAny_holding ?_
  first | refine wpAny_bind (wpAny_pure ?_) | skip
  refine wpAny_bind (wpAny_sequenceKey ht.typeIs (by decide) ?_)
  refine wpAny_bind (wpAny_callSpecial?_slot (name := Str.ofString "__getitem__") ht.typeIs PyProof.Rows.slot_tuple_getitem
    (wpAny_call_entry PyProof.Rows.slot_tuple_getitem ht.typeIs entry_tuple_getitem ?_ (args_tuple_getitem _ _)))
  show wpAny _ _ (Builtin.Tuple.tupleItemsOf (.ref t) >>= _) _ _ s
  refine wpAny_bind (tupleItemsOf_ ht ?_)
  refine wpAny_bind (wpAny_typeOf hTs ?_)
  rw [if_pos (by decide)]
  refine wpAny_bind (sliceApplied_gen hs pl pu ?_)
  have hyes : (((sIx items.size 0 lo : Nat) : Int) == 0 && (1 : Int) == 1 && (sIx items.size items.size hi - sIx items.size 0 lo) == items.size) = true := by
    rw [hw.1, hw.2]; simp
  show wpAny _ _ (if (((sIx items.size 0 lo : Nat) : Int) == 0 && (1 : Int) == 1 && (sIx items.size items.size hi - sIx items.size 0 lo) == items.size) = true then _ else _) _ _ s
  rw [if_pos hyes]
  refine wpAny_bind (m := Builtin.Tuple.tupleIsExact _) (wpAny_bind (wpAny_typeOf ht.typeIs (wpAny_pure ?_)))
  rw [if_pos (by decide)]
  first
    | exact wpAny_bind (wpAny_rule (wpAny_bind (wpAny_pure (wpAny_pure ⟨_, rfl, wpAny_pure h⟩))))
    | exact wpAny_bind (wpAny_rule (wpAny_pure ⟨_, rfl, wpAny_pure h⟩))
    | exact wpAny_bind (wpAny_rule (wpAny_bind (wpAny_pure ⟨_, rfl, wpAny_pure h⟩)))
end
end HT2
namespace DL
open PySem PySem.Spec L2
section
variable {X : Cx} {g : Gh} {a : Expr} {fa : DE} {pos : Pos}
def rSlW (K : PySem.W.Frag) : V → Option Int → Option Int → Hp → VK → Prop := fun x lo hi H Q => ∃ a xs, x = .ref a ∧ SqT K H a xs ∧ (HT.sIx xs.length 0 lo = 0 ∧ HT.sIx xs.length xs.length hi = xs.length) ∧ Q (.ref a) H
theorem sl_tupW : L2.SlR X (rSlW X.K) := by
  intro pins s σ H x v vl vu lo hi sl Q I rx hs pl pu h
  obtain ⟨a, xs, rfl, hx, hw, q⟩ := h
  cases rx
  obtain ⟨its, r, ht, hz⟩ := I.tuple hx
  have hlen : its.toArray.size = xs.length := by rw [List.size_toArray]; exact r.length.symm
  refine ⟨"tuple", _, PyProof.Rows.slot_tuple_getitem.lookup, ht.typeIs, ?_⟩
  exact HT2.getItem_tuple_whole ht hs pl pu (by rw [hlen]; exact hw) ⟨.ref a, H, I, rfl, q⟩
theorem cut_whole {xs : List D} {lo hi : Option Int} (h : HT.sIx xs.length 0 lo = 0 ∧ HT.sIx xs.length xs.length hi = xs.length) : cutD xs lo hi = xs := by
  unfold cutD
  rw [h.1, h.2, List.drop_zero, Nat.sub_zero, List.take_length]
/-- a tuple's or a list's slice as a value -/
def dSl (f : DE) (lo hi : DO) : DE := fun s => (f s).bind fun x => (lo x.2).bind fun l => (hi l.2).bind fun h => match x.1 with
  | .tup ds => some (.tup (cutD ds l.1 h.1), h.2)
  | .lst ds => some (.lst (cutD ds l.1 h.1), h.2)
  | _ => none
theorem eo_slice {lo hi : Option Expr} {fl fh : DO} {p2 : Pos} (ha : BO X g a fa) (hl : OO X g lo fl) (hh : OO X g hi fh) : EO X g (.Subscript a (.Slice lo hi none p2) pos) (dSl fa fl fh) :=
  EO.w (pe_slice (L2.SlR.or (L2.SlR.or sl_tup sl_tupW) sl_list) ha.pe hl.pe hh.pe) fun σ H Q ⟨f0, O, s, d, s', I, e, k⟩ => by
    obtain ⟨⟨x, s1⟩, h1, e⟩ := Option.bind_eq_some_iff.mp e
    obtain ⟨⟨l, s2⟩, h2, e⟩ := Option.bind_eq_some_iff.mp e
    obtain ⟨⟨h, s3⟩, h3, e⟩ := Option.bind_eq_some_iff.mp e
    refine ⟨f0, O, s, x, s1, I, h1, fun v H1 f1 O1 a1 I1 r1 => ⟨f1, O1, s1, l, s2, I1, h2, fun H2 f2 O2 a2 I2 => ⟨f2, O2, s2, h, s3, I2, h3, fun H3 f3 O3 a3 I3 => ?_⟩⟩⟩
    have r3 := RepB.stp I2 a3 (RepB.stp I1 a2 r1)
    cases x with
    | lst ds =>
      simp only [Option.some.injEq, Prod.mk.injEq] at e
      obtain ⟨e1, e2⟩ := e
      subst e1; subst e2
      obtain ⟨c, xs, rfl, _, q, w⟩ := r3
      refine .inr ⟨c, xs, rfl, SqL.of q, fun p hp => ?_⟩
      have a4 : StE f3 O3 H3 f3 O3 (upd H3 p (.lst (cutV xs l h))) := stE_new hp
      have L := newL I3 hp (cut_rep w l h)
      refine k _ _ f3 O3 (a1.trans (a2.trans (a3.trans a4))) L.gi ?_
      simp only [Rep]
      exact ⟨p, _, rfl, new_out I3 a4 L.gi hp L.nf, upd_same, Reps.stp I3 a4.stp (cut_rep w l h)⟩
    | tup ds =>
      simp only [Option.some.injEq, Prod.mk.injEq] at e
      obtain ⟨e1, e2⟩ := e
      subst e1; subst e2
      simp only [RepB, Rep] at r3
      obtain ⟨c, xs, rfl, q, w⟩ := r3
      by_cases hw : HT.sIx xs.length 0 l = 0 ∧ HT.sIx xs.length xs.length h = xs.length
      · refine .inl (.inr ⟨c, xs, rfl, q, hw, k _ H3 f3 O3 (a1.trans (a2.trans a3)) I3 ?_⟩)
        rw [w.length] at hw
        rw [cut_whole hw]
        simp only [Rep]
        exact ⟨c, xs, rfl, q, w⟩
      · refine .inl (.inl ⟨c, xs, rfl, q, hw, fun p hp => ?_⟩)
        have a4 : StE f3 O3 H3 f3 O3 (upd H3 p (.tup (cutV xs l h))) := stE_new hp
        refine k _ _ f3 O3 (a1.trans (a2.trans (a3.trans a4))) (I3.new hp) ?_
        simp only [Rep]
        exact ⟨p, _, rfl, SqT.of upd_same, Reps.stp I3 a4.stp (cut_rep w l h)⟩
    | _ => cases e
end
end DL

namespace HT3
open PySem PyProof.Rows HT
section
variable {prog : Program} {w : World} {A : Around} {E : Value → Shared → Prop} {s : Shared}
end
end HT3
namespace DL
open PySem PySem.Spec L2 PyProof.Rows
section
variable {X : Cx} {g : Gh} {a st : Expr} {fa fs : DE} {pos p2 : Pos}
end
end DL

namespace DL
open PySem PySem.Spec L2
def noStar : Expr → Bool
  | .Starred _ _ => false
  | _ => true
theorem star_cons {a : Expr} {es : List Expr} {env : Env} (h : noStar a = true) : starEach (a :: es) env = (false, eval a env) :: starEach es env := by
  cases a <;> first | rfl | (cases h)
section
variable {X : Cx} {g : Gh} {a : Expr} {es : List Expr} {fa : DE} {fr : DA}
theorem ac (ha : EO X g a fa) (hr : AO X g es fr) (hs : noStar a = true := by rfl) : AO X g (a :: es) (dCons fa fr) := ao_cons ha hr (star_cons hs)
theorem bc (ha : BO X g a fa) (hr : BAO X g es fr) (hs : noStar a = true := by rfl) : BAO X g (a :: es) (dCons fa fr) := bao_cons ha hr (star_cons hs)
end
end DL

namespace DL
open PySem PySem.Spec L2 PyProof.Rows
section
variable {X : Cx} {K : PySem.W.Frag}
end
structure LitV (K : PySem.W.Frag) (d : D) (u : Value) : Prop where
  ex : ∃ v : V, RelV v u ∧ ∀ N fa H, Rep K N fa H d v
structure LitVs (K : PySem.W.Frag) (ds : List D) (us : List Value) : Prop where
  ex : ∃ vs : List V, Vals vs us ∧ ∀ N fa H, Reps K N fa H ds vs
section
variable {K : PySem.W.Frag}
end
structure Con (K : PySem.W.Frag) (mg : Str → Option Value) (x : Str) (d : D) : Prop where
  ex : ∃ u : Value, mg x = some u ∧ LitV K d u
end DL

namespace DL
open PySem PySem.Spec L2
section
variable {K : PySem.W.Frag} {g : Gh} {σ : L2.St} {H : Hp} {fa : Option Addr} {O : List Addr} {s : DS}
end
def pIsNotB : D → D → Option D
  | .bl a, .bl b => some (.bl (!(a == b)))
  | _, _ => none
theorem op_notB {X : Cx} : OpR X (compareOp .IsNot) (fun x y H Q => ∃ a b, x = .bl a ∧ y = .bl b ∧ Q (.bl (!(a == b))) H) := by
  intro pins s σ H x y v u Q I rx ry h
  obtain ⟨a, b, rfl, rfl, q⟩ := h
  cases rx
  cases ry
  exact PyProof.Rows.isnot_bool ⟨.bl _, H, I, rfl, q⟩
theorem r_isNotB {K : PySem.W.Frag} : R2D K (fun x y H Q => ∃ a b, x = .bl a ∧ y = .bl b ∧ Q (.bl (!(a == b))) H) pIsNotB := by
  intro g σ H fa O s x y d1 d2 d Q I r1 r2 e k
  cases d1 with
  | bl a =>
    cases d2 with
    | bl b =>
      cases e
      simp only [RepB, Rep] at r1 r2
      exact ⟨a, b, r1, r2, k _ H StE.refl I (by simp only [Rep])⟩
    | _ => cases e
  | _ => cases d2 <;> cases e
end DL

namespace DL
open PySem PySem.Spec L2
def mk2 (idx : List Nat) (sl : List Sl) : D → Option (List Sl)
  | .tup [a, b] => some (.val a :: .val b :: capS idx sl)
  | _ => none
theorem mk2_some {idx : List Nat} {sl : List Sl} {d : D} {r : List Sl} (h : mk2 idx sl d = some r) : ∃ a b, d = .tup [a, b] ∧ r = .val a :: .val b :: capS idx sl := by
  cases d with
  | tup ds =>
    match ds, h with
    | [a, b], h => cases h; exact ⟨a, b, rfl, rfl⟩
  | _ => cases h
def dComp2 (idx : List Nat) (fi : DA) (fc : DT) (fe : DE) : DA := fun s => (fi s).bind fun x => if x.1.length ≤ sizeLine then (dCompL (mk2 idx x.2.sl) fc fe x.1 x.2.fs).map fun y => (y.1, { x.2 with fs := y.2 }) else none
section
variable {X : Cx} {g : Gh} {scope : Scope} {cl : List (Str × Addr)} {N' : List Str} {idx : List Nat} {iter elt tg : Expr} {ifs : List Expr} {pos : Pos} {fi : DA} {fc : DT} {fe : DE}
theorem comp2_w {G : TG} (k : CompOk X scope cl N' 2 idx)
    (hG : ∀ (a : Addr) (x y : V) (σ : L2.St) (H : Hp) (Q : L2.St → Hp → Prop), SqT X.K H a [x, y] → Q ((σ.set 0 (some x)).set 1 (some y)) H → G (.ref a) σ H Q) : ∀ σ H Q, liftF X.K g (dComp2 idx fi fc fe) σ H Q → tComp 2 idx (liftI X.K g fi) G (fun σ H Q => ∃ g', liftT X.K g' fc σ H Q) (fun σ H Q => ∃ g', liftE X.K g' fe σ H Q) σ H Q :=
  compG_w (mk := mk2 idx) fun N fa sl d sl0 x σ H Q hm rx hc kk => by
    obtain ⟨da, db, rfl, rfl⟩ := mk2_some hm
    simp only [Rep, Reps] at rx
    obtain ⟨ad, xs0, rfl, hsq, u, ys0, rfl, ru, w, ys1, rfl, rw', rfl⟩ := rx
    refine hG ad u w _ _ _ hsq (kk _ ⟨by simp, fun j v hj => ?_⟩ ?_)
    · cases j with
      | zero => simp [blkS] at hj
      | succ j =>
        cases j with
        | zero => simp [blkS] at hj
        | succ j => rw [List.getElem?_set_ne (by simp), List.getElem?_set_ne (by simp)]; exact hj
    · have eb : ((blkS 2 idx σ).set 0 (some u)).set 1 (some w) = some u :: some w :: idx.map fun i => (σ[i]?).join := by simp [blkS]
      rw [eb]
      simp only [SlR]
      exact ⟨u, _, rfl, ru, w, _, rfl, rw', hc⟩
theorem fo_comp2 {G : TG} (hc : X.calm = true) (k : CompOk X scope cl N' 2 idx) (hi : IO X g tg iter fi) (hg : ∀ C s0 H0 ex, PG (blk X N' scope cl C s0 H0 ex) tg G)
    (hG : ∀ (a : Addr) (x y : V) (σ : L2.St) (H : Hp) (Q : L2.St → Hp → Prop), SqT X.K H a [x, y] → Q ((σ.set 0 (some x)).set 1 (some y)) H → G (.ref a) σ H Q)
    (ht : ∀ C s0 H0 ex g', IfsO (blk X N' scope cl C s0 H0 ex) g' ifs fc) (he : ∀ C s0 H0 ex g', EO (blk X N' scope cl C s0 H0 ex) g' elt fe) (hs : ∀ x, foldedSetIterable iter X.env x = pure x := by intro _; rfl) :
    FO X g (.ListComp elt [⟨tg, iter, ifs, 0⟩] scope pos) (dComp2 idx fi fc fe) := by
  -- the readings of the block for every g'
  exact FO.w (pe_comp (tc := fun σ H Q => ∃ g', liftT X.K g' fc σ H Q) (te := fun σ H Q => ∃ g', liftE X.K g' fe σ H Q) hc k hi.pe hg (fun C s0 H0 ex pins s σ H Q I ⟨g', h⟩ => ht C s0 H0 ex g' pins s σ H Q I h) (fun C s0 H0 ex pins s σ H Q I ⟨g', h⟩ => (he C s0 H0 ex g').pe pins s σ H Q I h) hs) (comp2_w k hG)
theorem compOk2 {X : Cx} {scope : Scope} {cl : List (Str × Addr)} {x y : Str} {caps : List Str} {idx : List Nat} (clos : closureFor scope X.env = pure cl) (sub : SubL X.env.cells cl) (cell : ∀ y ∈ scope.names, y.2 ≠ .cell) (kind : scope.kind = .function)
    (names : ∀ y ∈ scope.names, y.2 = .local → scope.names.lookup y.1 = some .local) (has : hasAll (relabel scope X.env).names cl = true) (cap : CapL X scope idx caps) : CompOk X scope cl (x :: y :: caps) 2 idx :=
  ⟨clos, fun y c e => sub.mem y c (lookup_mem e), cell, kind, names, has_of has, by rw [List.length_cons, List.length_cons, cap.len]; omega, fun j i y e1 e2 => cap.at j i y e1 (by
    rw [show 2 + j = j + 1 + 1 by omega] at e2; simpa using e2)⟩
end
end DL

namespace DL
open PySem PySem.Spec L2
/-- a walk over a row stands at place k -/
def RwIt (h : Heap) (i l : Addr) (xs : Array Value) (k : Nat) : Prop := (h.IsListIter i l k ∧ h.IsList l xs) ∨ (h.IsTupleIter i l k ∧ h.IsTuple l xs)
def Rw (h : Heap) (l : Addr) (xs : Array Value) : Prop := h.IsList l xs ∨ h.IsTuple l xs
section
variable {h h' : Heap} {i l : Addr} {xs : Array Value} {k : Nat}
theorem Rw.at (x : Rw h l xs) (e : ∀ o, h.get? l = some o → h'.get? l = some o) : Rw h' l xs := by
  rcases x with ⟨o, q, r⟩ | ⟨o, q, r⟩
  · exact .inl ⟨o, e o q, r⟩
  · exact .inr ⟨o, e o q, r⟩
theorem Rw.lt (x : Rw h l xs) : l < h.objs.size := by
  rcases x with ⟨o, q, r⟩ | ⟨o, q, r⟩ <;> exact Heap.lt_size q
theorem RwIt.at (x : RwIt h i l xs k) (ei : ∀ o, h.get? i = some o → h'.get? i = some o) (el : ∀ o, h.get? l = some o → h'.get? l = some o) : RwIt h' i l xs k := by
  rcases x with ⟨⟨o, q, r⟩, ⟨p, u, v⟩⟩ | ⟨⟨o, q, r⟩, ⟨p, u, v⟩⟩
  · exact .inl ⟨⟨o, ei o q, r⟩, ⟨p, el p u, v⟩⟩
  · exact .inr ⟨⟨o, ei o q, r⟩, ⟨p, el p u, v⟩⟩
theorem RwIt.lt (x : RwIt h i l xs k) : i < h.objs.size := by
  rcases x with ⟨⟨o, q, r⟩, _⟩ | ⟨⟨o, q, r⟩, _⟩ <;> exact Heap.lt_size q
end
section
variable {prog : Program} {w : World} {A : Around} {E : Value → Shared → Prop} {s : Shared}
theorem nextOf_tup_item {it t : Addr} {i : Nat} {items : Array Value} {x : Value} {Q : Value → Shared → Prop} (hit : s.heap.IsTupleIter it t i) (ht : s.heap.IsTuple t items) (hx : items[i]? = some x)
    (hQ : ∀ h', h'.IsTupleIter it t (i + 1) → Heap.SameBut it s.heap h' → Q x { s with heap := h' }) : wpAny (model prog w) A (Builtin.SmallTypes.nextOf (.ref it)) Q E s := by
  obtain ⟨o, ho, hc, hd⟩ := id hit
  obtain ⟨ol, hol, _, nl, hdl⟩ := ht
  unfold Builtin.SmallTypes.nextOf
  refine wpAny_bind (wpAny_callSpecial?_slot (name := Str.ofString "__next__") hit.typeIs PySem.F.slot_tuple_iterator_next (wpAny_call_entry PySem.F.slot_tuple_iterator_next hit.typeIs PySem.F.entry_tuple_iterator_next ?_ (PySem.F.args_tuple_iterator_next_1 _)))
  show wpAny _ _ (field (.ref it) 0 >>= _) _ _ s
  refine wpAny_bind (wpAny_field ho hd (x := .ref t) rfl ?_)
  show wpAny _ _ (if (Value.ref t == Value.none) = true then _ else _) _ _ s
  rw [if_neg (show ¬ ((Value.ref t == Value.none) = true) from Bool.false_ne_true)]
  show wpAny _ _ (field (.ref it) 1 >>= _) _ _ s
  refine wpAny_bind (wpAny_field ho hd (x := .int i 0) rfl ?_)
  show wpAny _ _ (seqItems? (.ref t) >>= _) _ _ s
  refine wpAny_bind (wpAny_seqItems hol hdl ?_)
  simp only [Int.toNat_natCast, hx]
  refine wpAny_bind (wpAny_setField ho hd (by simp) (wpAny_pure ⟨x, rfl, wpAny_pure (hQ _ ?_ (Heap.SameBut.update ..))⟩))
  exact ⟨_, Heap.get?_update_self _ ho (Obj.isFreed_of_fields (Obj.data_mapFields hd _)), (Obj.cls_mapFields ..).trans hc, by rw [Obj.data_mapFields hd]; simp [rawInt]⟩
theorem nextOf_tup_end {it t : Addr} {i : Nat} {items : Array Value} {Q : Value → Shared → Prop} (hh : A.handled = none) (hit : s.heap.IsTupleIter it t i) (ht : s.heap.IsTuple t items) (hx : items[i]? = none)
    (hE : ∀ h' e, Heap.ExtBut it s.heap h' → (∃ o, h'.get? e = some o ∧ o.cls = .type "StopIteration") → E (.ref e) { s with heap := h' }) : wpAny (model prog w) A (Builtin.SmallTypes.nextOf (.ref it)) Q E s := by
  obtain ⟨o, ho, hc, hd⟩ := id hit
  obtain ⟨ol, hol, _, nl, hdl⟩ := ht
  unfold Builtin.SmallTypes.nextOf
  refine wpAny_bind (wpAny_callSpecial?_slot (name := Str.ofString "__next__") hit.typeIs PySem.F.slot_tuple_iterator_next (wpAny_call_entry PySem.F.slot_tuple_iterator_next hit.typeIs PySem.F.entry_tuple_iterator_next ?_ (PySem.F.args_tuple_iterator_next_1 _)))
  show wpAny _ _ (field (.ref it) 0 >>= _) _ _ s
  refine wpAny_bind (wpAny_field ho hd (x := .ref t) rfl ?_)
  show wpAny _ _ (if (Value.ref t == Value.none) = true then _ else _) _ _ s
  rw [if_neg (show ¬ ((Value.ref t == Value.none) = true) from Bool.false_ne_true)]
  show wpAny _ _ (field (.ref it) 1 >>= _) _ _ s
  refine wpAny_bind (wpAny_field ho hd (x := .int i 0) rfl ?_)
  show wpAny _ _ (seqItems? (.ref t) >>= _) _ _ s
  refine wpAny_bind (wpAny_seqItems hol hdl ?_)
  simp only [Int.toNat_natCast, hx]
  refine wpAny_bind (wpAny_rule (wpAny_bind (wpAny_setField ho hd (by simp) ?_)))
  show wpAny _ _ (newExc (.type "StopIteration") [] >>= _) _ _ _
  refine wpAny_bind ?_
  simp only [newExc, newTuple]
  refine wpAny_bind (wpAny_newObj_type ?_ (by size_fits))
  refine wpAny_bind (m := firstArgMember _ _) (wpAny_of_eq (a := Value.none) (by first | rfl | (simp only [firstArgMember]; rfl)) ?_)
  refine wpAny_newObj_type ?_ (by size_fits)
  simp only [raiseNew]
  refine wpAny_bind (wpAny_handled ?_)
  first | rw [show A.in1.handled = none from hh] | rw [hh]
  refine wpAny_bind (wpAny_pure (wpAny_throw ?_))
  exact hE _ _ (((Heap.SameBut.update ..).extBut.push _).push _) ⟨_, Heap.get?_push_size _ rfl, rfl⟩

theorem nextOf_item {it l : Addr} {i : Nat} {xs : Array Value} {x : Value} {Q : Value → Shared → Prop} (r : RwIt s.heap it l xs i) (hl : l ≠ it) (hx : xs[i]? = some x)
    (hQ : ∀ h', RwIt h' it l xs (i + 1) → Heap.SameBut it s.heap h' → Q x { s with heap := h' }) : wpAny (model prog w) A (Builtin.SmallTypes.nextOf (.ref it)) Q E s := by
  rcases r with ⟨a, b⟩ | ⟨a, b⟩
  · exact wpAny_nextOf_list_item a b hx fun h' a' hs => hQ h' (.inl ⟨a', b.extBut hs.extBut hl⟩) hs
  · exact nextOf_tup_item a b hx fun h' a' hs => hQ h' (.inr ⟨a', b.extBut hs.extBut hl⟩) hs
theorem nextOf_end {it l : Addr} {i : Nat} {xs : Array Value} {Q : Value → Shared → Prop} (hh : A.handled = none) (r : RwIt s.heap it l xs i) (hx : xs[i]? = none)
    (hE : ∀ h' e, Heap.ExtBut it s.heap h' → (∃ o, h'.get? e = some o ∧ o.cls = .type "StopIteration") → E (.ref e) { s with heap := h' }) : wpAny (model prog w) A (Builtin.SmallTypes.nextOf (.ref it)) Q E s := by
  rcases r with ⟨a, b⟩ | ⟨a, b⟩
  · exact wpAny_nextOf_list_end hh a b hx hE
  · exact nextOf_tup_end hh a b hx hE

/-- the zip's own object -/
abbrev ZipAt (h : Heap) (z TI TO : Addr) (f0 f1 : Value) : Prop := h.get? z = some { cls := .type "zip", dict := none, data := .fields #[f0, f1, .bool false, .ref TI, .ref TO], slots := #[] }
variable {z TI TO i1 i2 l1 l2 : Addr} {xs ys : Array Value} {k : Nat}

/-- the first draw -/
theorem zipA_item {x y a b : Value} {Q : Value → Shared → Prop} (D : ZipApart z TI TO i1 i2 l1 l2)
    (hz : ZipAt s.heap z TI TO .none (.bool false)) (hTI : IsPair s.heap TI (.ref i1) (.ref i2)) (hTO : IsPair s.heap TO a b) (h1 : RwIt s.heap i1 l1 xs k) (h2 : RwIt s.heap i2 l2 ys k) (hx : xs[k]? = some x) (hy : ys[k]? = some y)
    (hQ : ∀ h', ZipAt h' z TI TO (rawInt s.heap.objs.size) (.bool false) → RwIt h' i1 l1 xs (k + 1) → RwIt h' i2 l2 ys (k + 1) → IsPair h' s.heap.objs.size x y →
      (∀ c o, c ≠ z → c ≠ TO → c ≠ i1 → c ≠ i2 → s.heap.get? c = some o → h'.get? c = some o) → Q (.ref s.heap.objs.size) { s with heap := h' }) :
    wpAny (model prog w) A (Builtin.«zip.__next__» ⟨[.ref z], []⟩) (fun fin s' => ∃ v, fin = .done (.ret v) ∧ Q v s') E s := by
  show wpAny _ _ (field (.ref z) 2 >>= _) _ _ _
  refine wpAny_bind (wpAny_field hz rfl (x := .bool false) rfl ?_)
  show wpAny _ _ (field (.ref z) 3 >>= _) _ _ _
  refine wpAny_bind (wpAny_field hz rfl (x := .ref TI) rfl ?_)
  refine wpAny_bind (wpAny_seqItems hTI rfl ?_)
  show wpAny _ _ (Builtin.SmallTypes.ownedTupleIsFree (.ref z) >>= _) _ _ _
  refine wpAny_bind ?_
  unfold Builtin.SmallTypes.ownedTupleIsFree
  refine wpAny_bind (wpAny_field hz rfl (x := .none) rfl (wpAny_pure ?_))
  simp only [if_true]
  refine wpAny_bind (wpAny_rule ?_)
  refine wpAny_bind (wpAny_field hz rfl (x := .ref TO) rfl ?_)
  refine wpAny_bind (wpAny_setField_rec hz (by simp) fun g1 z1 k1 => ?_)
  replace z1 : ZipAt g1 z TI TO .ellipsis (.bool false) := z1
  refine wpAny_bind ?_
  simp only [List.zipIdx_cons, List.zipIdx_nil, List.forIn_cons, List.forIn_nil]
  refine wpAny_bind (wpAny_bind (wpAny_onRaise ?_))
  show wpAny _ _ (Builtin.SmallTypes.nextOf (.ref i1) >>= _) _ _ _
  refine wpAny_bind (nextOf_item (h1.at (fun o e => k1.extBut _ o D.i1z e) fun o e => k1.extBut _ o D.l1z e) D.l1i1 hx fun g2 r2 k2 => wpAny_pure ?_)
  have o2 : IsPair g2 TO a b := k2.extBut _ _ D.TOi1 (k1.extBut _ _ D.TOz hTO)
  refine wpAny_bind (wpAny_seqItems o2 rfl ?_)
  refine wpAny_bind (wpAny_updateSeq_pair o2 fun g3 o3 k3 => ?_)
  replace o3 : IsPair g3 TO x b := o3
  refine wpAny_bind (wpAny_letGo (wpAny_pure ?_))
  refine wpAny_bind (wpAny_bind (wpAny_onRaise ?_))
  show wpAny _ _ (Builtin.SmallTypes.nextOf (.ref i2) >>= _) _ _ _
  refine wpAny_bind (nextOf_item (h2.at (fun o e => k3.extBut _ o D.TOi2.symm (k2.extBut _ o D.i12.symm (k1.extBut _ o D.i2z e))) fun o e => k3.extBut _ o D.l2TO (k2.extBut _ o D.l2i1 (k1.extBut _ o D.l2z e))) D.l2i2 hy fun g4 r4 k4 => wpAny_pure ?_)
  have o4 : IsPair g4 TO x b := k4.extBut _ _ D.TOi2 o3
  refine wpAny_bind (wpAny_seqItems o4 rfl ?_)
  refine wpAny_bind (wpAny_updateSeq_pair o4 fun g5 o5 k5 => ?_)
  replace o5 : IsPair g5 TO x y := o5
  refine wpAny_bind (wpAny_letGo (wpAny_pure (wpAny_pure ?_)))
  refine wpAny_bind (wpAny_seqItems o5 rfl ?_)
  refine wpAny_bind (wpAny_newTuple ?_)
  have sz : g5.objs.size = s.heap.objs.size := by rw [k5.1, k4.1, k3.1, k2.1, k1.1]
  have z5 : ZipAt g5 z TI TO .ellipsis (.bool false) := k5.extBut _ _ D.TOz.symm (k4.extBut _ _ D.i2z.symm (k3.extBut _ _ D.TOz.symm (k2.extBut _ _ D.i1z.symm z1)))
  have q5 : ∀ c o, c ≠ z → c ≠ TO → c ≠ i1 → c ≠ i2 → s.heap.get? c = some o → g5.get? c = some o := fun c o c1 c2 c3 c4 e =>
    k5.extBut _ _ c2 (k4.extBut _ _ c4 (k3.extBut _ _ c2 (k2.extBut _ _ c3 (k1.extBut _ _ c1 e))))
  have p1 : RwIt g5 i1 l1 xs (k + 1) := r2.at (fun o e => k5.extBut _ o D.TOi1.symm (k4.extBut _ o D.i12 (k3.extBut _ o D.TOi1.symm e))) fun o e => k5.extBut _ o D.l1TO (k4.extBut _ o D.l1i2 (k3.extBut _ o D.l1TO e))
  have p2 : RwIt g5 i2 l2 ys (k + 1) := r4.at (fun o e => k5.extBut _ o D.TOi2.symm e) fun o e => k5.extBut _ o D.l2TO e
  have zl : z < g5.objs.size := Heap.lt_size z5
  show wpAny _ _ (Builtin.SmallTypes.ownedTupleHandOut (.ref z) (.ref g5.objs.size) >>= _) _ _ _
  refine wpAny_bind ?_
  unfold Builtin.SmallTypes.ownedTupleHandOut
  have z6 : ZipAt (g5.push { cls := .type "tuple", data := .seq #[x, y] }) z TI TO .ellipsis (.bool false) := Heap.get?_push_of_some _ z5
  refine wpAny_bind (wpAny_setField_rec z6 (by simp) fun g7 z7 k7 => ?_)
  replace z7 : ZipAt g7 z TI TO (rawInt g5.objs.size) (.bool false) := z7
  refine wpAny_setField_rec z7 (by simp) fun g8 z8 k8 => ?_
  replace z8 : ZipAt g8 z TI TO (rawInt g5.objs.size) (.bool false) := z8
  have up : ∀ c o, c ≠ z → g5.get? c = some o → g8.get? c = some o := fun c o c1 e => k8.extBut _ _ c1 (k7.extBut _ _ c1 (Heap.get?_push_of_some _ e))
  have t8 : IsPair g8 g5.objs.size x y := k8.extBut _ _ (Nat.ne_of_gt zl) (k7.extBut _ _ (Nat.ne_of_gt zl) (Heap.get?_push_size _ rfl))
  rw [sz] at z8 t8
  refine wpAny_pure ⟨_, rfl, ?_⟩
  show Q (.ref g5.objs.size) _
  rw [sz]
  exact hQ g8 z8 (p1.at (fun o e => up _ o D.i1z e) fun o e => up _ o D.l1z e) (p2.at (fun o e => up _ o D.i2z e) fun o e => up _ o D.l2z e) t8 fun c o c1 c2 c3 c4 e => up c o c1 (q5 c o c1 c2 c3 c4 e)

theorem zipA_end {a b : Value} {Q : Fin → Shared → Prop} (hh : A.handled = none) (D : ZipApart z TI TO i1 i2 l1 l2)
    (hz : ZipAt s.heap z TI TO .none (.bool false)) (hTI : IsPair s.heap TI (.ref i1) (.ref i2)) (hTO : IsPair s.heap TO a b) (h1 : RwIt s.heap i1 l1 xs k) (h2 : RwIt s.heap i2 l2 ys k) (hend : xs[k]? = none ∨ ys[k]? = none)
    (hE : ∀ h' e, (∀ c o, c ≠ z → c ≠ TO → c ≠ i1 → c ≠ i2 → s.heap.get? c = some o → h'.get? c = some o) → (∃ o, h'.get? e = some o ∧ o.cls = .type "StopIteration") → E (.ref e) { s with heap := h' }) :
    wpAny (model prog w) A (Builtin.«zip.__next__» ⟨[.ref z], []⟩) Q E s := by
  show wpAny _ _ (field (.ref z) 2 >>= _) _ _ _
  refine wpAny_bind (wpAny_field hz rfl (x := .bool false) rfl ?_)
  show wpAny _ _ (field (.ref z) 3 >>= _) _ _ _
  refine wpAny_bind (wpAny_field hz rfl (x := .ref TI) rfl ?_)
  refine wpAny_bind (wpAny_seqItems hTI rfl ?_)
  show wpAny _ _ (Builtin.SmallTypes.ownedTupleIsFree (.ref z) >>= _) _ _ _
  refine wpAny_bind ?_
  unfold Builtin.SmallTypes.ownedTupleIsFree
  refine wpAny_bind (wpAny_field hz rfl (x := .none) rfl (wpAny_pure ?_))
  simp only [if_true]
  refine wpAny_bind (wpAny_rule ?_)
  refine wpAny_bind (wpAny_field hz rfl (x := .ref TO) rfl ?_)
  refine wpAny_bind (wpAny_setField_rec hz (by simp) fun g1 z1 k1 => ?_)
  replace z1 : ZipAt g1 z TI TO .ellipsis (.bool false) := z1
  refine wpAny_bind ?_
  simp only [List.zipIdx_cons, List.zipIdx_nil, List.forIn_cons, List.forIn_nil]
  refine wpAny_bind (wpAny_bind (wpAny_onRaise ?_))
  show wpAny _ _ (Builtin.SmallTypes.nextOf (.ref i1) >>= _) _ _ _
  cases hx : xs[k]? with
  | none =>
    refine wpAny_bind (nextOf_end hh (h1.at (fun o e => k1.extBut _ o D.i1z e) fun o e => k1.extBut _ o D.l1z e) hx fun g2 e k2 he => ?_)
    obtain ⟨oe, hoe, hce⟩ := he
    have z2 : ZipAt g2 z TI TO .ellipsis (.bool false) := k2 _ _ D.i1z.symm z1
    have hez : e ≠ z := fun x => by subst x; rw [z2] at hoe; cases hoe; simp at hce
    exact wpAny_setField_rec z2 (by simp) fun g3 _ k3 => hE g3 e (fun c o c1 _ c3 _ x => k3.extBut _ _ c1 (k2 _ _ c3 (k1.extBut _ _ c1 x))) ⟨oe, k3.extBut _ _ hez hoe, hce⟩
  | some x =>
    have hy : ys[k]? = none := by
      rcases hend with h | h
      · rw [hx] at h; cases h
      · exact h
    refine wpAny_bind (nextOf_item (h1.at (fun o e => k1.extBut _ o D.i1z e) fun o e => k1.extBut _ o D.l1z e) D.l1i1 hx fun g2 r2 k2 => wpAny_pure ?_)
    have o2 : IsPair g2 TO a b := k2.extBut _ _ D.TOi1 (k1.extBut _ _ D.TOz hTO)
    refine wpAny_bind (wpAny_seqItems o2 rfl ?_)
    refine wpAny_bind (wpAny_updateSeq_pair o2 fun g3 o3 k3 => ?_)
    refine wpAny_bind (wpAny_letGo (wpAny_pure ?_))
    refine wpAny_bind (wpAny_bind (wpAny_onRaise ?_))
    show wpAny _ _ (Builtin.SmallTypes.nextOf (.ref i2) >>= _) _ _ _
    refine wpAny_bind (nextOf_end hh (h2.at (fun o e => k3.extBut _ o D.TOi2.symm (k2.extBut _ o D.i12.symm (k1.extBut _ o D.i2z e))) fun o e => k3.extBut _ o D.l2TO (k2.extBut _ o D.l2i1 (k1.extBut _ o D.l2z e))) hy fun g4 e k4 he => ?_)
    obtain ⟨oe, hoe, hce⟩ := he
    have z4 : ZipAt g4 z TI TO .ellipsis (.bool false) := k4 _ _ D.i2z.symm (k3.extBut _ _ D.TOz.symm (k2.extBut _ _ D.i1z.symm z1))
    have hez : e ≠ z := fun x => by subst x; rw [z4] at hoe; cases hoe; simp at hce
    exact wpAny_setField_rec z4 (by simp) fun g5 _ k5 => hE g5 e (fun c o c1 c2 c3 c4 x => k5.extBut _ _ c1 (k4 _ _ c4 (k3.extBut _ _ c2 (k2.extBut _ _ c3 (k1.extBut _ _ c1 x))))) ⟨oe, k5.extBut _ _ hez hoe, hce⟩
end
end DL

namespace DL
open PySem PySem.Spec L2
section
variable {prog : Program} {w : World} {A : Around} {E : Value → Shared → Prop} {s : Shared}
variable {z TI TO i1 i2 l1 l2 : Addr} {xs ys : Array Value} {k : Nat}
theorem alive {a : Addr} {o : Obj} {Q : Option Obj → Shared → Prop} (ho : s.heap.get? a = some o) (h : Q (some o) s) : wpAny (model prog w) A (loadIfAlive a) Q E s := by
  have h' : Q (s.heap.get? a) s := by rw [ho]; exact h
  exact fun _ _ _ => h'
/-- a later draw: the tuple that was handed out is still there -/
theorem zip_free {T : Addr} {f : Bool} {oT : Obj} {Q : Bool → Shared → Prop} (hz : ZipAt s.heap z TI TO (rawInt T) (.bool f)) (hT : s.heap.get? T = some oT)
    (hQ : ∀ h', ZipAt h' z TI TO (rawInt T) (.bool true) → Heap.SameBut z s.heap h' → Q false { s with heap := h' }) : wpAny (model prog w) A (Builtin.SmallTypes.ownedTupleIsFree (.ref z)) Q E s := by
  unfold Builtin.SmallTypes.ownedTupleIsFree
  refine wpAny_bind (wpAny_field hz rfl (x := rawInt T) rfl ?_)
  show wpAny _ _ (loadIfAlive ((T : Int).toNat) >>= _) _ _ _
  rw [Int.toNat_natCast]
  refine wpAny_bind (alive hT ?_)
  simp only [Option.isNone_some, Bool.false_eq_true, if_false]
  refine wpAny_bind (wpAny_field hz rfl (x := .bool f) rfl ?_)
  cases f with
  | true =>
    rw [if_neg (show ¬ ((Value.bool true != Value.bool true) = true) from Bool.false_ne_true)]
    exact wpAny_pure (hQ s.heap hz (Heap.SameBut.refl _ _))
  | false =>
    rw [if_pos (show (Value.bool false != Value.bool true) = true from rfl)]
    exact wpAny_bind (wpAny_setField_rec hz (by simp) fun g gz gk => wpAny_pure (hQ g gz gk))

theorem zipB_item {x y : Value} {T : Addr} {f : Bool} {oT : Obj} {Q : Value → Shared → Prop} (D : ZipApart z TI TO i1 i2 l1 l2)
    (hz : ZipAt s.heap z TI TO (rawInt T) (.bool f)) (hT : s.heap.get? T = some oT) (hTI : IsPair s.heap TI (.ref i1) (.ref i2)) (h1 : RwIt s.heap i1 l1 xs k) (h2 : RwIt s.heap i2 l2 ys k) (hx : xs[k]? = some x) (hy : ys[k]? = some y)
    (hQ : ∀ h', ZipAt h' z TI TO (rawInt T) (.bool true) → RwIt h' i1 l1 xs (k + 1) → RwIt h' i2 l2 ys (k + 1) → IsPair h' s.heap.objs.size x y →
      (∀ c o, c ≠ z → c ≠ TO → c ≠ i1 → c ≠ i2 → s.heap.get? c = some o → h'.get? c = some o) → Q (.ref s.heap.objs.size) { s with heap := h' }) :
    wpAny (model prog w) A (Builtin.«zip.__next__» ⟨[.ref z], []⟩) (fun fin s' => ∃ v, fin = .done (.ret v) ∧ Q v s') E s := by
  show wpAny _ _ (field (.ref z) 2 >>= _) _ _ _
  refine wpAny_bind (wpAny_field hz rfl (x := .bool false) rfl ?_)
  show wpAny _ _ (field (.ref z) 3 >>= _) _ _ _
  refine wpAny_bind (wpAny_field hz rfl (x := .ref TI) rfl ?_)
  refine wpAny_bind (wpAny_seqItems hTI rfl ?_)
  show wpAny _ _ (Builtin.SmallTypes.ownedTupleIsFree (.ref z) >>= _) _ _ _
  refine wpAny_bind (zip_free hz hT fun g1 z1 k1 => ?_)
  simp only [Bool.false_eq_true, if_false]
  simp only [List.forIn_toArray, List.forIn_cons, List.forIn_nil]
  refine wpAny_bind (wpAny_bind (wpAny_bind (wpAny_holding ?_)))
  show wpAny _ _ (Builtin.SmallTypes.nextOf (.ref i1) >>= _) _ _ _
  refine wpAny_bind (nextOf_item (h1.at (fun o e => k1.extBut _ o D.i1z e) fun o e => k1.extBut _ o D.l1z e) D.l1i1 hx fun g2 r2 k2 => wpAny_pure ?_)
  refine wpAny_pure ?_
  refine wpAny_bind (wpAny_bind (wpAny_holding ?_))
  show wpAny _ _ (Builtin.SmallTypes.nextOf (.ref i2) >>= _) _ _ _
  refine wpAny_bind (nextOf_item (h2.at (fun o e => k2.extBut _ o D.i12.symm (k1.extBut _ o D.i2z e)) fun o e => k2.extBut _ o D.l2i1 (k1.extBut _ o D.l2z e)) D.l2i2 hy fun g4 r4 k4 => wpAny_pure ?_)
  refine wpAny_pure (wpAny_pure ?_)
  show wpAny _ _ (newTuple [x, y] >>= _) _ _ _
  refine wpAny_bind (wpAny_newTuple (items := [x, y]) ?_ (show 2 ≤ sizeLine by decide))
  have sz : g4.objs.size = s.heap.objs.size := by rw [k4.1, k2.1, k1.1]
  have q4 : ∀ c o, c ≠ z → c ≠ i1 → c ≠ i2 → s.heap.get? c = some o → g4.get? c = some o := fun c o c1 c3 c4 e => k4.extBut _ _ c4 (k2.extBut _ _ c3 (k1.extBut _ _ c1 e))
  refine wpAny_pure ⟨_, rfl, ?_⟩
  show Q (.ref g4.objs.size) _
  rw [sz]
  refine hQ _ (Heap.get?_push_of_some _ (k4.extBut _ _ D.i2z.symm (k2.extBut _ _ D.i1z.symm z1)))
    (r2.at (fun o e => Heap.get?_push_of_some _ (k4.extBut _ o D.i12 e)) fun o e => Heap.get?_push_of_some _ (k4.extBut _ o D.l1i2 e))
    (r4.at (fun o e => Heap.get?_push_of_some _ e) fun o e => Heap.get?_push_of_some _ e) ?_ fun c o c1 c2 c3 c4 e => Heap.get?_push_of_some _ (q4 c o c1 c3 c4 e)
  rw [← sz]
  exact Heap.get?_push_size _ rfl

theorem zipB_end {T : Addr} {f : Bool} {oT : Obj} {Q : Fin → Shared → Prop} (hh : A.handled = none) (D : ZipApart z TI TO i1 i2 l1 l2)
    (hz : ZipAt s.heap z TI TO (rawInt T) (.bool f)) (hT : s.heap.get? T = some oT) (hTI : IsPair s.heap TI (.ref i1) (.ref i2)) (h1 : RwIt s.heap i1 l1 xs k) (h2 : RwIt s.heap i2 l2 ys k) (hend : xs[k]? = none ∨ ys[k]? = none)
    (hE : ∀ h' e, (∀ c o, c ≠ z → c ≠ TO → c ≠ i1 → c ≠ i2 → s.heap.get? c = some o → h'.get? c = some o) → (∃ o, h'.get? e = some o ∧ o.cls = .type "StopIteration") → E (.ref e) { s with heap := h' }) :
    wpAny (model prog w) A (Builtin.«zip.__next__» ⟨[.ref z], []⟩) Q E s := by
  show wpAny _ _ (field (.ref z) 2 >>= _) _ _ _
  refine wpAny_bind (wpAny_field hz rfl (x := .bool false) rfl ?_)
  show wpAny _ _ (field (.ref z) 3 >>= _) _ _ _
  refine wpAny_bind (wpAny_field hz rfl (x := .ref TI) rfl ?_)
  refine wpAny_bind (wpAny_seqItems hTI rfl ?_)
  show wpAny _ _ (Builtin.SmallTypes.ownedTupleIsFree (.ref z) >>= _) _ _ _
  refine wpAny_bind (zip_free hz hT fun g1 z1 k1 => ?_)
  simp only [Bool.false_eq_true, if_false]
  simp only [List.forIn_toArray, List.forIn_cons, List.forIn_nil]
  refine wpAny_bind (wpAny_bind (wpAny_bind (wpAny_holding ?_)))
  show wpAny _ _ (Builtin.SmallTypes.nextOf (.ref i1) >>= _) _ _ _
  cases hx : xs[k]? with
  | none =>
    refine wpAny_bind (nextOf_end hh (h1.at (fun o e => k1.extBut _ o D.i1z e) fun o e => k1.extBut _ o D.l1z e) hx fun g2 e k2 he => ?_)
    exact hE g2 e (fun c o c1 _ c3 _ x => k2 _ _ c3 (k1.extBut _ _ c1 x)) he
  | some x =>
    have hy : ys[k]? = none := by
      rcases hend with h | h
      · rw [hx] at h; cases h
      · exact h
    refine wpAny_bind (nextOf_item (h1.at (fun o e => k1.extBut _ o D.i1z e) fun o e => k1.extBut _ o D.l1z e) D.l1i1 hx fun g2 r2 k2 => wpAny_pure ?_)
    refine wpAny_pure ?_
    refine wpAny_bind (wpAny_bind (wpAny_holding ?_))
    show wpAny _ _ (Builtin.SmallTypes.nextOf (.ref i2) >>= _) _ _ _
    refine wpAny_bind (nextOf_end hh (h2.at (fun o e => k2.extBut _ o D.i12.symm (k1.extBut _ o D.i2z e)) fun o e => k2.extBut _ o D.l2i1 (k1.extBut _ o D.l2z e)) hy fun g4 e k4 he => ?_)
    exact hE g4 e (fun c o c1 c2 c3 c4 x => k4 _ _ c4 (k2.extBut _ _ c3 (k1.extBut _ _ c1 x))) he

/-- where the walk of a zip stands; S is the list that is being filled -/
structure ZSt (h : Heap) (z TI TO i1 i2 l1 l2 S : Addr) (xs ys : Array Value) (k : Nat) : Prop where
  ti : IsPair h TI (.ref i1) (.ref i2)
  r1 : RwIt h i1 l1 xs k
  r2 : RwIt h i2 l2 ys k
  zz : (ZipAt h z TI TO .none (.bool false) ∧ ∃ a b, IsPair h TO a b) ∨ ∃ (T : Addr) (f : Bool) (oT : Obj), ZipAt h z TI TO (rawInt T) (.bool f) ∧ h.get? T = some oT ∧ T ≠ z ∧ T ≠ TO ∧ T ≠ i1 ∧ T ≠ i2 ∧ T ≠ S
theorem pyNext_zip_item {S : Addr} {x y : Value} {Q : Option Value → Shared → Prop} (D : ZipApart z TI TO i1 i2 l1 l2) (st : ZSt s.heap z TI TO i1 i2 l1 l2 S xs ys k) (hS : S < s.heap.objs.size) (hTO : TO < s.heap.objs.size) (hx : xs[k]? = some x) (hy : ys[k]? = some y)
    (hQ : ∀ h', ZSt h' z TI TO i1 i2 l1 l2 S xs ys (k + 1) → IsPair h' s.heap.objs.size x y → (∀ c o, c ∉ [z, TO, i1, i2] → s.heap.get? c = some o → h'.get? c = some o) → Q (some (.ref s.heap.objs.size)) { s with heap := h' }) :
    wpAny (model prog w) A (pyNext (.ref z)) Q E s := by
  obtain ⟨ti, r1, r2, zz⟩ := st
  have K : ∀ {h' : Heap}, (∀ c o, c ≠ z → c ≠ TO → c ≠ i1 → c ≠ i2 → s.heap.get? c = some o → h'.get? c = some o) → ∀ c o, c ∉ [z, TO, i1, i2] → s.heap.get? c = some o → h'.get? c = some o := fun k c o hc e => by
    simp only [List.mem_cons, List.not_mem_nil, or_false, not_or] at hc
    exact k c o hc.1 hc.2.1 hc.2.2.1 hc.2.2.2 e
  unfold pyNext
  rcases zz with ⟨hz, a, b, ho⟩ | ⟨T, f, oT, hz, hT, t1, t2, t3, t4, t5⟩
  · have tz : s.TypeIs (.ref z) "zip" := ⟨_, hz, rfl⟩
    exact wpAny_bind (wpAny_attempt (wpAny_callSpecial?_slot (name := Str.ofString "__next__") tz PySem.F.slot_zip_next (wpAny_call_entry PySem.F.slot_zip_next tz PySem.F.entry_zip_next
      (zipA_item D hz ti ho r1 r2 hx hy fun h' a1 a2 a3 a4 a5 => wpAny_pure (hQ h' ⟨a5 _ _ D.TIz D.TITO D.TIi1 D.TIi2 ti, a2, a3, .inr ⟨_, _, _, a1, a4, Nat.ne_of_gt (Heap.lt_size hz), Nat.ne_of_gt hTO, Nat.ne_of_gt r1.lt, Nat.ne_of_gt r2.lt, Nat.ne_of_gt hS⟩⟩ a4 (K a5))) (PySem.F.args_zip_next_1 _))))
  · have tz : s.TypeIs (.ref z) "zip" := ⟨_, hz, rfl⟩
    exact wpAny_bind (wpAny_attempt (wpAny_callSpecial?_slot (name := Str.ofString "__next__") tz PySem.F.slot_zip_next (wpAny_call_entry PySem.F.slot_zip_next tz PySem.F.entry_zip_next
      (zipB_item D hz hT ti r1 r2 hx hy fun h' a1 a2 a3 a4 a5 => wpAny_pure (hQ h' ⟨a5 _ _ D.TIz D.TITO D.TIi1 D.TIi2 ti, a2, a3, .inr ⟨T, true, oT, a1, a5 _ _ t1 t2 t3 t4 hT, t1, t2, t3, t4, t5⟩⟩ a4 (K a5))) (PySem.F.args_zip_next_1 _))))
theorem pyNext_zip_end {S : Addr} {Q : Option Value → Shared → Prop} (hh : A.handled = none) (D : ZipApart z TI TO i1 i2 l1 l2) (st : ZSt s.heap z TI TO i1 i2 l1 l2 S xs ys k) (hend : xs[k]? = none ∨ ys[k]? = none)
    (hQ : ∀ h', (∀ c o, c ∉ [z, TO, i1, i2] → s.heap.get? c = some o → h'.get? c = some o) → Q none { s with heap := h' }) : wpAny (model prog w) A (pyNext (.ref z)) Q E s := by
  obtain ⟨ti, r1, r2, zz⟩ := st
  have K : ∀ {h' : Heap}, (∀ c o, c ≠ z → c ≠ TO → c ≠ i1 → c ≠ i2 → s.heap.get? c = some o → h'.get? c = some o) → ∀ c o, c ∉ [z, TO, i1, i2] → s.heap.get? c = some o → h'.get? c = some o := fun k c o hc e => by
    simp only [List.mem_cons, List.not_mem_nil, or_false, not_or] at hc
    exact k c o hc.1 hc.2.1 hc.2.2.1 hc.2.2.2 e
  unfold pyNext
  rcases zz with ⟨hz, a, b, ho⟩ | ⟨T, f, oT, hz, hT, t1, t2, t3, t4, t5⟩
  · have tz : s.TypeIs (.ref z) "zip" := ⟨_, hz, rfl⟩
    refine wpAny_bind (wpAny_attempt (wpAny_callSpecial?_slot (name := Str.ofString "__next__") tz PySem.F.slot_zip_next (wpAny_call_entry PySem.F.slot_zip_next tz PySem.F.entry_zip_next (zipA_end hh D hz ti ho r1 r2 hend fun h' e hk he => ?_) (PySem.F.args_zip_next_1 _))))
    obtain ⟨o, ho, hc⟩ := he
    refine wpAny_bind (wpAny_isInstance (T := "StopIteration") (b := true) ⟨o, ho, hc⟩ isSubtype_stop ?_)
    exact wpAny_pure (hQ _ (K hk))
  · have tz : s.TypeIs (.ref z) "zip" := ⟨_, hz, rfl⟩
    refine wpAny_bind (wpAny_attempt (wpAny_callSpecial?_slot (name := Str.ofString "__next__") tz PySem.F.slot_zip_next (wpAny_call_entry PySem.F.slot_zip_next tz PySem.F.entry_zip_next (zipB_end hh D hz hT ti r1 r2 hend fun h' e hk he => ?_) (PySem.F.args_zip_next_1 _))))
    obtain ⟨o, ho, hc⟩ := he
    refine wpAny_bind (wpAny_isInstance (T := "StopIteration") (b := true) ⟨o, ho, hc⟩ isSubtype_stop ?_)
    exact wpAny_pure (hQ _ (K hk))
end
end DL

namespace DL
open PySem PySem.Spec L2
/-- an iterator I walked into a new list S: n items, the j-th as P j tells, of the heap; it writes nothing but wr and what is new -/
structure LW (prog : Program) (w : World) (A : Around) (I S : Addr) (wr : List Addr) (n : Nat) (P : Nat → Value → Heap → Prop) (St : Nat → Heap → Prop) : Prop where
  item : ∀ (i : Nat) (s : Shared) (Q : Option Value → Shared → Prop) (E : Value → Shared → Prop), i < n → St i s.heap → S < s.heap.objs.size →
    (∀ v h', P i v h' → St (i + 1) h' → (∀ j u, P j u s.heap → u ≠ v) → (∀ b o, b ∉ wr → s.heap.get? b = some o → h'.get? b = some o) → Q (some v) { s with heap := h' }) → wpAny (model prog w) A (pyNext (.ref I)) Q E s
  done : ∀ (s : Shared) (Q : Option Value → Shared → Prop) (E : Value → Shared → Prop), St n s.heap → (∀ h', (∀ b o, b ∉ wr → s.heap.get? b = some o → h'.get? b = some o) → Q none { s with heap := h' }) → wpAny (model prog w) A (pyNext (.ref I)) Q E s
  stay : ∀ i h h', St i h → (∀ b o, b ≠ S → h.get? b = some o → h'.get? b = some o) → St i h'
  pay : ∀ i v h h', P i v h → (∀ b o, b ≠ S → b ∉ wr → h.get? b = some o → h'.get? b = some o) → P i v h'
  self : ∀ (A : Around) (s : Shared) (Q : Value → Shared → Prop) (E : Value → Shared → Prop), St 0 s.heap → Q (.ref I) s → wpAny (model prog w) A (pyIter (.ref I)) Q E s
  out : S ∉ wr
section
variable {prog : Program} {w : World} {A : Around} {I S : Addr} {wr : List Addr} {n : Nat} {P : Nat → Value → Heap → Prop} {St : Nat → Heap → Prop} {s : Shared} {R : Result → Shared → Prop}
/-- the items so far -/
def Got (P : Nat → Value → Heap → Prop) (h : Heap) (acc : Array Value) (i : Nat) : Prop := acc.size = i ∧ (∀ j v, acc[j]? = some v → P j v h) ∧ acc.toList.Nodup
abbrev LstAt (h : Heap) (S : Addr) (acc : Array Value) (c : Nat) : Prop := h.get? S = some { cls := .type "list", dict := none, data := .seq acc c, slots := #[] }
theorem lw_loop (W : LW prog w A.in1 I S wr n P St) (hn : n ≤ sizeLine) (res : Value) {h₁ : Heap}
    (hR : ∀ h' acc c, (∀ b o, b ≠ S → b ∉ wr → h₁.get? b = some o → h'.get? b = some o) → LstAt h' S acc c → Got P h' acc n → R (.ok (.ret res)) { s with heap := h' }) :
    ∀ (k i : Nat) (h : Heap) (c : Nat) (acc : Array Value), n - i = k → i ≤ n → St i h → (∀ b o, b ≠ S → b ∉ wr → h₁.get? b = some o → h.get? b = some o) → LstAt h S acc c → Got P h acc i →
      codeAny (model prog w) A (.builtin "list.extend.loop" ⟨[.ref S, .ref I, res], []⟩) R { s with heap := h } := by
  intro k
  induction k with
  | zero =>
    intro i h c acc hk hi hst kp hS hG
    have e : i = n := by omega
    subst e
    refine codeAny_builtin PySem.F.entry_extend_loop ?_
    rw [Around.under_plainId PySem.F.plain_extend_loop _]
    show wpAny _ A.in1 (pyNext (.ref I) >>= _) _ _ _
    refine wpAny_bind (W.done { s with heap := h } _ _ hst fun h' he => ?_)
    exact wpAny_pure (hR h' acc c (fun b o h1 h2 e => he b o h2 (kp b o h1 h2 e)) (he S _ W.out hS) ⟨hG.1, fun j v e => W.pay j v h h' (hG.2.1 j v e) fun b o _ h2 e => he b o h2 e, hG.2.2⟩)
  | succ k ih =>
    intro i h c acc hk hi hst kp hS hG
    have hlt : i < n := by omega
    refine codeAny_builtin PySem.F.entry_extend_loop ?_
    rw [Around.under_plainId PySem.F.plain_extend_loop _]
    show wpAny _ A.in1 (pyNext (.ref I) >>= _) _ _ _
    refine wpAny_bind (W.item i { s with heap := h } _ _ hlt hst (Heap.lt_size hS) fun v h' hP hst' hne he => ?_)
    dsimp only at he hne ⊢
    have hS' : LstAt h' S acc c := he S _ W.out hS
    have up : ∀ b o, b ≠ S → h'.get? b = some o → (h'.update S (Obj.mapSeq (·.push v))).get? b = some o := fun b o hb e => (Heap.get?_update_other _ _ (Ne.symm hb)).trans e
    show wpAny _ A.in1 (updateSeq S (·.push v) >>= _) _ _ _
    refine wpAny_bind ?_
    have hsz := hG.1
    refine wpAny_updateSeq hS' rfl (wpAny_pure ⟨plainId_quiet PySem.F.plain_extend_loop _, ih (i + 1) _ _ (acc.push v) (by omega) hlt (W.stay _ h' _ hst' up)
      (fun b o h1 h2 e => up b o h1 (he b o h2 (kp b o h1 h2 e))) (Heap.get?_update_self _ hS' rfl) ⟨by rw [Array.size_push, hsz], fun j x hj => ?_, ?_⟩⟩) (by rw [hsz]; omega) (by show (acc.push v).size ≤ sizeLine + 1; rw [Array.size_push, hsz]; omega)
    · rw [Array.getElem?_push] at hj
      split at hj
      · rename_i e
        cases hj
        rw [e, hsz]
        exact W.pay i v h' _ hP fun b o h1 _ e => up b o h1 e
      · exact W.pay j x h _ (hG.2.1 j x hj) fun b o h1 h2 e => up b o h1 (he b o h2 e)
    · rw [Array.toList_push]
      refine List.nodup_append.mpr ⟨hG.2.2, by simp, fun a ha b hb => ?_⟩
      have e : b = v := by simpa using hb
      subst e
      obtain ⟨j, hj⟩ := List.mem_iff_getElem?.mp ha
      exact hne j a (hG.2.1 j a (by simpa using hj))

theorem lw_extend {T : String} (W : LW prog w A.in1 I S wr n P St) (hn : n ≤ sizeLine) (hT : s.TypeIs (.ref I) T) (hl : (Value.type T == Value.type "list") = false) (ht : (Value.type T == Value.type "tuple") = false)
    (nl : typeLookup (.type T) "__len__" = pure none) (nh : typeLookup (.type T) "__length_hint__" = pure none) (hst : St 0 s.heap) (hSI : S ≠ I) (res : Value) (c₀ : Nat) (hS : LstAt s.heap S #[] c₀)
    (hR : ∀ h' acc c, (∀ b o, b ≠ S → b ∉ wr → s.heap.get? b = some o → h'.get? b = some o) → LstAt h' S acc c → Got P h' acc n → R (.ok (.ret res)) { s with heap := h' }) :
    wpAny (model prog w) A.in1 (Builtin.List.listExtendWith (.ref S) (.ref I) res)
      (fun fin s' => match fin with | .done f => R (.ok f) s' | .again c' => c'.quiet = true ∧ codeAny (model prog w) A c' R s') (fun e s' => R (.error e) s') s := by
  have key : ∀ (h : Heap) (c₁ : Nat), (∀ b o, b ≠ S → s.heap.get? b = some o → h.get? b = some o) → LstAt h S #[] c₁ →
      codeAny (model prog w) A (.builtin "list.extend.loop" ⟨[.ref S, .ref I, res], []⟩) R { s with heap := h } := fun h c₁ hk hS₁ =>
    lw_loop (h₁ := s.heap) W hn res hR n 0 h c₁ #[] (Nat.sub_zero _) (Nat.zero_le _) (W.stay 0 _ h hst hk) (fun b o h1 _ e => hk b o h1 e) hS₁ ⟨rfl, fun j v e => by simp at e, by simp⟩
  unfold Builtin.List.listExtendWith
  refine wpAny_bind (wpAny_typeOf hT ?_)
  have h1 : Builtin.List.listSameRef (.ref S) (.ref I) = false := by simp [Builtin.List.listSameRef, hSI]
  simp only [h1, hl, ht, Bool.or_false, Bool.false_eq_true, if_false]
  refine wpAny_bind (W.self _ _ _ _ hst ?_)
  refine wpAny_bind (wpAny_holding ?_)
  unfold Builtin.List.listLengthHint
  refine wpAny_bind (wpAny_specialOf hT nl ?_)
  show wpAny _ A.in1 (specialOf (Value.ref I) (Str.ofString "__length_hint__") >>= _) _ _ _
  refine wpAny_bind (wpAny_specialOf hT nh ?_)
  refine wpAny_pure ?_
  show wpAny _ A.in1 (rule "list.extend.makes-room" >>= fun _ => Builtin.List.listTouch (.ref S) >>= fun _ =>
    again (.builtin "list.extend.loop" ⟨[.ref S, .ref I, res], []⟩)) _ _ _
  refine wpAny_bind (wpAny_rule ?_)
  refine wpAny_bind ?_
  show wpAny _ A.in1 (updateSeq S (·.push .none) >>= fun _ => updateSeq S (·.pop)) _ _ _
  refine wpAny_bind (wpAny_updateSeq hS rfl ?_)
  have hS₂ := Heap.get?_update_self (Obj.mapSeq (·.push Value.none)) hS rfl
  refine wpAny_updateSeq (hz := by seq_fits) hS₂ rfl ?_
  have hS₃ := Heap.get?_update_self (Obj.mapSeq (·.pop)) hS₂ rfl
  refine wpAny_pure ⟨plainId_quiet PySem.F.plain_extend_loop _, key _ _ (fun b o hb e => ?_) hS₃⟩
  exact (Heap.get?_update_other _ _ (Ne.symm hb)).trans ((Heap.get?_update_other _ _ (Ne.symm hb)).trans e)

/-- list(I) -/
theorem lw_call {T : String} {E : Value → Shared → Prop} {Q : Value → Shared → Prop} (W : LW prog w A.in1.in1 I s.heap.objs.size wr n P St) (hn : n ≤ sizeLine) (hT : s.TypeIs (.ref I) T) (hl : (Value.type T == Value.type "list") = false) (ht : (Value.type T == Value.type "tuple") = false)
    (nl : typeLookup (.type T) "__len__" = pure none) (nh : typeLookup (.type T) "__length_hint__" = pure none) (hst : St 0 s.heap)
    (hQ : ∀ h' acc c, (∀ b o, b ∉ wr → s.heap.get? b = some o → h'.get? b = some o) → LstAt h' s.heap.objs.size acc c → Got P h' acc n → Q (.ref s.heap.objs.size) { s with heap := h' }) :
    wpAny (model prog w) A (call (.type "list") [.ref I]) Q E s := by
  refine callType_codes (Q₁ := fun obj s₁ => obj = .ref s.heap.objs.size ∧ s₁ = { s with heap := s.heap.push { cls := .type "list", data := .seq #[] } }) PySem.F.called_list (PySem.F.typeCall_list_1 _) PySem.F.entry_list_init
    (code_list_new _ ⟨rfl, rfl⟩) fun obj s₁ h₁ => ?_
  obtain ⟨rfl, rfl⟩ := h₁
  have hS : (s.heap.push { cls := .type "list", data := .seq #[] }).get? s.heap.objs.size = some { cls := .type "list", data := .seq #[] } := Heap.get?_push_size _ rfl
  obtain ⟨oI, hoI, hcI⟩ := id hT
  have hI : I < s.heap.objs.size := Heap.lt_size hoI
  refine ⟨⟨_, hS, rfl⟩, PySem.F.args_list_init_2 _ _, ?_⟩
  show wpAny _ _ (do let old ← Builtin.List.listItems (.ref s.heap.objs.size); Builtin.List.listUpdate (.ref s.heap.objs.size) (fun _ => #[]); letGo old.toList.reverse; Builtin.List.listExtendWith (.ref s.heap.objs.size) (.ref I) .none) _ _ _
  refine wpAny_bind ?_
  unfold Builtin.List.listItems
  refine wpAny_bind (wpAny_seqItems hS rfl (wpAny_pure ?_))
  show wpAny _ _ (updateSeq s.heap.objs.size (fun _ => #[]) >>= fun _ => letGo (#[] : Array Value).toList.reverse >>= fun _ => Builtin.List.listExtendWith (.ref s.heap.objs.size) (.ref I) .none) _ _ _
  refine wpAny_bind (wpAny_updateSeq hS rfl ?_)
  have hS₂ := Heap.get?_update_self (Obj.mapSeq (fun _ => (#[] : Array Value))) hS rfl
  have oth : ∀ b o, b ≠ s.heap.objs.size → s.heap.get? b = some o → ((s.heap.push { cls := .type "list", data := .seq #[] }).update s.heap.objs.size (Obj.mapSeq (fun _ => (#[] : Array Value)))).get? b = some o :=
    fun b o hb e => (Heap.get?_update_other _ _ (Ne.symm hb)).trans (Heap.get?_push_of_some _ e)
  refine wpAny_bind (wpAny_letGo ?_)
  refine lw_extend (A := A.in1) W hn ⟨oI, oth I _ (Nat.ne_of_lt hI) hoI, hcI⟩ hl ht nl nh (W.stay 0 s.heap _ hst oth) (Nat.ne_of_gt hI) .none _ hS₂ fun h' acc c hk hS' hG => ?_
  exact ⟨rfl, hQ h' acc c (fun b o h2 e => hk b o (Nat.ne_of_lt (Heap.lt_size e)) h2 (oth b o (Nat.ne_of_lt (Heap.lt_size e)) e)) hS' hG⟩
end
theorem zip_nolen : typeLookup (.type "zip") "__len__" = pure none := by rw [typeLookup_type, builtinLookup_eq_fast]; kernel_rfl
theorem zip_nohint : typeLookup (.type "zip") "__length_hint__" = pure none := by rw [typeLookup_type, builtinLookup_eq_fast]; kernel_rfl

/-- the walk of a zip -/
theorem lw_zip {prog : Program} {w : World} {A : Around} {z TI TO i1 i2 l1 l2 S : Addr} {xs ys : Array Value} (hh : A.handled = none) (D : ZipApart z TI TO i1 i2 l1 l2) (hTO : TO < S) (hS : S ∉ [z, TI, TO, i1, i2, l1, l2]) (top : ∀ b ∈ [z, TO, i1, i2], b < S) :
    LW prog w A z S [z, TO, i1, i2] (min xs.size ys.size) (fun j v h => ∃ a x y, v = .ref a ∧ S ≤ a ∧ a ≠ S ∧ xs[j]? = some x ∧ ys[j]? = some y ∧ IsPair h a x y) (fun k h => ZSt h z TI TO i1 i2 l1 l2 S xs ys k) where
  item := fun i s Q E hi st hs hQ => by
    have hix : i < xs.size := Nat.lt_of_lt_of_le hi (Nat.min_le_left ..)
    have hiy : i < ys.size := Nat.lt_of_lt_of_le hi (Nat.min_le_right ..)
    exact pyNext_zip_item D st hs (Nat.lt_trans hTO hs) (Array.getElem?_eq_getElem hix) (Array.getElem?_eq_getElem hiy) fun h' a1 a2 a3 => hQ _ h' ⟨_, _, _, rfl, Nat.le_of_lt hs, Nat.ne_of_gt hs, Array.getElem?_eq_getElem hix, Array.getElem?_eq_getElem hiy, a2⟩ a1 (fun j u ⟨a, x, y, e, _, _, _, _, q⟩ z => by
      rw [e] at z; cases z; exact absurd (Heap.lt_size q) (Nat.lt_irrefl _)) a3
  done := fun s Q E st hQ => by
    have hend : xs[min xs.size ys.size]? = none ∨ ys[min xs.size ys.size]? = none := by
      rcases Nat.le_total xs.size ys.size with h | h
      · exact .inl (by rw [Nat.min_eq_left h]; exact Array.getElem?_eq_none (Nat.le_refl _))
      · exact .inr (by rw [Nat.min_eq_right h]; exact Array.getElem?_eq_none (Nat.le_refl _))
    exact pyNext_zip_end hh D st hend hQ
  stay := fun i h h' st k => by
    simp only [List.mem_cons, List.not_mem_nil, or_false, not_or] at hS
    obtain ⟨n1, n2, n3, n4, n5, n6, n7⟩ := hS
    obtain ⟨ti, r1, r2, zz⟩ := st
    refine ⟨k _ _ (Ne.symm n2) ti, r1.at (fun o e => k _ o (Ne.symm n4) e) (fun o e => k _ o (Ne.symm n6) e), r2.at (fun o e => k _ o (Ne.symm n5) e) (fun o e => k _ o (Ne.symm n7) e), ?_⟩
    rcases zz with ⟨hz, a, b, ho⟩ | ⟨T, f, oT, hz, hT, t1, t2, t3, t4, t5⟩
    · exact .inl ⟨k _ _ (Ne.symm n1) hz, a, b, k _ _ (Ne.symm n3) ho⟩
    · exact .inr ⟨T, f, oT, k _ _ (Ne.symm n1) hz, k _ _ t5 hT, t1, t2, t3, t4, t5⟩
  pay := fun i v h h' p k => by
    obtain ⟨a, x, y, e, ha, na, hx, hy, q⟩ := p
    refine ⟨a, x, y, e, ha, na, hx, hy, k _ _ na (fun hb => ?_) q⟩
    exact absurd (Nat.lt_of_lt_of_le (top a hb) ha) (Nat.lt_irrefl _)
  self := fun A s Q E st hQ => by
    have tz : s.TypeIs (.ref z) "zip" := by
      rcases st.zz with ⟨hz, _⟩ | ⟨T, f, oT, hz, _⟩ <;> exact ⟨_, hz, rfl⟩
    refine wpAny_pyIter_slot tz PySem.F.slot_zip_iter (wpAny_call_entry PySem.F.slot_zip_iter tz PySem.F.entry_zip_iter ?_ (PySem.F.args_zip_iter_1 _))
    show wpAny _ _ (ret (.ref z)) _ _ s
    exact wpAny_pure ⟨_, rfl, "zip", _, tz, PySem.F.slot_zip_next.lookup, hQ⟩
  out := fun h => hS (by
    simp only [List.mem_cons, List.not_mem_nil, or_false] at h ⊢
    rcases h with h | h | h | h <;> simp [h])
end DL

namespace DL
open PySem PySem.Spec L2
def rwOb (t : Bool) (l : Addr) : Obj := { cls := .type (if t then "tuple_iterator" else "list_iterator"), data := .fields #[.ref l, .int 0 0] }
def RwB (t : Bool) (h : Heap) (l : Addr) (xs : Array Value) : Prop := if t then h.IsTuple l xs else h.IsList l xs
section
variable {prog : Program} {w : World} {A : Around} {E : Value → Shared → Prop} {s : Shared}
theorem pyIter_row {t : Bool} {l : Addr} {xs : Array Value} {Q : Value → Shared → Prop} (h : RwB t s.heap l xs) (hQ : Q (.ref s.heap.objs.size) { s with heap := s.heap.push (rwOb t l) }) : wpAny (model prog w) A (pyIter (.ref l)) Q E s := by
  cases t with
  | true => exact wpAny_pyIter_tuple h hQ
  | false => exact wpAny_pyIter_list h hQ
end
abbrev zq1 (h : Heap) (t1 : Bool) (l1 : Addr) : Heap := h.push (rwOb t1 l1)
abbrev zq2 (h : Heap) (t1 t2 : Bool) (l1 l2 : Addr) : Heap := (zq1 h t1 l1).push (rwOb t2 l2)
abbrev zq3 (h : Heap) (t1 t2 : Bool) (l1 l2 : Addr) : Heap := (zq2 h t1 t2 l1 l2).push { cls := .type "tuple", data := .seq #[.ref h.objs.size, .ref (zq1 h t1 l1).objs.size] }
abbrev zq4 (h : Heap) (t1 t2 : Bool) (l1 l2 : Addr) : Heap := (zq3 h t1 t2 l1 l2).push { cls := .type "tuple", data := .seq #[.none, .none] }
abbrev zq5 (h : Heap) (t1 t2 : Bool) (l1 l2 : Addr) : Heap := (zq4 h t1 t2 l1 l2).push { cls := .type "zip", data := .fields #[.none, .bool false, .bool false, .ref (zq2 h t1 t2 l1 l2).objs.size, .ref (zq3 h t1 t2 l1 l2).objs.size] }
theorem RwB.push {t : Bool} {h : Heap} {l : Addr} {xs : Array Value} (x : RwB t h l xs) (o : Obj) : RwB t (h.push o) l xs := by
  cases t with
  | true => exact Heap.IsTuple.push x o
  | false => exact Heap.IsList.push x o
theorem meets_zipq (t1 t2 : Bool) (l1 l2 : Addr) (xs ys : Array Value) :
    Meets (Builtin.«zip.__new__» ⟨[.type "zip", .ref l1, .ref l2], []⟩) (fun _ R s => RwB t1 s.heap l1 xs ∧ RwB t2 s.heap l2 ys ∧
      R (.ok (.ret (.ref (zq4 s.heap t1 t2 l1 l2).objs.size))) { s with heap := zq5 s.heap t1 t2 l1 l2 }) :=
  .of_wp fun prog w A R s h => by
    obtain ⟨hp, g, d, tk, os⟩ := s; obtain ⟨hl1, hl2, h⟩ := h
    have hsub := sub_zip
    have hL1 : RwB t1 (Shared.heap ⟨hp, g, d, tk, os⟩) l1 xs := hl1
    have hL2 : RwB t2 (Shared.heap ⟨hp.push (rwOb t1 l1), g, d, tk, os⟩) l2 ys := RwB.push hl2 _
    wp_walk using pyIter_row hL1, pyIter_row hL2
    exact ⟨_, rfl, h⟩
section
variable {prog : Program} {w : World} {A : Around} {E : Value → Shared → Prop} {s : Shared}
theorem RwB.it {t : Bool} {h : Heap} {i l : Addr} {xs : Array Value} (x : RwB t h l xs) (e : h.get? i = some (rwOb t l)) : RwIt h i l xs 0 := by
  cases t with
  | true => exact .inr ⟨⟨_, e, rfl, rfl⟩, x⟩
  | false => exact .inl ⟨⟨_, e, rfl, rfl⟩, x⟩
theorem RwB.at {t : Bool} {h h' : Heap} {l : Addr} {xs : Array Value} (x : RwB t h l xs) (e : ∀ o, h.get? l = some o → h'.get? l = some o) : RwB t h' l xs := by
  cases t with
  | true => obtain ⟨o, q, r⟩ := x; exact ⟨o, e o q, r⟩
  | false => obtain ⟨o, q, r⟩ := x; exact ⟨o, e o q, r⟩
theorem RwB.lt {t : Bool} {h : Heap} {l : Addr} {xs : Array Value} (x : RwB t h l xs) : l < h.objs.size := by
  cases t with
  | true => obtain ⟨o, q, r⟩ := x; exact Heap.lt_size q
  | false => obtain ⟨o, q, r⟩ := x; exact Heap.lt_size q
/-- a zip just made -/
def ZNew (h : Heap) (m : Nat) (xs ys : Array Value) : Prop := ∃ l1 l2, ZipApart (m + 4) (m + 2) (m + 3) m (m + 1) l1 l2 ∧ l1 < m ∧ l2 < m ∧ h.objs.size = m + 5 ∧ ∀ S, m + 5 ≤ S → ZSt h (m + 4) (m + 2) (m + 3) m (m + 1) l1 l2 S xs ys 0
theorem call_zipq {t1 t2 : Bool} {l1 l2 : Addr} {xs ys : Array Value} {Q : Value → Shared → Prop} (h1 : RwB t1 s.heap l1 xs) (h2 : RwB t2 s.heap l2 ys)
    (h : ∀ h', ZNew h' s.heap.objs.size xs ys → (∀ c o, s.heap.get? c = some o → h'.get? c = some o) → Q (.ref (s.heap.objs.size + 4)) { s with heap := h' }) :
    wpAny (model prog w) A (call (.type "zip") [.ref l1, .ref l2]) Q E s := by
  refine callType_new PySem.F.called_zip (by decide) (PySem.F.typeCall_zip_2 _ _) (PySem.F.newCall_zip_2 _ _) (fun obj => PySem.F.args_object_init_3 obj _ _) PySem.F.entry_zip_new
    (meets_zipq t1 t2 l1 l2 xs ys) ⟨h1, h2, ?_⟩
  have z1 : (zq1 s.heap t1 l1).objs.size = s.heap.objs.size + 1 := Heap.size_push ..
  have z2 : (zq2 s.heap t1 t2 l1 l2).objs.size = s.heap.objs.size + 2 := by rw [Heap.size_push, z1]
  have z3 : (zq3 s.heap t1 t2 l1 l2).objs.size = s.heap.objs.size + 3 := by rw [Heap.size_push, z2]
  have z4 : (zq4 s.heap t1 t2 l1 l2).objs.size = s.heap.objs.size + 4 := by rw [Heap.size_push, z3]
  have z5 : (zq5 s.heap t1 t2 l1 l2).objs.size = s.heap.objs.size + 5 := by rw [Heap.size_push, z4]
  have fr : ∀ t l, (rwOb t l).isFreed = false := fun t l => rfl
  have g5 : (zq5 s.heap t1 t2 l1 l2).get? (zq4 s.heap t1 t2 l1 l2).objs.size = some _ := Heap.get?_push_size _ rfl
  have g4 : (zq5 s.heap t1 t2 l1 l2).get? (zq3 s.heap t1 t2 l1 l2).objs.size = some _ := Heap.get?_push_of_some _ (Heap.get?_push_size _ rfl)
  have g3 : (zq5 s.heap t1 t2 l1 l2).get? (zq2 s.heap t1 t2 l1 l2).objs.size = some _ := Heap.get?_push_of_some _ (Heap.get?_push_of_some _ (Heap.get?_push_size _ rfl))
  have g2 : (zq5 s.heap t1 t2 l1 l2).get? (zq1 s.heap t1 l1).objs.size = some (rwOb t2 l2) := Heap.get?_push_of_some _ (Heap.get?_push_of_some _ (Heap.get?_push_of_some _ (Heap.get?_push_size _ (fr _ _))))
  have g1 : (zq5 s.heap t1 t2 l1 l2).get? s.heap.objs.size = some (rwOb t1 l1) := Heap.get?_push_of_some _ (Heap.get?_push_of_some _ (Heap.get?_push_of_some _ (Heap.get?_push_of_some _ (Heap.get?_push_size _ (fr _ _)))))
  show _ ∧ _
  rw [z2, z3, z4] at g5
  rw [z1, z2] at g3
  rw [z3] at g4
  rw [z1] at g2
  rw [z4]
  have up : ∀ c o, s.heap.get? c = some o → (zq5 s.heap t1 t2 l1 l2).get? c = some o := fun c o x =>
    Heap.get?_push_of_some _ (Heap.get?_push_of_some _ (Heap.get?_push_of_some _ (Heap.get?_push_of_some _ (Heap.get?_push_of_some _ x))))
  refine ⟨⟨_, g5, rfl⟩, h _ ⟨l1, l2, PyProof.Rows.zipApart_new h1.lt h2.lt, h1.lt, h2.lt, z5, fun S hS => ⟨g3, (h1.at fun o e => up _ o e).it g1, (h2.at fun o e => up _ o e).it g2, .inl ⟨g5, _, _, g4⟩⟩⟩ up⟩

/-- list(zip(..)): the pairs lie at as, the list at S -/
structure LZ (h h' : Heap) (S : Addr) (xs ys : Array Value) (as : List Addr) (c : Nat) : Prop where
  keep : ∀ b o, h.get? b = some o → h'.get? b = some o
  low : h.objs.size ≤ S
  lst : LstAt h' S (as.map Value.ref).toArray c
  len : as.length = min xs.size ys.size
  new : ∀ a ∈ as, h.objs.size ≤ a ∧ a ≠ S
  nd : as.Nodup
  at' : ∀ (j : Nat) a, as[j]? = some a → ∃ x y, xs[j]? = some x ∧ ys[j]? = some y ∧ IsPair h' a x y
theorem got_refs {P : Nat → Value → Heap → Prop} {h : Heap} {acc : Array Value} {n : Nat} (g : Got P h acc n) (hp : ∀ j v, P j v h → ∃ a, v = .ref a) : ∃ as : List Addr, acc = (as.map Value.ref).toArray := by
  have : ∀ l : List Value, (∀ v ∈ l, ∃ a, v = Value.ref a) → ∃ as : List Addr, l = as.map Value.ref := by
    intro l
    induction l with
    | nil => exact fun _ => ⟨[], rfl⟩
    | cons v r ih =>
      intro hv
      obtain ⟨a, e⟩ := hv v (.head _)
      obtain ⟨as, e'⟩ := ih fun u hu => hv u (.tail _ hu)
      exact ⟨a :: as, by rw [e, e']; rfl⟩
  obtain ⟨as, e⟩ := this acc.toList fun v hv => by
    obtain ⟨j, hj⟩ := List.mem_iff_getElem?.mp hv
    exact hp j v (g.2.1 j v (by simpa using hj))
  exact ⟨as, by rw [← e, Array.toArray_toList]⟩
theorem call_listzip {m : Nat} {h₀ : Heap} {xs ys : Array Value} {Q : Value → Shared → Prop} (hh : A.handled = none) (Z : ZNew s.heap m xs ys) (k₀ : ∀ c o, h₀.get? c = some o → s.heap.get? c = some o) (hm : h₀.objs.size = m) (hn : xs.size ≤ sizeLine)
    (hQ : ∀ S h' as c, LZ h₀ h' S xs ys as c → Q (.ref S) { s with heap := h' }) : wpAny (model prog w) A (call (.type "list") [.ref (m + 4)]) Q E s := by
  obtain ⟨l1, l2, D, b1, b2, sz, st⟩ := Z
  have st0 := st s.heap.objs.size (by omega)
  have tz : s.TypeIs (.ref (m + 4)) "zip" := by
    rcases st0.zz with ⟨hz, _⟩ | ⟨T, f, oT, hz, _⟩ <;> exact ⟨_, hz, rfl⟩
  refine lw_call (T := "zip") (lw_zip (A := A.in1.in1) hh D (show (m + 3 : Nat) < s.heap.objs.size by omega) (by
    simp only [List.mem_cons, List.not_mem_nil, or_false, not_or]
    have ms : m ≤ s.heap.objs.size := by omega
    exact ⟨show (s.heap.objs.size : Nat) ≠ m + 4 by omega, show (s.heap.objs.size : Nat) ≠ m + 2 by omega, show (s.heap.objs.size : Nat) ≠ m + 3 by omega, show (s.heap.objs.size : Nat) ≠ m by omega, show (s.heap.objs.size : Nat) ≠ m + 1 by omega,
      Nat.ne_of_gt (Nat.lt_of_lt_of_le b1 ms), Nat.ne_of_gt (Nat.lt_of_lt_of_le b2 ms)⟩) (by
    simp only [List.mem_cons, List.not_mem_nil, or_false]
    intro b hb
    have ml : ∀ j, j ≤ 4 → m + j < s.heap.objs.size := fun j _ => by omega
    rcases hb with e | e | e | e
    · rw [e]; exact ml 4 (by omega)
    · rw [e]; exact ml 3 (by omega)
    · rw [e]; exact ml 0 (by omega)
    · rw [e]; exact ml 1 (by omega))) (Nat.le_trans (Nat.min_le_left ..) hn) tz (by decide) (by decide) zip_nolen zip_nohint st0 fun h' acc c k l g => ?_
  obtain ⟨as, ea⟩ := got_refs g fun j v ⟨a, _, _, e, _⟩ => ⟨a, e⟩
  subst ea
  refine hQ _ h' as c ⟨fun b o e => k b o (fun hb => ?_) (k₀ b o e), by omega, l, by simpa using g.1, fun a ha => ?_, ?_, fun j a e => ?_⟩
  · have hl : b < m := hm ▸ Heap.lt_size e
    simp only [List.mem_cons, List.not_mem_nil, or_false] at hb
    have up : ∀ j : Nat, ¬ (m + j < m) := fun j => by omega
    rcases hb with e | e | e | e
    · exact up 4 (e ▸ hl)
    · exact up 3 (e ▸ hl)
    · exact up 0 (e ▸ hl)
    · exact up 1 (e ▸ hl)
  · obtain ⟨j, hj⟩ := List.mem_iff_getElem?.mp ha
    obtain ⟨a', x, y, e, q1, q2, _⟩ := g.2.1 j (.ref a) (by simp [hj])
    cases e
    exact ⟨Nat.le_trans (show (h₀.objs.size : Nat) ≤ s.heap.objs.size by omega) q1, q2⟩
  · have nd := g.2.2
    simp only [List.toList_toArray] at nd
    exact (List.pairwise_map.mp nd).imp fun h e => h (by rw [e])
  · obtain ⟨a', x, y, e', q1, q2, q3, q4, q5⟩ := g.2.1 j (.ref a) (by simp [e])
    cases e'
    exact ⟨x, y, q3, q4, q5⟩
end
end DL

namespace DL
open PySem PySem.Spec L2
/-- new tuples laid -/
def layP (H : Hp) : List (Addr × List V) → Hp
  | [] => H
  | (a, p) :: r => upd (layP H r) a (.tup p)
section
variable {H : Hp}
theorem layP_old : ∀ {ps : List (Addr × List V)} {b : Addr}, (∀ q ∈ ps, q.1 ≠ b) → layP H ps b = H b
  | [], b, h => rfl
  | (a, p) :: r, b, h => by
    show upd (layP H r) a (.tup p) b = H b
    rw [upd_ne (Ne.symm (h _ (.head _)))]
    exact layP_old fun q hq => h q (.tail _ hq)
theorem layP_some : ∀ {ps : List (Addr × List V)} {b : Addr} {u : HO}, layP H ps b = some u → (∃ p, (b, p) ∈ ps ∧ u = .tup p) ∨ H b = some u
  | [], b, u, h => .inr h
  | (a, p) :: r, b, u, h => by
    replace h : upd (layP H r) a (.tup p) b = some u := h
    by_cases hb : b = a
    · subst hb; rw [upd_same] at h; cases h; exact .inl ⟨p, .head _, rfl⟩
    · rw [upd_ne hb] at h
      rcases layP_some h with ⟨p', q, e⟩ | e
      · exact .inl ⟨p', .tail _ q, e⟩
      · exact .inr e
theorem layP_at : ∀ {ps : List (Addr × List V)} {b : Addr} {p : List V}, (ps.map (·.1)).Nodup → (b, p) ∈ ps → layP H ps b = some (.tup p)
  | (a, p') :: r, b, p, nd, h => by
    show upd (layP H r) a (.tup p') b = _
    rcases List.mem_cons.mp h with e | h
    · cases e; exact upd_same
    · have nd' := List.nodup_cons.mp nd
      have hb : b ≠ a := fun e => nd'.1 (e ▸ List.mem_map.mpr ⟨(b, p), h, rfl⟩)
      rw [upd_ne hb]
      exact layP_at nd'.2 h
end
theorem un_new {fs ex : List Addr} {H H' : Hp} {h h' : Heap} (k : ∀ b u, h.get? b = some u → h'.get? b = some u) (hn : ∀ b, b < h.objs.size → H' b = H b) (hs : ∀ b u, H b = some u → H' b = some u) : Un fs ex H H' h h' where
  keep := fun b u q _ _ _ => k b u q
  slot := fun b u q _ _ _ => ⟨u.slots, k b u q⟩
  free := fun b u q n _ => by rw [hn b (Heap.lt_size q)]; exact n
  there := fun b u q _ => ⟨u, k b u q⟩
  tups := fun b xs q => hs b _ q
  frzs := fun b u xs q => hs b _ q
  tbls := fun b ps q => ⟨#[], by rw [hs b _ q]; simp⟩
/-- the pairs of two rows -/
def prs (xs ys : List V) : List (List V) := List.zipWith (fun x y => [x, y]) xs ys
theorem prs_get {xs ys : List V} {j : Nat} {p : List V} (e : (prs xs ys)[j]? = some p) : ∃ x y, xs[j]? = some x ∧ ys[j]? = some y ∧ p = [x, y] := by
  unfold prs at e
  rw [List.getElem?_zipWith] at e
  cases hx : xs[j]? with
  | none => rw [hx] at e; simp at e
  | some x =>
    cases hy : ys[j]? with
    | none => rw [hx, hy] at e; simp at e
    | some y => rw [hx, hy] at e; simp at e; exact ⟨x, y, rfl, rfl, e.symm⟩
def Sq (K : PySem.W.Frag) (H : Hp) (a : Addr) (xs : List V) : Prop := SqL K H a xs ∨ SqT K H a xs
def rLZ (K : PySem.W.Frag) : List V → Hp → VK → Prop := fun vs H Q => ∃ p q xs ys, vs = [.ref p, .ref q] ∧ Sq K H p xs ∧ Sq K H q ys ∧
  ∀ S as, (S :: as).Nodup → (∀ a ∈ S :: as, H a = none) → as.length = (prs xs ys).length → Q (.ref S) (upd (layP H (as.zip (prs xs ys))) S (.lst (as.map V.ref)))
section
variable {X : Cx} {pins : List (Addr × Obj)} {σ : St} {H : Hp} {s : Shared}
theorem row_of (I : Inv X pins σ H s) {p : Addr} {xs : List V} (h : Sq X.K H p xs) : ∃ (t : Bool) (its : List Value), Vals xs its ∧ RwB t s.heap p its.toArray ∧ xs.length ≤ sizeLine := by
  rcases h with h | h
  · obtain ⟨its, r, ⟨o, n, e, c, _, d⟩, z⟩ := I.list h
    exact ⟨false, its, r, ⟨o, e, c, n, d⟩, z⟩
  · obtain ⟨its, r, ⟨o, e, c, n, d⟩, z⟩ := I.tuple h
    exact ⟨true, its, r, ⟨o, e, c, n, d⟩, z⟩
theorem keys_zip {as : List Addr} {ps : List (List V)} (h : as.length = ps.length) : (as.zip ps).map (·.1) = as := by
  rw [List.map_fst_zip (by omega)]
theorem Inv.lz {xs ys : List V} {it jt : List Value} {S : Addr} {h' : Heap} {as : List Addr} {c : Nat} (I : Inv X pins σ H s) (rx : Vals xs it) (ry : Vals ys jt) (zx : xs.length ≤ sizeLine) (Z : LZ s.heap h' S it.toArray jt.toArray as c) :
    (S :: as).Nodup ∧ (∀ a ∈ S :: as, H a = none) ∧ as.length = (prs xs ys).length ∧ Inv X pins σ (upd (layP H (as.zip (prs xs ys))) S (.lst (as.map V.ref))) { s with heap := h' } := by
  have hl : as.length = (prs xs ys).length := by
    have e := Z.len
    simp only [List.size_toArray] at e
    rw [e, prs, List.length_zipWith, rx.length, ry.length]
  have fr : ∀ a ∈ S :: as, s.heap.objs.size ≤ a := fun a ha => by
    rcases List.mem_cons.mp ha with e | e
    · rw [e]; exact Z.low
    · exact (Z.new a e).1
  have nn : ∀ a ∈ S :: as, H a = none := fun a ha => I.hok.fresh (fr a ha)
  have nd : (S :: as).Nodup := List.nodup_cons.mpr ⟨fun h => (Z.new S h).2 rfl, Z.nd⟩
  have ky := keys_zip hl
  have ndz : ((as.zip (prs xs ys)).map (·.1)).Nodup := by rw [ky]; exact Z.nd
  have kin : ∀ q ∈ as.zip (prs xs ys), q.1 ∈ as := fun q hq => (List.of_mem_zip hq).1
  refine ⟨nd, nn, hl, ?_⟩
  have hs : ∀ b u, H b = some u → upd (layP H (as.zip (prs xs ys))) S (.lst (as.map V.ref)) b = some u := fun b u e => by
    have n : ∀ a ∈ S :: as, a ≠ b := fun a ha z => by rw [z] at ha; rw [nn b ha] at e; cases e
    rw [upd_ne (Ne.symm (n S (.head _))), layP_old fun q hq => n _ (.tail _ (kin q hq))]
    exact e
  refine I.un (t' := s.toks) (un_new Z.keep (fun b hb => ?_) hs) fun b u e => ?_
  · have n : ∀ a ∈ S :: as, a ≠ b := fun a ha z => absurd (Nat.lt_of_lt_of_le hb (z ▸ fr a ha)) (Nat.lt_irrefl _)
    rw [upd_ne (Ne.symm (n S (.head _))), layP_old fun q hq => n _ (.tail _ (kin q hq))]
  · by_cases hb : b = S
    · subst hb
      rw [upd_same] at e; cases e
      refine ⟨?_, as.map Value.ref, c, ?_, Z.lst⟩
      · rw [List.length_map, hl, prs, List.length_zipWith]
        exact Nat.le_trans (Nat.min_le_left ..) zx
      · have : ∀ l : List Addr, Vals (l.map V.ref) (l.map Value.ref) := fun l => by
          induction l with
          | nil => exact .nil
          | cons a r ih => exact .cons rfl ih
        exact this as
    · rw [upd_ne hb] at e
      rcases layP_some e with ⟨p, hp, rfl⟩ | e0
      · obtain ⟨j, hj⟩ := List.mem_iff_getElem?.mp hp
        obtain ⟨ha, hpj⟩ := List.getElem?_zip_eq_some.mp hj
        obtain ⟨x, y, ex, ey, rfl⟩ := prs_get hpj
        obtain ⟨x', y', ex', ey', q⟩ := Z.at' j b ha
        obtain ⟨u1, f1, g1⟩ := rx.get ex
        obtain ⟨u2, f2, g2⟩ := ry.get ey
        have e1 : u1 = x' := by simpa [f1] using ex'
        have e2 : u2 = y' := by simpa [f2] using ey'
        subst e1; subst e2
        exact ⟨show 2 ≤ sizeLine by decide, [u1, u2], .cons g1 (.cons g2 .nil), ⟨_, q, rfl, _, rfl⟩⟩
      · exact (I.hok b u e0).stay (fun c v _ q => Z.keep c v q) (fun c q => hs c _ q) fun c xs q => hs c _ q
end
section
variable {X : Cx} {p p' pos pos' : Pos} {e : Expr} {es : List Expr} {t : TA}
/-- list(zip(a, b)) -/
theorem pe_lzip (hc : X.calm = true) (hgl : Gl X "list") (hml : X.mg "list" = none) (hgz : Gl X "zip") (hmz : X.mg "zip" = none) (ha : PA X (e :: es) t)
    (he : starEach (e :: es) X.env = (false, eval e X.env) :: starEach es X.env := by rfl) (hpl : (backTo pos' (starEach es X.env)).any (·.1) = false := by rfl)
    (he2 : starEach [.Call (.Name "zip" p') (e :: es) [] pos'] X.env = [(false, eval (.Call (.Name "zip" p') (e :: es) [] pos') X.env)] := by rfl) :
    PE X (.Call (.Name "list" p) [.Call (.Name "zip" p') (e :: es) [] pos'] [] pos) (tCB (rLZ X.K) t) := by
  intro pins s σ H Q I h
  refine wpAny_Call_Name_kw (ld_blt I hgl hml (show bootBuiltins ("list" : Str) = some (.type "list") by decide +kernel) ?_ (by decide) (by decide))
  refine PyProof.Rows.callWith_type1 ?_ he2 rfl
  rw [he2]
  show wpAny _ _ (spliced [(false, eval (.Call (.Name "zip" p') (e :: es) [] pos') X.env)]) _ _ s
  refine Calls.spliced_cons ?_
  refine wpAny_Call_Name_kw (ld_blt I hgz hmz (show bootBuiltins ("zip" : Str) = some (.type "zip") by decide +kernel) ?_ (by decide) (by decide))
  refine PyProof.Rows.callWith_type1 (thn (ha pos' pins s σ H _ I h) fun us s1 ⟨vs, H1, I1, r1, q1⟩ => ?_) he hpl
  obtain ⟨a, b, xs, ys, rfl, qa, qb, k⟩ := q1
  obtain ⟨u1, u2, rfl, e1, e2⟩ : ∃ u1 u2, us = [u1, u2] ∧ u1 = Value.ref a ∧ u2 = Value.ref b := by
    cases r1 with
    | cons h1 r1 =>
      cases r1 with
      | cons h2 r1 => cases r1; exact ⟨_, _, rfl, h1, h2⟩
  subst e1; subst e2
  obtain ⟨ta, it, rx, wa, za⟩ := row_of I1 qa
  obtain ⟨tb, jt, ry, wb, zb⟩ := row_of I1 qb
  refine call_zipq wa wb fun h1 Z1 k1 => ?_
  refine Calls.spliced_nil ?_
  refine call_listzip (h₀ := s1.heap) (I.ok.hd hc) Z1 k1 rfl (by simpa [← rx.length] using za) fun S h2 as c Z => ?_
  obtain ⟨nd, nn, hl, I2⟩ := Inv.lz I1 rx ry za Z
  exact ⟨.ref S, _, I2, rfl, k S as nd nn hl⟩
end
end DL

namespace DL
open PySem PySem.Spec L2
def rowD : D → Option (List D)
  | .tup ds => some ds
  | .lst ds => some ds
  | _ => none
def pairD (x y : D) : D := .tup [x, y]
def pZip : List D → Option (List D)
  | [a, b] => (rowD a).bind fun xs => (rowD b).map fun ys => List.zipWith pairD xs ys
  | _ => none
theorem lay_gi {g : Gh} {K : PySem.W.Frag} {σ : L2.St} {H : Hp} {fa : Option Addr} {O : List Addr} {s : DS} (I : GI K g σ H fa O s) : ∀ (ps : List (Addr × List V)), (ps.map (·.1)).Nodup → (∀ q ∈ ps, H q.1 = none) → GI K g σ (layP H ps) fa O s ∧ StE fa O H fa O (layP H ps)
  | [], _, _ => ⟨I, StE.refl⟩
  | (a, p) :: r, nd, h => by
    have nd' := List.nodup_cons.mp nd
    obtain ⟨I1, s1⟩ := lay_gi I r nd'.2 fun q hq => h q (.tail _ hq)
    have hn : layP H r a = none := by
      rw [layP_old fun q hq z => nd'.1 (List.mem_map.mpr ⟨q, hq, z⟩)]
      exact h _ (.head _)
    exact ⟨I1.new hn, s1.trans (stE_new hn)⟩
theorem reps_pairs {K : PySem.W.Frag} {N : Addr → Prop} {fa : Option Addr} {H : Hp} : ∀ {ds es : List D} {xs ys : List V} {as : List Addr}, Reps K N fa H ds xs → Reps K N fa H es ys → as.length = (prs xs ys).length → (∀ q ∈ as.zip (prs xs ys), H q.1 = some (.tup q.2)) →
    Reps K N fa H (List.zipWith pairD ds es) (as.map V.ref)
  | [], es, xs, ys, as, h, q, l, k => by
    simp only [Reps] at h; subst h
    simp only [prs, List.zipWith_nil_left, List.length_nil] at l
    rw [List.eq_nil_of_length_eq_zero l]
    simp only [List.zipWith_nil_left, List.map_nil, Reps]
  | d :: r, [], xs, ys, as, h, q, l, k => by
    simp only [Reps] at q; subst q
    simp only [prs, List.zipWith_nil_right, List.length_nil] at l
    rw [List.eq_nil_of_length_eq_zero l]
    simp only [List.zipWith_nil_right, List.map_nil, Reps]
  | d :: r, e :: f, xs, ys, as, h, q, l, k => by
    simp only [Reps] at h q
    obtain ⟨x, xs', rfl, h1, h2⟩ := h
    obtain ⟨y, ys', rfl, q1, q2⟩ := q
    cases as with
    | nil => simp [prs] at l
    | cons a as =>
      have hz : (a :: as).zip (prs (x :: xs') (y :: ys')) = (a, [x, y]) :: as.zip (prs xs' ys') := rfl
      rw [hz] at k
      simp only [List.zipWith_cons_cons, List.map_cons, Reps]
      refine ⟨_, _, rfl, ?_, reps_pairs h2 q2 (by simpa [prs] using l) fun q hq => k q (.tail _ hq)⟩
      simp only [pairD, Rep, Reps]
      exact ⟨a, [x, y], rfl, SqT.of (k _ (.head _)), x, [y], rfl, h1, y, [], rfl, q1, rfl⟩
theorem row_sq {K : PySem.W.Frag} {N : Addr → Prop} {fa : Option Addr} {H : Hp} {d : D} {v : V} {ds : List D} (r : RepB K N fa H d v) (e : rowD d = some ds) : ∃ a xs, v = .ref a ∧ Sq K H a xs ∧ Reps K N fa H ds xs := by
  cases d with
  | tup es =>
    cases e
    simp only [RepB, Rep] at r
    obtain ⟨a, ys, rfl, q, w⟩ := r
    exact ⟨a, ys, rfl, .inr q, w⟩
  | lst es =>
    cases e
    obtain ⟨a, ys, rfl, _, q, w⟩ := r
    exact ⟨a, ys, rfl, .inl (SqL.of q), w⟩
  | _ => cases e
theorem r_zip {K : PySem.W.Frag} : RCF K (rLZ K) pZip := by
  intro g σ H fa O s xs ds es Q I rs e k
  match ds, e with
  | [d1, d2], e =>
    obtain ⟨xs1, e1, e⟩ := Option.bind_eq_some_iff.mp (show (rowD d1).bind (fun xs => (rowD d2).map fun ys => List.zipWith pairD xs ys) = some es from e)
    obtain ⟨ys1, e2, e⟩ := Option.map_eq_some_iff.mp e
    subst e
    simp only [RepBs] at rs
    obtain ⟨x, zs, rfl, r1, y, zs', rfl, r2, rfl⟩ := rs
    obtain ⟨a, vs, rfl, q1, w1⟩ := row_sq r1 e1
    obtain ⟨b, us, rfl, q2, w2⟩ := row_sq r2 e2
    refine ⟨a, b, vs, us, rfl, q1, q2, fun S as nd nn hl => ?_⟩
    have nd' := List.nodup_cons.mp nd
    have ky := keys_zip hl
    have kin : ∀ q ∈ as.zip (prs vs us), q.1 ∈ as := fun q hq => (List.of_mem_zip hq).1
    have ndz : ((as.zip (prs vs us)).map (·.1)).Nodup := by rw [ky]; exact nd'.2
    obtain ⟨I1, s1⟩ := lay_gi I (as.zip (prs vs us)) ndz fun q hq => nn _ (.tail _ (kin q hq))
    have hS : layP H (as.zip (prs vs us)) S = none := by
      rw [layP_old fun q hq (z : q.1 = S) => nd'.1 (by rw [← z]; exact kin q hq)]
      exact nn S (.head _)
    have rp := reps_pairs (Reps.stp I s1.stp w1) (Reps.stp I s1.stp w2) hl fun q hq => layP_at (b := q.1) (p := q.2) ndz hq
    exact k S (as.map V.ref) _ (s1.trans (stE_new hS)) (newL I1 hS rp) (nn S (.head _))
section
variable {X : Cx} {g : Gh} {p p' pos pos' : Pos} {e : Expr} {es : List Expr} {t : DA}
theorem fo_lzip (hc : X.calm = true) (hgl : Gl X "list") (hml : X.mg "list" = none) (hgz : Gl X "zip") (hmz : X.mg "zip" = none) (ha : BAO X g (e :: es) t)
    (he : starEach (e :: es) X.env = (false, eval e X.env) :: starEach es X.env := by rfl) (hpl : (backTo pos' (starEach es X.env)).any (·.1) = false := by rfl)
    (he2 : starEach [.Call (.Name "zip" p') (e :: es) [] pos'] X.env = [(false, eval (.Call (.Name "zip" p') (e :: es) [] pos') X.env)] := by rfl) :
    FO X g (.Call (.Name "list" p) [.Call (.Name "zip" p') (e :: es) [] pos'] [] pos) (dCF pZip t) :=
  FO.w (pe_lzip hc hgl hml hgz hmz ha.pe he hpl he2) (cf_w r_zip)
end
end DL

namespace DL
open PySem PySem.Spec L2
section
variable {X : Cx} {g : Gh} {scope : Scope} {cl : List (Str × Addr)} {idx : List Nat} {iter elt : Expr} {ifs : List Expr} {pos : Pos} {fi : DA} {fc : DT} {fe : DE} {x y : Str} {px py pp : Pos} {kt : Nat} {caps : List Str}
theorem fo_comp2n (hc : X.calm = true) (k : CompOk X scope cl (x :: y :: caps) 2 idx) (hi : IO X g (.Tuple [.Name x px, .Name y py] kt pp) iter fi) (nd : (x :: y :: caps).Nodup)
    (hx : ∀ C s0 H0 ex, (blk X (x :: y :: caps) scope cl C s0 H0 ex).env.scope.names.lookup x = some .local) (hy : ∀ C s0 H0 ex, (blk X (x :: y :: caps) scope cl C s0 H0 ex).env.scope.names.lookup y = some .local)
    (ht : ∀ C s0 H0 ex g', IfsO (blk X (x :: y :: caps) scope cl C s0 H0 ex) g' ifs fc) (he : ∀ C s0 H0 ex g', EO (blk X (x :: y :: caps) scope cl C s0 H0 ex) g' elt fe) (hs : ∀ x, foldedSetIterable iter X.env x = pure x := by intro _; rfl) :
    FO X g (.ListComp elt [⟨.Tuple [.Name x px, .Name y py] kt pp, iter, ifs, 0⟩] scope pos) (dComp2 idx fi fc fe) :=
  fo_comp2 (G := gTup X.K 2 (gCons (gName 0) (gCons (gName 1) gNil))) hc k hi (fun C s0 H0 ex => pg_tup (X := blk X (x :: y :: caps) scope cl C s0 H0 ex) (n := 2) hc (pgs_cons (X := blk X (x :: y :: caps) scope cl C s0 H0 ex) (pg_name (X := blk X (x :: y :: caps) scope cl C s0 H0 ex) (i := 0) nd rfl (Or.inl (hx C s0 H0 ex)) (Or.inr (hx C s0 H0 ex))) (pgs_cons (X := blk X (x :: y :: caps) scope cl C s0 H0 ex) (pg_name (X := blk X (x :: y :: caps) scope cl C s0 H0 ex) (i := 1) nd rfl (Or.inl (hy C s0 H0 ex)) (Or.inr (hy C s0 H0 ex))) pgs_nil)))
    (fun a x y σ H Q h q => ⟨a, [x, y], rfl, h, rfl, x, [y], rfl, y, [], rfl, rfl, q⟩) ht he hs
end
end DL

namespace DL
open PySem PySem.Spec L2
def PC (X : Cx) (e : Expr) (te : TE) : Prop := ∀ (i : Nat) (y : Str) (py spos : Pos), X.N.Nodup → X.N[i]? = some y → Loc X.env.scope y → swapsWith e (some (.Name y py)) spos.line X.env = pure true → (X.fn y = true ∨ X.env.scope.names.lookup y = some .local) → PS X (.Assign [.Name y py] e spos) (tAsg te (gName i))
structure CO (X : Cx) (g : Gh) (e : Expr) (f : DA) : Prop where
  pe : PC X e (liftF X.K g f)
theorem CO.w {X : Cx} {g : Gh} {e : Expr} {f : DA} {t : TE} (h : PC X e t) (w : ∀ σ H Q, liftF X.K g f σ H Q → t σ H Q) : CO X g e f :=
  ⟨fun i y py spos h1 h2 h3 h4 h5 pins s σ H D I q => h i y py spos h1 h2 h3 h4 h5 pins s σ H D I (w σ H _ q)⟩
section
variable {X : Cx} {g : Gh} {scope : Scope} {cl : List (Str × Addr)} {N' : List Str} {idx : List Nat} {iter elt tg : Expr} {ifs : List Expr} {pos : Pos} {fi : DA} {fc : DT} {fe : DE}
theorem co_comp1 (hc : X.calm = true) (k : CompOk X scope cl N' 1 idx) (hi : IO X g tg iter fi) (hg : ∀ C s0 H0 ex, PG (blk X N' scope cl C s0 H0 ex) tg (gName 0))
    (ht : ∀ C s0 H0 ex g', IfsO (blk X N' scope cl C s0 H0 ex) g' ifs fc) (he : ∀ C s0 H0 ex g', EO (blk X N' scope cl C s0 H0 ex) g' elt fe) (hs : ∀ x, foldedSetIterable iter X.env x = pure x := by intro _; rfl) :
    CO X g (.ListComp elt [⟨tg, iter, ifs, 0⟩] scope pos) (dComp1 idx fi fc fe) :=
  CO.w (fun i y py spos h1 h2 h3 h4 h5 => ps_setC (tc := fun σ H Q => ∃ g', liftT X.K g' fc σ H Q) (te := fun σ H Q => ∃ g', liftE X.K g' fe σ H Q) h1 h2 h3 hc k hi.pe hg (fun C s0 H0 ex pins s σ H Q I ⟨g', h⟩ => ht C s0 H0 ex g' pins s σ H Q I h) (fun C s0 H0 ex pins s σ H Q I ⟨g', h⟩ => (he C s0 H0 ex g').pe pins s σ H Q I h) hs h4 h5) (comp1_w k)
theorem s_setC {e : Expr} {i : Nat} {x : Str} {f : DA} {pos' : Pos} (hN : X.N.Nodup) (hi : X.N[i]? = some x) (hx : Loc X.env.scope x) (he : CO X g e f) (hs : swapsWith e (some (.Name x pos')) pos.line X.env = pure true := by rfl) (hf : X.fn x = true ∨ X.env.scope.names.lookup x = some .local := by first | exact .inl rfl | exact .inr rfl | assumption) :
    SO X g (.Assign [.Name x pos'] e pos) (dAsgF i f) := SO.w (he.pe i x pos' pos hN hi hx hs hf) fun E σ H ⟨fa, O, s, fl, s', I, q, k⟩ => by
  obtain ⟨⟨ds, s1⟩, h1, h2⟩ := Option.bind_eq_some_iff.mp q
  by_cases hl : i < s1.sl.length
  · simp only [] at h2
    rw [if_pos hl] at h2
    cases h2
    refine ⟨fa, O, s, ds, s1, I, h1, fun p xs H1 f1 O1 a1 L hp => ?_⟩
    have np : p ∉ O1 := fun z => by
      obtain ⟨ys, e⟩ := I.owned (a1.sub p z)
      rw [hp] at e; cases e
    obtain ⟨P, sub, I'⟩ := L.put i hl (I.st.mon p hp) np
    refine k _ H1 f1 P ⟨fun b hb => ?_, a1.fe, fun b u e _ n => a1.same b u e n, a1.mon⟩ I'
    rcases sub b hb with y | y
    · exact .inr (by rw [y]; exact hp)
    · exact .inl (a1.sub b y)
  · simp only [] at h2
    rw [if_neg hl] at h2; cases h2
end
section
variable {X : Cx} {g : Gh} {scope : Scope} {cl : List (Str × Addr)} {idx : List Nat} {iter elt : Expr} {ifs : List Expr} {pos : Pos} {fi : DA} {fc : DT} {fe : DE} {x y : Str} {px py pp : Pos} {kt : Nat} {caps : List Str}
end
end DL

namespace DL
open PySem PySem.Spec L2
section
variable {X : Cx} {g : Gh}
theorem SqF.new {K : PySem.W.Frag} {H : Hp} {a p : Addr} {xs : List V} {o : HO} (h : SqF K H a xs) (hp : H p = none) : SqF K (upd H p o) a xs := by
  rcases h with ⟨o', h⟩ | h
  · exact .inl ⟨o', by rw [upd_ne (ne_of_none h hp)]; exact h⟩
  · exact .inr h
end
end DL

namespace DL
open PySem PySem.Spec L2 PyProof.Rows
section
variable {X : Cx} {g : Gh} {a st : Expr} {fa fs : DE} {pos p2 : Pos}
end
end DL

namespace DL
open PySem PySem.Spec L2 PyProof.Rows
def intsD : List D → Option (List Int)
  | [] => some []
  | .int i :: r => (intsD r).map fun l => i :: l
  | _ :: _ => none
def maxL : List Int → Int
  | [] => 0
  | i :: r => r.foldl max i
def minL : List Int → Int
  | [] => 0
  | i :: r => r.foldl min i
def pMax : D → Option D
  | .lst ds => (intsD ds).bind fun is => if 0 < is.length then some (.int (maxL is)) else none
  | _ => none
def pMin : D → Option D
  | .lst ds => (intsD ds).bind fun is => if 0 < is.length then some (.int (minL is)) else none
  | _ => none
theorem intsD_map : ∀ is : List Int, intsD (is.map D.int) = some is
  | [] => rfl
  | i :: r => by rw [List.map_cons, intsD, intsD_map r]; rfl
theorem intsD_some : ∀ {ds : List D} {is : List Int}, intsD ds = some is → ds = is.map D.int
  | [], is, h => by cases h; rfl
  | .int i :: r, is, h => by
    rw [intsD] at h
    obtain ⟨l, h1, h2⟩ := Option.map_eq_some_iff.mp h
    rw [← h2, intsD_some h1]
    rfl
  | .bl _ :: r, is, h => by cases h
  | .non :: r, is, h => by cases h
  | .str _ :: r, is, h => by cases h
  | .tup _ :: r, is, h => by cases h
  | .lst _ :: r, is, h => by cases h
  | .feed :: r, is, h => by cases h
  | .scr _ :: r, is, h => by cases h
theorem foldl_max : ∀ (l : List Int) (i : Int), (l.foldl max i = i ∨ l.foldl max i ∈ l) ∧ i ≤ l.foldl max i ∧ ∀ x ∈ l, x ≤ l.foldl max i
  | [], i => ⟨.inl rfl, Int.le_refl _, fun x hx => by cases hx⟩
  | y :: r, i => by
    obtain ⟨a, b, c⟩ := foldl_max r (max i y)
    rw [List.foldl_cons]
    refine ⟨?_, by omega, fun x hx => ?_⟩
    · rcases a with a | a
      · rw [a]
        rcases Int.le_total i y with h | h
        · exact .inr (by rw [Int.max_eq_right h]; exact List.mem_cons_self ..)
        · exact .inl (Int.max_eq_left h)
      · exact .inr (List.mem_cons_of_mem _ a)
    · rcases List.mem_cons.mp hx with rfl | hx
      · omega
      · exact c x hx
theorem foldl_min : ∀ (l : List Int) (i : Int), (l.foldl min i = i ∨ l.foldl min i ∈ l) ∧ l.foldl min i ≤ i ∧ ∀ x ∈ l, l.foldl min i ≤ x
  | [], i => ⟨.inl rfl, Int.le_refl _, fun x hx => by cases hx⟩
  | y :: r, i => by
    obtain ⟨a, b, c⟩ := foldl_min r (min i y)
    rw [List.foldl_cons]
    refine ⟨?_, by omega, fun x hx => ?_⟩
    · rcases a with a | a
      · rw [a]
        rcases Int.le_total i y with h | h
        · exact .inl (Int.min_eq_left h)
        · exact .inr (by rw [Int.min_eq_right h]; exact List.mem_cons_self ..)
      · exact .inr (List.mem_cons_of_mem _ a)
    · rcases List.mem_cons.mp hx with rfl | hx
      · omega
      · exact c x hx
theorem maxL_ok {l : List Int} (h : 0 < l.length) : maxL l ∈ l ∧ ∀ x ∈ l, x ≤ maxL l := by
  cases l with
  | nil => cases h
  | cons i r =>
    obtain ⟨a, b, c⟩ := foldl_max r i
    refine ⟨?_, fun x hx => ?_⟩
    · rcases a with a | a
      · show r.foldl max i ∈ _
        rw [a]; exact List.mem_cons_self ..
      · exact List.mem_cons_of_mem _ a
    · rcases List.mem_cons.mp hx with rfl | hx
      · exact b
      · exact c x hx
theorem minL_ok {l : List Int} (h : 0 < l.length) : minL l ∈ l ∧ ∀ x ∈ l, minL l ≤ x := by
  cases l with
  | nil => cases h
  | cons i r =>
    obtain ⟨a, b, c⟩ := foldl_min r i
    refine ⟨?_, fun x hx => ?_⟩
    · rcases a with a | a
      · show r.foldl min i ∈ _
        rw [a]; exact List.mem_cons_self ..
      · exact List.mem_cons_of_mem _ a
    · rcases List.mem_cons.mp hx with rfl | hx
      · exact b
      · exact c x hx
theorem vals_int : ∀ {is : List Int} {us : List Value}, Vals (is.map V.int) us → ∃ ps : List (Int × Tok), us = (intItems ps.toArray).toList ∧ ps.map (·.1) = is
  | [], _, .nil => ⟨[], by simp [intItems], rfl⟩
  | i :: r, _, .cons q t => by
    obtain ⟨ps, e1, e2⟩ := vals_int t
    obtain ⟨k, e3⟩ := (show ∃ k, _ = Value.int i k from q)
    exact ⟨(i, k) :: ps, by rw [e3, e1]; simp [intItems], by rw [List.map_cons, e2]⟩
theorem num_at {ps : List (Int × Tok)} {is : List Int} (h : ps.map (·.1) = is) {j : Nat} {x : Int} (hj : is[j]? = some x) : numAt ps.toArray j = x := by
  rw [← h, List.getElem?_map] at hj
  unfold numAt
  rw [List.getElem?_toArray, hj]
  rfl
theorem arg_max {val : Nat → Int} : ∀ k : Nat, argBest (fun i j => decide (val i > val j)) k ≤ k ∧ ∀ j, j ≤ k → val j ≤ val (argBest (fun i j => decide (val i > val j)) k)
  | 0 => ⟨Nat.le_refl _, fun j hj => by
    have e : j = 0 := Nat.le_zero.mp hj
    subst e
    exact Int.le_refl _⟩
  | k + 1 => by
    obtain ⟨a, b⟩ := arg_max (val := val) k
    unfold argBest
    by_cases c : val (k + 1) > val (argBest (fun i j => decide (val i > val j)) k)
    · rw [if_pos (decide_eq_true c)]
      refine ⟨Nat.le_refl _, fun j hj => ?_⟩
      by_cases e : j = k + 1
      · subst e; exact Int.le_refl _
      · have := b j (by omega); omega
    · rw [if_neg (by rw [decide_eq_false c]; exact Bool.false_ne_true)]
      refine ⟨by omega, fun j hj => ?_⟩
      by_cases e : j = k + 1
      · subst e; omega
      · exact b j (by omega)
theorem arg_min {val : Nat → Int} : ∀ k : Nat, argBest (fun i j => decide (val i < val j)) k ≤ k ∧ ∀ j, j ≤ k → val (argBest (fun i j => decide (val i < val j)) k) ≤ val j
  | 0 => ⟨Nat.le_refl _, fun j hj => by
    have e : j = 0 := Nat.le_zero.mp hj
    subst e
    exact Int.le_refl _⟩
  | k + 1 => by
    obtain ⟨a, b⟩ := arg_min (val := val) k
    unfold argBest
    by_cases c : val (k + 1) < val (argBest (fun i j => decide (val i < val j)) k)
    · rw [if_pos (decide_eq_true c)]
      refine ⟨Nat.le_refl _, fun j hj => ?_⟩
      by_cases e : j = k + 1
      · subst e; exact Int.le_refl _
      · have := b j (by omega); omega
    · rw [if_neg (by rw [decide_eq_false c]; exact Bool.false_ne_true)]
      refine ⟨by omega, fun j hj => ?_⟩
      by_cases e : j = k + 1
      · subst e; omega
      · exact b j (by omega)
theorem boot_max' : bootBuiltins ("max" : Str) = some (.builtin "max") := by decide +kernel
theorem boot_min' : bootBuiltins ("min" : Str) = some (.builtin "min") := by decide +kernel
section
variable {X : Cx} {K : PySem.W.Frag}
def rInts (K : PySem.W.Frag) (f : List Int → Int) (c : List Int → Prop) : List V → Hp → VK → Prop := fun xs H Q => ∃ (a : Addr) (is : List Int), xs = [.ref a] ∧ SqL K H a (is.map V.int) ∧ c is ∧ Q (.int (f is)) H
theorem c_max (hc : X.calm = true) : CallR X (.builtin "max") (rInts X.K maxL fun is => 0 < is.length) := by
  intro pins s σ H xs us Q I r h
  obtain ⟨a, is, rfl, hq, hne, q⟩ := h
  obtain ⟨u, rfl, ru⟩ := vals1 r
  cases ru
  obtain ⟨its, rv, p, _⟩ := I.list hq
  obtain ⟨ps, e, hp⟩ := vals_int rv
  have hl : s.heap.IsList a (intItems ps.toArray) := by
    have := p.isList
    rw [e] at this
    simpa using this
  have hn : ps.toArray.size = is.length := by rw [← hp]; simp
  refine max_intList (I.ok.hd hc) hl (by rw [hn]; exact hne) fun v h' tk hv hk => ?_
  obtain ⟨t, rfl⟩ := intItems_at hv
  obtain ⟨b1, b2⟩ := arg_max (val := numAt ps.toArray) (ps.toArray.size - 1)
  have e1 : numAt ps.toArray (argBest (fun i j => decide (numAt ps.toArray i > numAt ps.toArray j)) (ps.toArray.size - 1)) = maxL is := by
    generalize argBest (fun i j => decide (numAt ps.toArray i > numAt ps.toArray j)) (ps.toArray.size - 1) = k at *
    obtain ⟨m1, m2⟩ := maxL_ok hne
    have hk : is[k]? = some (is[k]'(by omega)) := List.getElem?_eq_getElem (by omega)
    have k1 := num_at hp hk
    have k2 := m2 _ (List.mem_of_getElem? hk)
    obtain ⟨j, hj⟩ := List.getElem?_of_mem m1
    have k3 := b2 j (by have := (List.getElem?_eq_some_iff.mp hj).1; omega)
    rw [num_at hp hj] at k3
    omega
  rw [e1]
  exact ⟨.int _, H, I.kept hk, ⟨t, rfl⟩, q⟩
theorem c_min (hc : X.calm = true) : CallR X (.builtin "min") (rInts X.K minL fun is => 0 < is.length) := by
  intro pins s σ H xs us Q I r h
  obtain ⟨a, is, rfl, hq, hne, q⟩ := h
  obtain ⟨u, rfl, ru⟩ := vals1 r
  cases ru
  obtain ⟨its, rv, p, _⟩ := I.list hq
  obtain ⟨ps, e, hp⟩ := vals_int rv
  have hl : s.heap.IsList a (intItems ps.toArray) := by
    have := p.isList
    rw [e] at this
    simpa using this
  have hn : ps.toArray.size = is.length := by rw [← hp]; simp
  refine min_intList (I.ok.hd hc) hl (by rw [hn]; exact hne) fun v h' tk hv hk => ?_
  obtain ⟨t, rfl⟩ := intItems_at hv
  obtain ⟨b1, b2⟩ := arg_min (val := numAt ps.toArray) (ps.toArray.size - 1)
  have e1 : numAt ps.toArray (argBest (fun i j => decide (numAt ps.toArray i < numAt ps.toArray j)) (ps.toArray.size - 1)) = minL is := by
    generalize argBest (fun i j => decide (numAt ps.toArray i < numAt ps.toArray j)) (ps.toArray.size - 1) = k at *
    obtain ⟨m1, m2⟩ := minL_ok hne
    have hk : is[k]? = some (is[k]'(by omega)) := List.getElem?_eq_getElem (by omega)
    have k1 := num_at hp hk
    have k2 := m2 _ (List.mem_of_getElem? hk)
    obtain ⟨j, hj⟩ := List.getElem?_of_mem m1
    have k3 := b2 j (by have := (List.getElem?_eq_some_iff.mp hj).1; omega)
    rw [num_at hp hj] at k3
    omega
  rw [e1]
  exact ⟨.int _, H, I.kept hk, ⟨t, rfl⟩, q⟩
theorem reps_int {N : Addr → Prop} {fa : Option Addr} {H : Hp} : ∀ {is : List Int} {xs : List V}, Reps K N fa H (is.map D.int) xs → xs = is.map V.int
  | [], xs, h => by simpa only [List.map_nil, Reps] using h
  | b :: r, xs, h => by
    simp only [List.map_cons, Reps, Rep] at h
    obtain ⟨x, ys, rfl, rfl, h⟩ := h
    rw [reps_int h]
    rfl
theorem r_ints {p : D → Option D} {f : List Int → Int} {c : List Int → Prop} (hp : ∀ d1 d, p d1 = some d → ∃ is : List Int, d1 = .lst (is.map D.int) ∧ c is ∧ d = .int (f is)) : RCD K (rInts K f c) (one p) := rc1 fun g σ H fa O s x d1 d Q I r e k => by
  obtain ⟨is, rfl, hc, rfl⟩ := hp _ _ e
  obtain ⟨a, ys, rfl, _, q, w⟩ := r
  have := reps_int w
  subst this
  exact ⟨a, is, rfl, SqL.of q, hc, k _ H StE.refl I (by simp only [Rep])⟩
theorem r_max : RCD K (rInts K maxL fun is => 0 < is.length) (one pMax) := r_ints fun d1 d e => by
  cases d1 with
  | lst es =>
    obtain ⟨is, h1, h2⟩ := Option.bind_eq_some_iff.mp (show (intsD es).bind (fun is => if 0 < is.length then some (D.int (maxL is)) else none) = some d from e)
    by_cases h : 0 < is.length
    · rw [if_pos h] at h2
      cases h2
      exact ⟨is, by rw [intsD_some h1], h, rfl⟩
    · rw [if_neg h] at h2; cases h2
  | _ => cases e
theorem r_min : RCD K (rInts K minL fun is => 0 < is.length) (one pMin) := r_ints fun d1 d e => by
  cases d1 with
  | lst es =>
    obtain ⟨is, h1, h2⟩ := Option.bind_eq_some_iff.mp (show (intsD es).bind (fun is => if 0 < is.length then some (D.int (minL is)) else none) = some d from e)
    by_cases h : 0 < is.length
    · rw [if_pos h] at h2
      cases h2
      exact ⟨is, by rw [intsD_some h1], h, rfl⟩
    · rw [if_neg h] at h2; cases h2
  | _ => cases e
end
end DL

namespace DL
open PySem PySem.Spec L2 PyProof.Rows
def tPar3 (i j k : Nat) (ta : TA) : TS := fun D σ H => ta σ H fun vs H1 => ∃ v w z, vs = [v, w, z] ∧ D.nx (((σ.set i (some v)).set j (some w)).set k (some z)) H1
def dPar3 (i j k : Nat) (f : DA) : DM := fun s => (f s).bind fun x => match x.1 with
  | [a, b, c] => some (.next, { x.2 with sl := ((x.2.sl.set i (.val a)).set j (.val b)).set k (.val c) })
  | _ => none
section
variable {X : Cx} {g : Gh}
theorem ps_par3 {i j k : Nat} {x y z : Str} {a b c : Expr} {ta : TA} {px py pz pt pos : Pos} {kt k2 pt2} (hc : X.calm = true) (hN : X.N.Nodup) (hi : X.N[i]? = some x) (hj : X.N[j]? = some y) (hk : X.N[k]? = some z) (hij : i ≠ j) (hik : i ≠ k) (hjk : j ≠ k)
    (hx : X.env.scope.names.lookup x = some .local) (hy : X.env.scope.names.lookup y = some .local) (hz : X.env.scope.names.lookup z = some .local) (ha : PA X [a, b, c] ta)
    (hw : swappedStores [.Tuple [.Name x px, .Name y py, .Name z pz] kt pt] (.Tuple [a, b, c] k2 pt2) X.env = pure (some [x, y, z]))
    (hs : swapsWithSole [.Tuple [.Name x px, .Name y py, .Name z pz] kt pt] (.Tuple [a, b, c] k2 pt2) pos.line X.env = pure false := by rfl) :
    PS X (.Assign [.Tuple [.Name x px, .Name y py, .Name z pz] kt pt] (.Tuple [a, b, c] k2 pt2) pos) (tPar3 i j k ta) := by
  intro pins s σ H D I h
  rw [exec_Assign_arm]
  refine wpAny_bind (wpAny_standAt ?_)
  rw [hs]
  refine wpAny_bind (wpAny_pure ?_)
  rw [if_neg (by decide)]
  refine wpAny_bind (Tuple_ (thn (ha _ pins s σ H _ I h) fun us s1 ⟨vs, H1, I1, r1, q1⟩ => ?_))
  obtain ⟨v, w, t, e1, q1⟩ := q1
  subst e1
  obtain ⟨u1, u2, u3, rfl, rv, rw', rt⟩ : ∃ u1 u2 u3, us = [u1, u2, u3] ∧ RelV v u1 ∧ RelV w u2 ∧ RelV t u3 := by
    cases r1 with
    | cons p q =>
      cases q with
      | cons p' q' =>
        cases q' with
        | cons p'' q'' =>
          cases q''
          exact ⟨_, _, _, rfl, p, p', p''⟩
  refine wpAny_newObj_type ?_ (by show 3 ≤ sizeLine; decide)
  have I2 : Inv X pins σ H1 { s1 with heap := s1.heap.push { cls := .type "tuple", data := .seq [u1, u2, u3].toArray } } := I1.kept (t' := s1.toks) fun b o e => Heap.get?_push_of_some _ e
  rw [hw]
  refine wpAny_bind (wpAny_pure ?_)
  show wpAny (model X.prog X.w) X.A (do rule "assign.swapped-stores"; let items ← unpackItems (.ref s1.heap.objs.size) 3 none; assignInOrder [fun v => bindName X.env z v, fun v => bindName X.env y v, fun v => bindName X.env x v] items.reverse; pure Flow.next) _ _ _
  refine wpAny_bind (wpAny_rule (wpAny_bind (unpackItems_tuple (items := #[u1, u2, u3]) (I.ok.hd hc) (IsTup.new s1.heap _) fun h' hx' => ?_)))
  have I3 := I2.kept (h' := h') (t' := s1.toks) fun b o e => hx' b o (Nat.ne_of_lt (Heap.lt_size e)) e
  show wpAny _ _ (assignInOrder [fun v => bindName X.env z v, fun v => bindName X.env y v, fun v => bindName X.env x v] [u3, u2, u1] >>= fun _ => pure Flow.next) _ _ _
  refine wpAny_bind (assignInOrder_cons (wpAny_bindName (store_ok I3 hN hk (.inl hz) rt (fun s2 I4 => ?_) (.inr hz))))
  refine assignInOrder_cons (wpAny_bindName (store_ok I4 hN hj (.inl hy) rw' (fun s3 I5 => ?_) (.inr hy)))
  refine assignInOrder_cons (wpAny_bindName (store_ok I5 hN hi (.inl hx) rv (fun s4 I6 => assignInOrder_nil (wpAny_pure ?_)) (.inr hx)))
  have e : ((σ.set k (some t)).set j (some w)).set i (some v) = ((σ.set i (some v)).set j (some w)).set k (some t) := by
    rw [List.set_comm _ _ (Ne.symm hjk), List.set_comm (some t) (some v) (Ne.symm hik), List.set_comm (some w) (some v) (Ne.symm hij)]
  rw [e] at I6
  exact ⟨_, H1, I6, q1⟩
theorem s_par3 {i j k : Nat} {x y z : Str} {a b c : Expr} {f : DA} {px py pz pt pos : Pos} {kt k2 pt2} (hc : X.calm = true) (hN : X.N.Nodup) (hi : X.N[i]? = some x) (hj : X.N[j]? = some y) (hk : X.N[k]? = some z) (hij : i ≠ j) (hik : i ≠ k) (hjk : j ≠ k)
    (hx : X.env.scope.names.lookup x = some .local) (hy : X.env.scope.names.lookup y = some .local) (hz : X.env.scope.names.lookup z = some .local) (ha : AO X g [a, b, c] f)
    (hw : swappedStores [.Tuple [.Name x px, .Name y py, .Name z pz] kt pt] (.Tuple [a, b, c] k2 pt2) X.env = pure (some [x, y, z]))
    (hs : swapsWithSole [.Tuple [.Name x px, .Name y py, .Name z pz] kt pt] (.Tuple [a, b, c] k2 pt2) pos.line X.env = pure false := by rfl) :
    SO X g (.Assign [.Tuple [.Name x px, .Name y py, .Name z pz] kt pt] (.Tuple [a, b, c] k2 pt2) pos) (dPar3 i j k f) := SO.w (ps_par3 hc hN hi hj hk hij hik hjk hx hy hz ha.pe hw hs) fun E σ H ⟨fa, O, s, fl, s', I, q, kk⟩ => by
  obtain ⟨⟨ds, s1⟩, h1, h2⟩ := Option.bind_eq_some_iff.mp q
  refine ⟨fa, O, s, ds, s1, I, h1, fun vs H1 f1 O1 a1 I1 r => ?_⟩
  match ds, h2, r with
  | [d1, d2, d3], h2, r =>
    simp only [Option.some.injEq, Prod.mk.injEq] at h2
    obtain ⟨e1, e2⟩ := h2
    subst e1; subst e2
    simp only [Reps] at r
    obtain ⟨v, ys, rfl, rv, u, zs, rfl, ru, t, zs', rfl, rt, rfl⟩ := r
    refine ⟨v, u, t, rfl, ?_⟩
    obtain ⟨P, sub, I2⟩ := I1.put i rv
    have a2 : StE f1 O1 H1 f1 P H1 := stE_sub sub
    obtain ⟨P3, sub3, I3⟩ := I2.put j (Rep.stp I1 a2.stp ru)
    have a3 : StE f1 P H1 f1 P3 H1 := stE_sub sub3
    obtain ⟨P4, sub4, I4⟩ := I3.put k (Rep.stp I2 a3.stp (Rep.stp I1 a2.stp rt))
    exact kk _ H1 f1 P4 (a1.stp.trans (a2.stp.trans (a3.stp.trans (stE_sub sub4).stp))) I4
end
end DL

namespace T
open PySem PySem.Spec L2 DL
noncomputable def b_law_feed : DM := (dRet (dFN 0))
noncomputable def f_law_feed : DFn := mFn 1 (b_law_feed)
noncomputable def b_law_draw : DM := (dSeq (dAsg (dOp pAdd (dFG 0 "turn") (dC (.int 1))) (dPut 2)) (dSeq (dFP 0 "turn" (dV 2)) (dSeq (dIfS (dB (dOp (pCmp (fun i j => decide (j < i))) (dFG 0 "left") (dC (.int 0)))) (dSeq (dAsg (dOp pMod (dFG 0 "left") (dL 1)) (dPut 3)) (dSeq (dFP 0 "left" (dOp pDiv (dFG 0 "left") (dL 1))) (dRet (dV 3)))) dSkip) (dSeq (dAsg (dFG 0 "cells") (dPut 4)) (dSeq (dAsg (dIf (dB (dOp (pCmp (fun i j => decide (j < i))) (dCB (one pLen) (dCons (dL 4) dNil)) (dC (.int 0)))) (dOp pIx (dL 4) (dOp pMod (dFG 0 "at") (dCB (one pLen) (dCons (dL 4) dNil)))) (dC (.int 0))) (dPut 5)) (dSeq (dFP 0 "at" (dOp pAdd (dFG 0 "at") (dC (.int 1)))) (dSeq (dIfS (dAnd (dB (dOp (pCmp (fun i j => decide (j ≤ i))) (dL 5) (dOp pPow (dC (.int 10)) (dC (.int 18))))) (dB (dOp (pCmp (fun i j => decide (i ≤ j))) (dFG 0 "at") (dCB (one pLen) (dCons (dL 4) dNil))))) (dSeq (dFP 0 "left" (dOp pDiv (dL 5) (dL 1))) (dRet (dOp pMod (dL 5) (dL 1)))) dSkip) (dSeq (dAsg (dOp pMod (dOp pMul (dOp pAdd (dOp pAdd (dOp pAdd (dOp pMod (dL 5) (dC (.int 1000003))) (dOp pMul (dOp pMul (dC (.int 31)) (dL 2)) (dL 2))) (dOp pMul (dC (.int 7)) (dL 2))) (dC (.int 11))) (dC (.int 48271))) (dC (.int 2147483647))) (dPut 6)) (dSeq (dAsg (dOp pMod (dOp pAdd (dOp pMul (dOp pDiv (dL 6) (dC (.int 64))) (dC (.int 69621))) (dOp pMul (dC (.int 7919)) (dL 2))) (dC (.int 2147483587))) (dPut 6)) (dRet (dOp pMod (dOp pDiv (dL 6) (dC (.int 64))) (dL 1))))))))))))
noncomputable def f_law_draw : DFn := mFn 7 (b_law_draw)
noncomputable abbrev l1_divisor_of_two : DM := (dSeq (dAsg (dOp pMod (dL 2) (dL 3)) (dPut 4)) (dSeq (dAsg (dV 3) (dPut 2)) (dAsg (dV 4) (dPut 3))))
noncomputable def b_divisor_of_two : DM := (dSeq (dAsg (dCB (one pAbs) (dCons (dL 0) dNil)) (dPut 2)) (dSeq (dAsg (dCB (one pAbs) (dCons (dL 1) dNil)) (dPut 3)) (dSeq (dWhile (dB (dOp pNe (dL 3) (dC (.int 0)))) (l1_divisor_of_two)) (dRet (dV 2)))))
noncomputable def f_divisor_of_two : DFn := mFn 5 (b_divisor_of_two)
noncomputable abbrev l1_divisor (m_divisor_of_two : DFn) : DM := (dAsg (dCall m_divisor_of_two (dCons (dV 1) (dCons (dV 2) dNil))) (dPut 1))
noncomputable def b_divisor (m_divisor_of_two : DFn) : DM := (dSeq (dAsg (dC (.int 0)) (dPut 1)) (dSeq (dFor (dV 0) (dPut 2) (l1_divisor m_divisor_of_two)) (dRet (dV 1))))
noncomputable def f_divisor (m_divisor_of_two : DFn) : DFn := mFn 3 (b_divisor m_divisor_of_two)
noncomputable def b_lowest (m_divisor : DFn) : DM := (dSeq (dAsg (dCall m_divisor (dCons (dV 0) dNil)) (dPut 1)) (dSeq (dIfS (dB (dOp (pCmp (fun i j => decide (i < j))) (dOp pIx (dL 0) (dUn pNeg (dC (.int 1)))) (dC (.int 0)))) (dAsg (dUn pNeg (dL 1)) (dPut 1)) dSkip) (dRet (dCB (one pTuple) (dCons (dNew (dComp1 [1] (dItems (dV 0)) dYes (dOp pDiv (dL 0) (dL 1)))) dNil)))))
noncomputable def f_lowest (m_divisor : DFn) : DFn := mFn 2 (b_lowest m_divisor)
noncomputable def b_fraction (m_lowest : DFn) : DM := (dRet (dCall m_lowest (dCons (dTup (dCons (dV 0) (dCons (dV 1) dNil))) dNil)))
noncomputable def f_fraction (m_lowest : DFn) : DFn := mFn 2 (b_fraction m_lowest)
noncomputable abbrev l1_law_fraction : DM := (dPar 2 3 (dCons (dV 3) (dCons (dOp pMod (dL 2) (dL 3)) dNil)))
noncomputable def b_law_fraction : DM := (dSeq (dAsg (dCB (one pAbs) (dCons (dL 0) dNil)) (dPut 2)) (dSeq (dAsg (dCB (one pAbs) (dCons (dL 1) dNil)) (dPut 3)) (dSeq (dWhile (dB (dOp (pCmp (fun i j => decide (j < i))) (dL 3) (dC (.int 0)))) (l1_law_fraction)) (dSeq (dIfS (dB (dOp (pCmp (fun i j => decide (i < j))) (dL 1) (dC (.int 0)))) (dAsg (dOp pSub (dC (.int 0)) (dL 2)) (dPut 2)) dSkip) (dRet (dTup (dCons (dOp pDiv (dL 0) (dL 2)) (dCons (dOp pDiv (dL 1) (dL 2)) dNil))))))))
noncomputable def f_law_fraction : DFn := mFn 4 (b_law_fraction)
noncomputable def b_law_sum (m_law_fraction : DFn) : DM := (dSeq (dAsg (dOp pAdd (dOp pMul (dOp pIx (dL 0) (dC (.int 0))) (dOp pIx (dL 1) (dC (.int 1)))) (dOp pMul (dOp pIx (dL 1) (dC (.int 0))) (dOp pIx (dL 0) (dC (.int 1))))) (dPut 2)) (dRet (dCall m_law_fraction (dCons (dV 2) (dCons (dOp pMul (dOp pIx (dL 0) (dC (.int 1))) (dOp pIx (dL 1) (dC (.int 1)))) dNil)))))
noncomputable def f_law_sum (m_law_fraction : DFn) : DFn := mFn 3 (b_law_sum m_law_fraction)
noncomputable def b_law_minus : DM := (dRet (dTup (dCons (dOp pSub (dC (.int 0)) (dOp pIx (dL 0) (dC (.int 0)))) (dCons (dOp pIx (dL 0) (dC (.int 1))) dNil))))
noncomputable def f_law_minus : DFn := mFn 1 (b_law_minus)
noncomputable def b_law_product (m_law_fraction : DFn) : DM := (dRet (dCall m_law_fraction (dCons (dOp pMul (dOp pIx (dL 0) (dC (.int 0))) (dOp pIx (dL 1) (dC (.int 0)))) (dCons (dOp pMul (dOp pIx (dL 0) (dC (.int 1))) (dOp pIx (dL 1) (dC (.int 1)))) dNil))))
noncomputable def f_law_product (m_law_fraction : DFn) : DFn := mFn 2 (b_law_product m_law_fraction)
noncomputable def b_law_number (m_law_fraction : DFn) (m_law_draw : DFn) : DM := (dSeq (dAsg (dCall m_law_draw (dCons (dV 0) (dCons (dOp pIx (dNew (dLst (dCons (dC (.int 7)) (dCons (dC (.int 13)) (dCons (dC (.int 30)) dNil))))) (dCall m_law_draw (dCons (dV 0) (dCons (dC (.int 3)) dNil)))) dNil))) (dPut 1)) (dSeq (dAsg (dOp pIx (dNew (dLst (dCons (dC (.int 1)) (dCons (dC (.int 1)) (dCons (dC (.int 1)) (dCons (dC (.int 2)) (dCons (dC (.int 3)) (dCons (dC (.int 4)) dNil)))))))) (dCall m_law_draw (dCons (dV 0) (dCons (dC (.int 6)) dNil)))) (dPut 2)) (dRet (dCall m_law_fraction (dCons (dOp pMul (dL 1) (dOp pSub (dC (.int 1)) (dOp pMul (dC (.int 2)) (dCall m_law_draw (dCons (dV 0) (dCons (dC (.int 2)) dNil)))))) (dCons (dV 2) dNil))))))
noncomputable def f_law_number (m_law_fraction : DFn) (m_law_draw : DFn) : DFn := mFn 3 (b_law_number m_law_fraction m_law_draw)
noncomputable def b_law_lesser : DM := (dSeq (dAsg (dOp pSub (dOp pMul (dOp pIx (dL 0) (dC (.int 0))) (dOp pIx (dL 1) (dC (.int 2)))) (dOp pMul (dOp pIx (dL 1) (dC (.int 0))) (dOp pIx (dL 0) (dC (.int 2))))) (dPut 2)) (dRet (dOrV (dOp (pCmp (fun i j => decide (i < j))) (dL 2) (dC (.int 0))) (dAndV (dOp pEq (dL 2) (dC (.int 0))) (dOp (pCmp (fun i j => decide (i < j))) (dOp pMul (dOp pIx (dL 0) (dC (.int 1))) (dOp pIx (dL 1) (dC (.int 2)))) (dOp pMul (dOp pIx (dL 1) (dC (.int 1))) (dOp pIx (dL 0) (dC (.int 2)))))))))
noncomputable def f_law_lesser : DFn := mFn 3 (b_law_lesser)
noncomputable def b_law_at (m_law_fraction : DFn) : DM := (dSeq (dAsg (dOp pMul (dOp pIx (dL 0) (dC (.int 1))) (dOp pIx (dL 1) (dC (.int 1)))) (dPut 2)) (dSeq (dAsg (dCall m_law_fraction (dCons (dOp pMul (dOp pIx (dL 0) (dC (.int 0))) (dOp pIx (dL 1) (dC (.int 1)))) (dCons (dV 2) dNil))) (dPut 3)) (dSeq (dAsg (dCall m_law_fraction (dCons (dOp pMul (dOp pIx (dL 1) (dC (.int 0))) (dOp pIx (dL 0) (dC (.int 1)))) (dCons (dV 2) dNil))) (dPut 4)) (dSeq (dAsg (dCall m_law_fraction (dCons (dOp pIx (dL 3) (dC (.int 1))) (dCons (dOp pIx (dL 4) (dC (.int 1))) dNil))) (dPut 5)) (dSeq (dAsg (dOp pMul (dOp pIx (dL 3) (dC (.int 1))) (dOp pIx (dL 5) (dC (.int 1)))) (dPut 2)) (dRet (dTup (dCons (dOp pMul (dOp pIx (dL 3) (dC (.int 0))) (dOp pDiv (dL 2) (dOp pIx (dL 3) (dC (.int 1))))) (dCons (dOp pMul (dOp pIx (dL 4) (dC (.int 0))) (dOp pDiv (dL 2) (dOp pIx (dL 4) (dC (.int 1))))) (dCons (dV 2) dNil))))))))))
noncomputable def f_law_at (m_law_fraction : DFn) : DFn := mFn 6 (b_law_at m_law_fraction)
noncomputable def b_law_place (m_law_at : DFn) (m_law_number : DFn) : DM := (dRet (dCall m_law_at (dCons (dCall m_law_number (dCons (dV 0) dNil)) (dCons (dCall m_law_number (dCons (dV 0) dNil)) dNil))))
noncomputable def f_law_place (m_law_at : DFn) (m_law_number : DFn) : DFn := mFn 1 (b_law_place m_law_at m_law_number)
noncomputable def b_law_xy (m_law_fraction : DFn) : DM := (dRet (dTup (dCons (dCall m_law_fraction (dCons (dOp pIx (dL 0) (dC (.int 0))) (dCons (dOp pIx (dL 0) (dC (.int 2))) dNil))) (dCons (dCall m_law_fraction (dCons (dOp pIx (dL 0) (dC (.int 1))) (dCons (dOp pIx (dL 0) (dC (.int 2))) dNil))) dNil))))
noncomputable def f_law_xy (m_law_fraction : DFn) : DFn := mFn 1 (b_law_xy m_law_fraction)
noncomputable def b_law_gone (m_law_at : DFn) (m_law_sum : DFn) (m_law_xy : DFn) : DM := (dSeq (dAsg (dCall m_law_xy (dCons (dV 0) dNil)) (dPutT 2 (dPuts1 (dPut 3) (dPuts1 (dPut 4) dPuts0)))) (dRet (dCall m_law_at (dCons (dCall m_law_sum (dCons (dV 3) (dCons (dV 1) dNil))) (dCons (dCall m_law_sum (dCons (dV 4) (dCons (dV 2) dNil))) dNil)))))
noncomputable def f_law_gone (m_law_at : DFn) (m_law_sum : DFn) (m_law_xy : DFn) : DFn := mFn 5 (b_law_gone m_law_at m_law_sum m_law_xy)
noncomputable def b_law_turn : DM := (dSeq (dAsg (dOp pMul (dOp pSub (dOp pMul (dOp pIx (dL 1) (dC (.int 0))) (dOp pIx (dL 0) (dC (.int 2)))) (dOp pMul (dOp pIx (dL 0) (dC (.int 0))) (dOp pIx (dL 1) (dC (.int 2))))) (dOp pSub (dOp pMul (dOp pIx (dL 2) (dC (.int 1))) (dOp pIx (dL 0) (dC (.int 2)))) (dOp pMul (dOp pIx (dL 0) (dC (.int 1))) (dOp pIx (dL 2) (dC (.int 2)))))) (dPut 3)) (dSeq (dAsg (dOp pMul (dOp pSub (dOp pMul (dOp pIx (dL 1) (dC (.int 1))) (dOp pIx (dL 0) (dC (.int 2)))) (dOp pMul (dOp pIx (dL 0) (dC (.int 1))) (dOp pIx (dL 1) (dC (.int 2))))) (dOp pSub (dOp pMul (dOp pIx (dL 2) (dC (.int 0))) (dOp pIx (dL 0) (dC (.int 2)))) (dOp pMul (dOp pIx (dL 0) (dC (.int 0))) (dOp pIx (dL 2) (dC (.int 2)))))) (dPut 4)) (dRet (dOp pSub (dCB (one pInt) (dCons (dOp (pCmp (fun i j => decide (j < i))) (dL 3) (dL 4)) dNil)) (dCB (one pInt) (dCons (dOp (pCmp (fun i j => decide (i < j))) (dL 3) (dL 4)) dNil))))))
noncomputable def f_law_turn : DFn := mFn 5 (b_law_turn)
noncomputable def b_law_squared (m_law_sum : DFn) (m_law_product : DFn) (m_law_minus : DFn) (m_law_xy : DFn) : DM := (dSeq (dAsg (dCall m_law_sum (dCons (dOp pIx (dCall m_law_xy (dCons (dV 1) dNil)) (dC (.int 0))) (dCons (dCall m_law_minus (dCons (dOp pIx (dCall m_law_xy (dCons (dV 0) dNil)) (dC (.int 0))) dNil)) dNil))) (dPut 2)) (dSeq (dAsg (dCall m_law_sum (dCons (dOp pIx (dCall m_law_xy (dCons (dV 1) dNil)) (dC (.int 1))) (dCons (dCall m_law_minus (dCons (dOp pIx (dCall m_law_xy (dCons (dV 0) dNil)) (dC (.int 1))) dNil)) dNil))) (dPut 3)) (dRet (dCall m_law_sum (dCons (dCall m_law_product (dCons (dV 2) (dCons (dV 2) dNil))) (dCons (dCall m_law_product (dCons (dV 3) (dCons (dV 3) dNil))) dNil))))))
noncomputable def f_law_squared (m_law_sum : DFn) (m_law_product : DFn) (m_law_minus : DFn) (m_law_xy : DFn) : DFn := mFn 4 (b_law_squared m_law_sum m_law_product m_law_minus m_law_xy)
noncomputable def b_sign : DM := (dSeq (dIfS (dB (dOp (pCmp (fun i j => decide (j < i))) (dL 0) (dC (.int 0)))) (dRet (dC (.int 1))) dSkip) (dSeq (dIfS (dB (dOp (pCmp (fun i j => decide (i < j))) (dL 0) (dC (.int 0)))) (dRet (dUn pNeg (dC (.int 1)))) dSkip) (dRet (dC (.int 0)))))
noncomputable def f_sign : DFn := mFn 1 (b_sign)
noncomputable def b_turn (m_sign : DFn) : DM := (dSeq (dAsg (dOp pMul (dOp pIx (dL 0) (dC (.int 0))) (dOp pSub (dOp pMul (dOp pIx (dL 1) (dC (.int 1))) (dOp pIx (dL 2) (dC (.int 2)))) (dOp pMul (dOp pIx (dL 2) (dC (.int 1))) (dOp pIx (dL 1) (dC (.int 2)))))) (dPut 3)) (dSeq (dAsg (dOp pSub (dL 3) (dOp pMul (dOp pIx (dL 0) (dC (.int 1))) (dOp pSub (dOp pMul (dOp pIx (dL 1) (dC (.int 0))) (dOp pIx (dL 2) (dC (.int 2)))) (dOp pMul (dOp pIx (dL 2) (dC (.int 0))) (dOp pIx (dL 1) (dC (.int 2))))))) (dPut 3)) (dSeq (dAsg (dOp pAdd (dL 3) (dOp pMul (dOp pIx (dL 0) (dC (.int 2))) (dOp pSub (dOp pMul (dOp pIx (dL 1) (dC (.int 0))) (dOp pIx (dL 2) (dC (.int 1)))) (dOp pMul (dOp pIx (dL 2) (dC (.int 0))) (dOp pIx (dL 1) (dC (.int 1))))))) (dPut 3)) (dRet (dCall m_sign (dCons (dV 3) dNil))))))
noncomputable def f_turn (m_sign : DFn) : DFn := mFn 4 (b_turn m_sign)
end T

namespace T
open PySem PySem.Spec L2 DL
end T

namespace T
open PySem PySem.Spec L2 DL
noncomputable def b_neighbours : DM := (dSeq (dIfS (dTr (dL 1)) (dRet (dNew (dCF pZip (dCons (dL 0) (dCons (dOp pAdd (dSl (dL 0) (dAt (dC (.int 1))) dNo) (dSl (dL 0) dNo (dAt (dC (.int 1))))) dNil))))) dSkip) (dRet (dNew (dCF pZip (dCons (dL 0) (dCons (dSl (dL 0) (dAt (dC (.int 1))) dNo) dNil))))))
noncomputable def f_neighbours : DFn := mFn 2 (b_neighbours)
noncomputable def b_law_half_way (m_law_at : DFn) (m_law_product : DFn) (m_law_sum : DFn) (m_law_xy : DFn) : DM := (dSeq (dAsg (dCall m_law_xy (dCons (dV 0) dNil)) (dPutT 2 (dPuts1 (dPut 2) (dPuts1 (dPut 3) dPuts0)))) (dSeq (dAsg (dCall m_law_xy (dCons (dV 1) dNil)) (dPutT 2 (dPuts1 (dPut 4) (dPuts1 (dPut 5) dPuts0)))) (dSeq (dPar 2 3 (dCons (dCall m_law_sum (dCons (dV 2) (dCons (dV 4) dNil))) (dCons (dCall m_law_sum (dCons (dV 3) (dCons (dV 5) dNil))) dNil))) (dRet (dCall m_law_at (dCons (dCall m_law_product (dCons (dV 2) (dCons (dTup (dCons (dC (.int 1)) (dCons (dC (.int 2)) dNil))) dNil))) (dCons (dCall m_law_product (dCons (dV 3) (dCons (dTup (dCons (dC (.int 1)) (dCons (dC (.int 2)) dNil))) dNil))) dNil)))))))
noncomputable def f_law_half_way (m_law_at : DFn) (m_law_product : DFn) (m_law_sum : DFn) (m_law_xy : DFn) : DFn := mFn 6 (b_law_half_way m_law_at m_law_product m_law_sum m_law_xy)
end T

namespace T
open PySem PySem.Spec L2 DL
end T

namespace T
open PySem PySem.Spec L2 DL
noncomputable def b_edges (m_neighbours : DFn) : DM := (dRet (dCall m_neighbours (dCons (dV 0) (dCons (dC (.bl true)) dNil))))
noncomputable def f_edges (m_neighbours : DFn) : DFn := mFn 1 (b_edges m_neighbours)
end T

namespace T
open PySem PySem.Spec L2 DL
end T

namespace T
open PySem PySem.Spec L2 DL
end T

namespace T
open PySem PySem.Spec L2 DL
end T

namespace T
open PySem PySem.Spec L2 DL
end T

namespace T
open PySem PySem.Spec L2 DL
noncomputable def b_law_farther (m_law_sum : DFn) (m_law_minus : DFn) (m_law_squared : DFn) (m_law_turn : DFn) : DM := (dSeq (dAsg (dCall m_law_turn (dCons (dV 0) (dCons (dV 1) (dCons (dV 2) dNil)))) (dPut 3)) (dSeq (dIfS (dB (dOp pNe (dL 3) (dC (.int 0)))) (dRet (dOp (pCmp (fun i j => decide (i < j))) (dL 3) (dC (.int 0)))) dSkip) (dRet (dOp (pCmp (fun i j => decide (i < j))) (dOp pIx (dCall m_law_sum (dCons (dCall m_law_squared (dCons (dV 0) (dCons (dV 1) dNil))) (dCons (dCall m_law_minus (dCons (dCall m_law_squared (dCons (dV 0) (dCons (dV 2) dNil))) dNil)) dNil))) (dC (.int 0))) (dC (.int 0))))))
noncomputable def f_law_farther (m_law_sum : DFn) (m_law_minus : DFn) (m_law_squared : DFn) (m_law_turn : DFn) : DFn := mFn 4 (b_law_farther m_law_sum m_law_minus m_law_squared m_law_turn)
noncomputable abbrev l3_law_hull (m_law_farther : DFn) (m_law_lesser : DFn) : DM := (dIfS (dTr (dCall m_law_lesser (dCons (dV 2) (dCons (dV 1) dNil)))) (dAsg (dV 2) (dPut 1)) dSkip)
noncomputable abbrev l2_law_hull (m_law_farther : DFn) (m_law_lesser : DFn) : DM := (dIfS (dAnd (dB (dOp pNe (dL 2) (dL 4))) (dOr (dB (dOp pIsN (dL 5) (dC .non))) (dTr (dCall m_law_farther (dCons (dV 4) (dCons (dV 5) (dCons (dV 2) dNil))))))) (dAsg (dV 2) (dPut 5)) dSkip)
noncomputable abbrev l1_law_hull (m_law_farther : DFn) (m_law_lesser : DFn) : DM := (dSeq (dApp 3 (dV 4)) (dSeq (dAsg (dC .non) (dPut 5)) (dSeq (dFor (dV 0) (dPut 2) (l2_law_hull m_law_farther m_law_lesser)) (dAsg (dIf (dOr (dB (dOp pIsN (dL 5) (dC .non))) (dB (dOp (pCmp (fun i j => decide (j < i))) (dCB (one pLen) (dCons (dL 3) dNil)) (dCB (one pLen) (dCons (dL 0) dNil))))) (dV 1) (dV 5)) (dPut 4)))))
noncomputable def b_law_hull (m_law_farther : DFn) (m_law_lesser : DFn) : DM := (dSeq (dAsg (dOp pIx (dL 0) (dC (.int 0))) (dPut 1)) (dSeq (dFor (dV 0) (dPut 2) (l3_law_hull m_law_farther m_law_lesser)) (dSeq (dAsgF 3 (dLst dNil)) (dSeq (dAsg (dV 1) (dPut 4)) (dSeq (dWhile (dOr (dB (dOp pNe (dL 4) (dL 1))) (dB (dOp pEq (dL 3) (dNew (dLst dNil))))) (l1_law_hull m_law_farther m_law_lesser)) (dRet (dIf (dB (dOp (pCmp (fun i j => decide (j < i))) (dCB (one pLen) (dCons (dL 3) dNil)) (dC (.int 2)))) (dCB (one pTuple) (dCons (dL 3) dNil)) (dC .non))))))))
noncomputable def f_law_hull (m_law_farther : DFn) (m_law_lesser : DFn) : DFn := mFn 6 (b_law_hull m_law_farther m_law_lesser)
noncomputable abbrev l1_law_round_shape (m_law_hull : DFn) (m_law_gone : DFn) (m_law_product : DFn) (m_law_fraction : DFn) (m_law_draw : DFn) (m_law_turn : DFn) (m_law_place : DFn) : DM := (dSeq (dApp 6 (dV 5)) (dAsg (dCall m_law_gone (dCons (dV 5) (dCons (dCall m_law_product (dCons (dTup (dCons (dV 7) (dCons (dC (.int 1)) dNil))) (dCons (dV 4) dNil))) (dCons (dCall m_law_product (dCons (dTup (dCons (dV 8) (dCons (dC (.int 1)) dNil))) (dCons (dV 4) dNil))) dNil)))) (dPut 5)))
noncomputable def b_law_round_shape (m_law_hull : DFn) (m_law_gone : DFn) (m_law_product : DFn) (m_law_fraction : DFn) (m_law_draw : DFn) (m_law_turn : DFn) (m_law_place : DFn) : DM := (dSeq (dAsgF 1 (dComp1 [0] (dRange (dCons (dC (.int 3)) dNil)) dYes (dCall m_law_place (dCons (dV 1) dNil)))) (dSeq (dIfS (dAnd (dB (dOp pEq (dCall m_law_draw (dCons (dV 0) (dCons (dC (.int 3)) dNil))) (dC (.int 0)))) (dB (dOp pNe (dCall m_law_turn (dCons (dOp pIx (dL 1) (dC (.int 0))) (dCons (dOp pIx (dL 1) (dC (.int 1))) (dCons (dOp pIx (dL 1) (dC (.int 2))) dNil)))) (dC (.int 0))))) (dRet (dCall m_law_hull (dCons (dV 1) dNil))) dSkip) (dSeq (dAsgF 2 (dLst (dCons (dTup (dCons (dC (.int 1)) (dCons (dC (.int 0)) dNil))) (dCons (dTup (dCons (dC (.int 2)) (dCons (dC (.int 1)) dNil))) (dCons (dTup (dCons (dC (.int 1)) (dCons (dC (.int 1)) dNil))) (dCons (dTup (dCons (dC (.int 1)) (dCons (dC (.int 2)) dNil))) (dCons (dTup (dCons (dC (.int 0)) (dCons (dC (.int 1)) dNil))) (dCons (dTup (dCons (dUn pNeg (dC (.int 1))) (dCons (dC (.int 2)) dNil))) (dCons (dTup (dCons (dUn pNeg (dC (.int 1))) (dCons (dC (.int 1)) dNil))) (dCons (dTup (dCons (dUn pNeg (dC (.int 2))) (dCons (dC (.int 1)) dNil))) dNil)))))))))) (dSeq (dAsgF 3 (dComp1 [0] (dItems (dV 2)) (dB (dOp pEq (dCall m_law_draw (dCons (dV 1) (dCons (dC (.int 3)) dNil))) (dC (.int 0)))) (dV 0))) (dSeq (dAsg (dIf (dB (dOp (pCmp (fun i j => decide (j < i))) (dCB (one pLen) (dCons (dL 3) dNil)) (dC (.int 1)))) (dV 3) (dNew (dLst (dCons (dOp pIx (dL 2) (dC (.int 0))) (dCons (dOp pIx (dL 2) (dOp pAdd (dC (.int 2)) (dCall m_law_draw (dCons (dV 0) (dCons (dC (.int 5)) dNil))))) dNil))))) (dPut 3)) (dSeq (dAsg (dCall m_law_fraction (dCons (dOp pAdd (dC (.int 1)) (dCall m_law_draw (dCons (dV 0) (dCons (dC (.int 5)) dNil)))) (dCons (dOp pAdd (dC (.int 1)) (dCall m_law_draw (dCons (dV 0) (dCons (dC (.int 3)) dNil)))) dNil))) (dPut 4)) (dSeq (dAsg (dOp pIx (dL 1) (dC (.int 0))) (dPut 5)) (dSeq (dAsgF 6 (dLst dNil)) (dSeq (dFor (dNew (dOpF pAddL (dL 3) (dNew (dComp2 [] (dItems (dV 3)) dYes (dTup (dCons (dOp pSub (dC (.int 0)) (dL 0)) (dCons (dOp pSub (dC (.int 0)) (dL 1)) dNil))))))) (dPutT 2 (dPuts1 (dPut 7) (dPuts1 (dPut 8) dPuts0))) (l1_law_round_shape m_law_hull m_law_gone m_law_product m_law_fraction m_law_draw m_law_turn m_law_place)) (dRet (dCall m_law_hull (dCons (dV 6) dNil))))))))))))
noncomputable def f_law_round_shape (m_law_hull : DFn) (m_law_gone : DFn) (m_law_product : DFn) (m_law_fraction : DFn) (m_law_draw : DFn) (m_law_turn : DFn) (m_law_place : DFn) : DFn := mFn 9 (b_law_round_shape m_law_hull m_law_gone m_law_product m_law_fraction m_law_draw m_law_turn m_law_place)
noncomputable abbrev l1_law_places (m_law_gone : DFn) (m_law_fraction : DFn) (m_law_draw : DFn) (m_law_half_way : DFn) (m_law_place : DFn) : DM := (dSeq (dApp 7 (dCall m_law_half_way (dCons (dV 8) (dCons (dV 9) dNil)))) (dApp 7 (dCall m_law_gone (dCons (dOp pIx (dL 7) (dUn pNeg (dC (.int 1)))) (dCons (dCall m_law_fraction (dCons (dOp pSub (dCall m_law_draw (dCons (dV 0) (dCons (dC (.int 3)) dNil))) (dC (.int 1))) (dCons (dC (.int 997)) dNil))) (dCons (dCall m_law_fraction (dCons (dC (.int 1)) (dCons (dC (.int 991)) dNil))) dNil))))))
noncomputable def b_law_places (m_law_gone : DFn) (m_law_fraction : DFn) (m_law_draw : DFn) (m_law_half_way : DFn) (m_law_place : DFn) : DM := (dSeq (dAsg (dCall m_law_draw (dCons (dV 0) (dCons (dCB (one pLen) (dCons (dL 1) dNil)) dNil))) (dPut 2)) (dSeq (dAsg (dCall m_law_draw (dCons (dV 0) (dCons (dCB (one pLen) (dCons (dL 1) dNil)) dNil))) (dPut 3)) (dSeq (dPar3 4 5 6 (dCons (dOp pIx (dL 1) (dOp pSub (dL 2) (dC (.int 1)))) (dCons (dOp pIx (dL 1) (dL 2)) (dCons (dOp pIx (dL 1) (dL 3)) dNil)))) (dSeq (dAsgF 7 (dLst (dCons (dV 4) (dCons (dCall m_law_place (dCons (dV 0) dNil)) dNil)))) (dSeq (dFor (dNew (dLst (dCons (dTup (dCons (dV 4) (dCons (dV 5) dNil))) (dCons (dTup (dCons (dV 4) (dCons (dV 6) dNil))) dNil)))) (dPutT 2 (dPuts1 (dPut 8) (dPuts1 (dPut 9) dPuts0))) (l1_law_places m_law_gone m_law_fraction m_law_draw m_law_half_way m_law_place)) (dRet (dV 7)))))))
noncomputable def f_law_places (m_law_gone : DFn) (m_law_fraction : DFn) (m_law_draw : DFn) (m_law_half_way : DFn) (m_law_place : DFn) : DFn := mFn 10 (b_law_places m_law_gone m_law_fraction m_law_draw m_law_half_way m_law_place)
noncomputable def b_law_sides (m_law_turn : DFn) : DM := (dRet (dNew (dComp1 [1, 0] (dRange (dCons (dCB (one pLen) (dCons (dL 0) dNil)) dNil)) dYes (dCall m_law_turn (dCons (dOp pIx (dL 2) (dOp pSub (dL 0) (dC (.int 1)))) (dCons (dOp pIx (dL 2) (dL 0)) (dCons (dV 1) dNil)))))))
noncomputable def f_law_sides (m_law_turn : DFn) : DFn := mFn 2 (b_law_sides m_law_turn)
noncomputable abbrev l1_belongs (m_turn : DFn) (m_edges : DFn) : DM := (dIfS (dB (dOp pEq (dCall m_turn (dCons (dV 2) (dCons (dV 3) (dCons (dV 1) dNil)))) (dUn pNeg (dC (.int 1))))) (dRet (dC (.bl false))) dSkip)
noncomputable def b_belongs (m_turn : DFn) (m_edges : DFn) : DM := (dSeq (dFor (dCall m_edges (dCons (dV 0) dNil)) (dPutT 2 (dPuts1 (dPut 2) (dPuts1 (dPut 3) dPuts0))) (l1_belongs m_turn m_edges)) (dRet (dC (.bl true))))
noncomputable def f_belongs (m_turn : DFn) (m_edges : DFn) : DFn := mFn 4 (b_belongs m_turn m_edges)
noncomputable abbrev l1_in_area (m_belongs : DFn) : DM := (dIfS (dTr (dCall m_belongs (dCons (dV 2) (dCons (dV 1) dNil)))) (dRet (dC (.bl true))) dSkip)
noncomputable def b_in_area (m_belongs : DFn) : DM := (dSeq (dFor (dV 0) (dPut 2) (l1_in_area m_belongs)) (dRet (dC (.bl false))))
noncomputable def f_in_area (m_belongs : DFn) : DFn := mFn 3 (b_in_area m_belongs)
noncomputable abbrev l1_is_within (m_turn : DFn) (m_edges : DFn) : DM := (dIfS (dB (dOp pNe (dCall m_turn (dCons (dV 2) (dCons (dV 3) (dCons (dV 1) dNil)))) (dC (.int 1)))) (dRet (dC (.bl false))) dSkip)
noncomputable def b_is_within (m_turn : DFn) (m_edges : DFn) : DM := (dSeq (dFor (dCall m_edges (dCons (dV 0) dNil)) (dPutT 2 (dPuts1 (dPut 2) (dPuts1 (dPut 3) dPuts0))) (l1_is_within m_turn m_edges)) (dRet (dC (.bl true))))
noncomputable def f_is_within (m_turn : DFn) (m_edges : DFn) : DFn := mFn 4 (b_is_within m_turn m_edges)
noncomputable abbrev l2_LAWk12 (m_in_area : DFn) (m_is_within : DFn) (m_belongs : DFn) (m_law_sides : DFn) (m_law_places : DFn) (m_law_draw : DFn) (m_law_round_shape : DFn) (m_law_feed : DFn) : DM := (dSeq (dAsgF 6 (dComp1 [5] (dItems (dV 3)) dYes (dCB (one pMin) (dCons (dCall m_law_sides (dCons (dV 0) (dCons (dV 1) dNil))) dNil)))) (dSeq (dIfS (dB (dOp pNe (dCB (one pRepr) (dCons (dNew (dComp1 [5] (dItems (dV 3)) dYes (dCall m_belongs (dCons (dV 0) (dCons (dV 1) dNil))))) dNil)) (dCB (one pRepr) (dCons (dNew (dComp1 [] (dItems (dV 6)) dYes (dOp (pCmp (fun i j => decide (j ≤ i))) (dL 0) (dC (.int 0))))) dNil)))) (dRet (dC (.bl false))) dSkip) (dSeq (dIfS (dB (dOp pNe (dCB (one pRepr) (dCons (dNew (dComp1 [5] (dItems (dV 3)) dYes (dCall m_is_within (dCons (dV 0) (dCons (dV 1) dNil))))) dNil)) (dCB (one pRepr) (dCons (dNew (dComp1 [] (dItems (dV 6)) dYes (dOp (pCmp (fun i j => decide (j < i))) (dL 0) (dC (.int 0))))) dNil)))) (dRet (dC (.bl false))) dSkip) (dIfS (dOr (dB (dOp pNe (dCB (one pRepr) (dCons (dCall m_in_area (dCons (dCB (one pTuple) (dCons (dL 3) dNil)) (dCons (dV 5) dNil))) dNil)) (dCB (one pRepr) (dCons (dOp (pCmp (fun i j => decide (j ≤ i))) (dCB (one pMax) (dCons (dL 6) dNil)) (dC (.int 0))) dNil)))) (dB (dOp pIsNotB (dCall m_in_area (dCons (dTup dNil) (dCons (dV 5) dNil))) (dC (.bl false))))) (dRet (dC (.bl false))) dSkip))))
noncomputable abbrev l1_LAWk12 (m_in_area : DFn) (m_is_within : DFn) (m_belongs : DFn) (m_law_sides : DFn) (m_law_places : DFn) (m_law_draw : DFn) (m_law_round_shape : DFn) (m_law_feed : DFn) : DM := (dSeq (dAsgF 3 (dComp1 [1] (dRange (dCons (dOp pAdd (dC (.int 1)) (dCall m_law_draw (dCons (dV 1) (dCons (dC (.int 3)) dNil)))) dNil)) dYes (dCall m_law_round_shape (dCons (dV 1) dNil)))) (dSeq (dAsg (dCB (one pRepr) (dCons (dL 3) dNil)) (dPut 4)) (dSeq (dFor (dOp pAdd (dCall m_law_places (dCons (dV 1) (dCons (dOp pIx (dL 3) (dC (.int 0))) dNil))) (dCall m_law_places (dCons (dV 1) (dCons (dOp pIx (dL 3) (dUn pNeg (dC (.int 1)))) dNil)))) (dPut 5) (l2_LAWk12 m_in_area m_is_within m_belongs m_law_sides m_law_places m_law_draw m_law_round_shape m_law_feed)) (dIfS (dB (dOp pNe (dCB (one pRepr) (dCons (dL 3) dNil)) (dL 4))) (dRet (dC (.bl false))) dSkip))))
noncomputable def b_LAWk12 (m_in_area : DFn) (m_is_within : DFn) (m_belongs : DFn) (m_law_sides : DFn) (m_law_places : DFn) (m_law_draw : DFn) (m_law_round_shape : DFn) (m_law_feed : DFn) : DM := (dSeq (dAsg (dCall m_law_feed (dCons (dV 0) dNil)) (dPut 1)) (dSeq (dForR (dCons (dC (.int 3)) dNil) (dPut 2) (l1_LAWk12 m_in_area m_is_within m_belongs m_law_sides m_law_places m_law_draw m_law_round_shape m_law_feed)) (dRet (dC (.bl true)))))
noncomputable def f_LAWk12 (m_in_area : DFn) (m_is_within : DFn) (m_belongs : DFn) (m_law_sides : DFn) (m_law_places : DFn) (m_law_draw : DFn) (m_law_round_shape : DFn) (m_law_feed : DFn) : DFn := mFn 7 (b_LAWk12 m_in_area m_is_within m_belongs m_law_sides m_law_places m_law_draw m_law_round_shape m_law_feed)
end T

namespace DL
open PySem L2
theorem log2_small {n k : Nat} (hk : 0 < k) (h : n < 2 ^ k) : n.log2 < k := by
  by_cases h0 : n = 0
  · subst h0; simpa using hk
  · exact (Nat.log2_lt h0).mpr h
theorem bitsOk_of {i : Int} (h : i.natAbs < 2 ^ 200) : bitsOk i = true := by
  have := log2_small (by decide) h
  exact decide_eq_true (by omega)
theorem divOk_of {j : Int} (h0 : j ≠ 0) (h : j.natAbs < 2 ^ 200) : divOk j = true := by
  have := log2_small (by decide) h
  unfold divOk
  rw [decide_eq_true h0, Bool.true_and]
  exact decide_eq_true (by omega)
theorem eqOk_int (i : Int) : eqOk (.int i) = true := by simp [eqOk, D.plain, D.py, SeqAt.shaped, PyData.canLay0, PyData.depth]
theorem pNe_int (i j : Int) : pNe (.int i) (.int j) = some (.bl (!decide (i = j))) := by
  simp only [pNe, eqOk_int, Bool.and_self, if_true, D.py, PyData.eqv, Bool.beq_eq_decide_eq]
theorem pEq_int (i j : Int) : pEq (.int i) (.int j) = some (.bl (decide (i = j))) := by
  simp only [pEq, eqOk_int, Bool.and_self, if_true, D.py, PyData.eqv, Bool.beq_eq_decide_eq]
theorem pNe_str (x y : Str) : pNe (.str x) (.str y) = some (.bl (!decide (x = y))) := rfl
theorem len_int {i : Int} (h : i.natAbs.log2 < 1920) : (PySem.Str.ofString (toString i)).length ≤ 1921 := PyProof.Rows.int_text_len_1921 h
theorem pRepr_of {d : D} (h : showOk d = true) : pRepr d = some (.str d.py.shown) := by unfold pRepr; rw [if_pos h]
theorem get_a (f : FS) (h : f.kind = 0) : f.get "at" = some (.int f.pos) := by unfold FS.get; rw [if_pos h, if_neg (by decide +kernel), if_pos rfl]
theorem atI_ok {α : Type} {xs : List α} {i : Int} (h0 : 0 ≤ i) (h1 : i < xs.length) : atI xs i = xs[i.toNat]? := by
  unfold atI ixN
  rw [if_pos h0, if_pos h1]
  rfl
theorem fmod_rng {a b : Int} (h : 0 < b) : 0 ≤ a.fmod b ∧ a.fmod b < b := by
  rw [Int.fmod_eq_emod_of_nonneg a (by omega)]
  exact ⟨Int.emod_nonneg a (by omega), Int.emod_lt_of_pos a h⟩
end DL

namespace DL
open PySem L2
theorem seq_next {a b : DM} {s s1 : DS} (h : a s = some (.next, s1)) : dSeq a b s = b s1 := by simp [dSeq, h, dThen]
theorem seq_ret {a b : DM} {s s1 : DS} {d : D} (h : a s = some (.ret d, s1)) : dSeq a b s = some (.ret d, s1) := by simp [dSeq, h, dThen]
theorem asg_put {f : DE} {i : Nat} {s s1 : DS} {d : D} (h : f s = some (d, s1)) : dAsg f (dPut i) s = some (.next, { s1 with sl := s1.sl.set i (.val d) }) := by simp [dAsg, h, dPut]
theorem call_e {m : DFn} {a : DA} {s s1 : DS} {xs : List D} {d : D} {fs : Option FS} (ha : a s = some (xs, s1)) (hm : m xs s1.fs = some (d, fs)) : dCall m a s = some (d, { s1 with fs := fs }) := by
  unfold dCall
  rw [ha, Option.bind_some, hm]
  rfl
theorem op_e {p : D → D → Option D} {a b : DE} {s s1 s2 : DS} {x y z : D} (h1 : a s = some (x, s1)) (h2 : b s1 = some (y, s2)) (h3 : p x y = some z) : dOp p a b s = some (z, s2) := by
  unfold dOp
  rw [h1, Option.bind_some, h2, Option.bind_some, h3]
  rfl
theorem cons_e {a : DE} {b : DA} {s s1 s2 : DS} {x : D} {xs : List D} (h1 : a s = some (x, s1)) (h2 : b s1 = some (xs, s2)) : dCons a b s = some (x :: xs, s2) := by
  unfold dCons
  rw [h1, Option.bind_some, h2]
  rfl
theorem asg_e {f : DE} {t : D → DS → Option DS} {s s1 s2 : DS} {d : D} (h1 : f s = some (d, s1)) (h2 : t d s1 = some s2) : dAsg f t s = some (.next, s2) := by
  unfold dAsg
  rw [h1, Option.bind_some, h2]
  rfl
theorem ifS_t {c : DT} {a b : DM} {s s1 : DS} (h : c s = some (true, s1)) : dIfS c a b s = a s1 := by simp [dIfS, h]
theorem ifS_f {c : DT} {a b : DM} {s s1 : DS} (h : c s = some (false, s1)) : dIfS c a b s = b s1 := by simp [dIfS, h]
theorem ret_of {f : DE} {s s1 : DS} {d : D} (h : f s = some (d, s1)) : dRet f s = some (.ret d, s1) := by simp [dRet, h]
theorem dB_of {f : DE} {s s1 : DS} {b : Bool} (h : f s = some (.bl b, s1)) : dB f s = some (b, s1) := by simp [dB, h]
theorem mFn_ret {n : Nat} {b : DM} {ds : List D} {fs : Option FS} {d : D} {s : DS} (h : b ⟨ds.map .val ++ List.replicate (n - ds.length) .no, fs⟩ = some (.ret d, s)) : mFn n b ds fs = some (d, s.fs) := by simp [mFn, h]
theorem cp_e {m : DFn} {a : DA} {sl : List Sl} {fs : Option FS} {xs : List D} {d : D} (ha : a ⟨sl, fs⟩ = some (xs, ⟨sl, fs⟩)) (hm : m xs fs = some (d, fs)) : dCall m a ⟨sl, fs⟩ = some (d, ⟨sl, fs⟩) := call_e (s1 := ⟨sl, fs⟩) ha hm
theorem cl_e {m : DFn} {a : DA} {sl : List Sl} {fs fs' : Option FS} {xs : List D} {d : D} (ha : a ⟨sl, fs⟩ = some (xs, ⟨sl, fs⟩)) (hm : m xs fs = some (d, fs')) : dCall m a ⟨sl, fs⟩ = some (d, ⟨sl, fs'⟩) := call_e (s1 := ⟨sl, fs⟩) ha hm
theorem cl_e2 {m : DFn} {a : DA} {sl sl' : List Sl} {fs fs' fs2 : Option FS} {xs : List D} {d : D} (ha : a ⟨sl, fs⟩ = some (xs, ⟨sl', fs'⟩)) (hm : m xs fs' = some (d, fs2)) : dCall m a ⟨sl, fs⟩ = some (d, ⟨sl', fs2⟩) := call_e (s1 := ⟨sl', fs'⟩) ha hm
theorem tup3_e {a b c : DE} {s s1 s2 s3 : DS} {x y z : D} (h1 : a s = some (x, s1)) (h2 : b s1 = some (y, s2)) (h3 : c s2 = some (z, s3)) : dTup (dCons a (dCons b (dCons c dNil))) s = some (.tup [x, y, z], s3) := by
  unfold dTup
  rw [cons_e h1 (cons_e h2 (cons_e h3 rfl)), Option.bind_some]
  exact if_pos (e := (none : Option (D × DS))) (show 3 ≤ sizeLine by decide)
theorem forL_go {t : D → DS → Option DS} {b : DM} {d : D} {r : List D} {s s1 s2 : DS} (h1 : t d s = some s1) (h2 : b s1 = some (.next, s2)) : dForL t b (d :: r) s = dForL t b r s2 := by
  rw [dForL, h1, Option.bind_some, h2]
  rfl
theorem tup2_e {a b : DE} {s s1 s2 : DS} {x y : D} (h1 : a s = some (x, s1)) (h2 : b s1 = some (y, s2)) : dTup (dCons a (dCons b dNil)) s = some (.tup [x, y], s2) := by
  unfold dTup
  rw [cons_e h1 (cons_e h2 rfl), Option.bind_some]
  exact if_pos (e := (none : Option (D × DS))) (show 2 ≤ sizeLine by decide)
theorem parS_e {i j : Nat} {f : DA} {s s1 s2 : DS} {a b : D} (h : f s = some ([a, b], s1)) (e : { s1 with sl := (s1.sl.set i (.val a)).set j (.val b) } = s2) : dPar i j f s = some (.next, s2) := by
  unfold dPar
  rw [h]
  exact congrArg (fun z => some (Fl.next, z)) e
theorem tr_e {f : DE} {s s1 : DS} {b : Bool} (h : f s = some (.bl b, s1)) : dTr f s = some (b, s1) := by
  unfold dTr
  rw [h]
  rfl
theorem and_tt {a b : DT} {s s1 : DS} {r : Option (Bool × DS)} (h1 : a s = some (true, s1)) (h2 : b s1 = r) : dAnd a b s = r := by
  unfold dAnd
  rw [h1, Option.bind_some, if_pos rfl]
  exact h2
theorem and_ff {a b : DT} {s s1 : DS} (h1 : a s = some (false, s1)) : dAnd a b s = some (false, s1) := by
  unfold dAnd
  rw [h1, Option.bind_some, if_neg Bool.false_ne_true]
theorem or_tt {a b : DT} {s s1 : DS} (h1 : a s = some (true, s1)) : dOr a b s = some (true, s1) := by
  unfold dOr
  rw [h1, Option.bind_some, if_pos rfl]
theorem or_fx {a b : DT} {s s1 : DS} {r : Option (Bool × DS)} (h1 : a s = some (false, s1)) (h2 : b s1 = r) : dOr a b s = r := by
  unfold dOr
  rw [h1, Option.bind_some, if_neg Bool.false_ne_true]
  exact h2
theorem ret2_e {c : DT} {a : DM} {s s1 : DS} (h : c s = some (false, s1)) : dIfS c a dSkip s = some (.next, s1) := by
  rw [ifS_f h]
  rfl
theorem asgO_e {i : Nat} {f : DA} {s s1 : DS} {ds : List D} (h : f s = some (ds, s1)) (hi : i < s1.sl.length) : dAsgF i f s = some (.next, { s1 with sl := s1.sl.set i (.own ds) }) := by
  unfold dAsgF
  rw [h, Option.bind_some, if_pos hi]
theorem comp2_e {idx : List Nat} {fi : DA} {fc : DT} {fe : DE} {s s1 : DS} {ds R : List D} {fs' : Option FS} (h : fi s = some (ds, s1)) (hz : ds.length ≤ sizeLine) (c : dCompL (mk2 idx s1.sl) fc fe ds s1.fs = some (R, fs')) : dComp2 idx fi fc fe s = some (R, { s1 with fs := fs' }) := by
  unfold dComp2
  rw [h, Option.bind_some, if_pos hz, c]
  rfl
theorem newL_e {f : DA} {s s1 : DS} {ds : List D} (h : f s = some (ds, s1)) : dNew f s = some (.lst ds, s1) := by
  unfold dNew
  rw [h]
  rfl
theorem opF_e {p : D → D → Option (List D)} {a b : DE} {s s1 s2 : DS} {x y : D} {z : List D} (h1 : a s = some (x, s1)) (h2 : b s1 = some (y, s2)) (h3 : p x y = some z) : dOpF p a b s = some (z, s2) := by
  unfold dOpF
  rw [h1, Option.bind_some, h2, Option.bind_some, h3]
  rfl
theorem comp1F_e {idx : List Nat} {fi : DA} {fc : DT} {fe : DE} {s s1 : DS} {ds R : List D} (h : fi s = some (ds, s1)) (hz : ds.length ≤ sizeLine) (c : dCompL (fun d => some (.val d :: capS idx s1.sl)) fc fe ds s1.fs = some (R, s1.fs)) : dComp1 idx fi fc fe s = some (R, s1) := by
  unfold dComp1
  rw [h, Option.bind_some, if_pos hz, c]
  rfl
theorem app_e {i : Nat} {f : DE} {s s1 : DS} {ds ds0 : List D} {d : D} (h0 : s.sl[i]? = some (.own ds0)) (h : f s = some (d, s1)) (h1 : s1.sl[i]? = some (.own ds)) (hl : ds.length < sizeLine) : dApp i f s = some (.next, { s1 with sl := s1.sl.set i (.own (ds ++ [d])) }) := by
  unfold dApp
  rw [h0]
  show (f s).bind _ = _
  rw [h, Option.bind_some]
  show (match s1.sl[i]? with | some (.own ds) => _ | _ => _) = _
  rw [h1]
  exact if_pos hl
theorem lst2_e {a b : DE} {s s1 s2 : DS} {x y : D} (h : a s = some (x, s1)) (h2 : b s1 = some (y, s2)) : dLst (dCons a (dCons b dNil)) s = some ([x, y], s2) := by
  unfold dLst
  rw [cons_e h (cons_e h2 rfl), Option.bind_some]
  exact if_pos (e := (none : Option (List D × DS))) (show 2 ≤ sizeLine by decide)
theorem cb1_e {p : D → Option D} {a : DE} {s s1 : DS} {x d : D} (h : a s = some (x, s1)) (hp : p x = some d) : dCB (one p) (dCons a dNil) s = some (d, s1) := by
  unfold dCB
  rw [cons_e h rfl, Option.bind_some]
  show (p x).map _ = _
  rw [hp]
  rfl
theorem if_te {c : DT} {a b : DE} {s s1 : DS} (h : c s = some (true, s1)) : dIf c a b s = a s1 := by
  unfold dIf
  rw [h]
  rfl
theorem if_fe {c : DT} {a b : DE} {s s1 : DS} (h : c s = some (false, s1)) : dIf c a b s = b s1 := by
  unfold dIf
  rw [h]
  rfl
def fr (p : Rat) : D := .tup [.int p.num, .int p.den]
/-- a fraction's size in bits -/
def Sz (k : Nat) (p : Rat) : Prop := p.num.natAbs < 2 ^ k ∧ p.den < 2 ^ k
theorem Sz.mono {k l : Nat} {p : Rat} (h : Sz k p) (hl : k ≤ l) : Sz l p :=
  ⟨Nat.lt_of_lt_of_le h.1 (Nat.pow_le_pow_right (by decide) hl), Nat.lt_of_lt_of_le h.2 (Nat.pow_le_pow_right (by decide) hl)⟩
theorem divInt_le {a b : Int} (hb : b ≠ 0) : (Rat.divInt a b).num.natAbs ≤ a.natAbs ∧ (Rat.divInt a b).den ≤ b.natAbs := by
  constructor
  · rw [Rat.num_divInt, Int.natAbs_ediv_of_dvd (Int.dvd_mul_of_dvd_right (Int.gcd_dvd_right ..))]
    rw [Int.natAbs_mul, Int.natAbs_sign_of_ne_zero hb, Nat.one_mul]
    exact Nat.div_le_self _ _
  · rw [Rat.den_divInt, if_neg hb]
    exact Nat.div_le_self _ _
theorem Sz.of_divInt {k : Nat} {a b : Int} (hb : b ≠ 0) (h1 : a.natAbs < 2 ^ k) (h2 : b.natAbs < 2 ^ k) : Sz k (Rat.divInt a b) :=
  ⟨Nat.lt_of_le_of_lt (divInt_le hb).1 h1, Nat.lt_of_le_of_lt (divInt_le hb).2 h2⟩
theorem bd_mul {a b k l : Nat} (h1 : a < 2 ^ k) (h2 : b < 2 ^ l) : a * b < 2 ^ (k + l) := by
  rw [Nat.pow_add]
  exact Nat.mul_lt_mul_of_lt_of_lt h1 h2
theorem bd_add {a b k : Nat} (h1 : a < 2 ^ k) (h2 : b < 2 ^ k) : a + b < 2 ^ (k + 1) := by
  rw [Nat.pow_succ]; omega
/-- an int's size in bits -/
def Bd (k : Nat) (i : Int) : Prop := i.natAbs < 2 ^ k
theorem Bd.mono {k l : Nat} {i : Int} (h : Bd k i) (hl : k ≤ l) : Bd l i := Nat.lt_of_lt_of_le h (Nat.pow_le_pow_right (by decide) hl)
theorem Bd.mul {k l : Nat} {i j : Int} (h1 : Bd k i) (h2 : Bd l j) : Bd (k + l) (i * j) := by
  unfold Bd; rw [Int.natAbs_mul]; exact bd_mul h1 h2
theorem Bd.add {k l : Nat} {i j : Int} (h1 : Bd k i) (h2 : Bd l j) : Bd (max k l + 1) (i + j) :=
  Nat.lt_of_le_of_lt (Int.natAbs_add_le i j) (bd_add (h1.mono (Nat.le_max_left ..)) (h2.mono (Nat.le_max_right ..)))
theorem Bd.neg {k : Nat} {i : Int} (h1 : Bd k i) : Bd k (-i) := by unfold Bd; rw [Int.natAbs_neg]; exact h1
theorem Bd.sub {k l : Nat} {i j : Int} (h1 : Bd k i) (h2 : Bd l j) : Bd (max k l + 1) (i - j) := by rw [Int.sub_eq_add_neg]; exact h1.add h2.neg
theorem Bd.gcd {k : Nat} {i : Int} {j : Int} (h : Bd k j) (hj : j ≠ 0) : Bd k (Int.gcd i j : Int) := by
  have : Int.gcd i j ≤ j.natAbs := Nat.le_of_dvd (by omega) (Nat.gcd_dvd_right i.natAbs j.natAbs)
  exact Nat.lt_of_le_of_lt this h
theorem Bd.bits {k : Nat} {i : Int} (h : Bd k i) (hk : k ≤ 8000) : bitsOk i = true := by
  have := log2_small (k := 8000) (by decide) (h.mono hk)
  exact decide_eq_true (by omega)
theorem Bd.div {k : Nat} {i : Int} (h : Bd k i) (h0 : i ≠ 0) (hk : k ≤ 8000) : divOk i = true := by
  have := log2_small (k := 8000) (by decide) (h.mono hk)
  unfold divOk
  rw [decide_eq_true h0, Bool.true_and]
  exact decide_eq_true (by omega)
theorem Bd.lit {k : Nat} {i : Int} (h : decide (i.natAbs < 2 ^ k) = true) : Bd k i := by unfold Bd; exact of_decide_eq_true h
theorem Sz.num {k : Nat} {p : Rat} (h : Sz k p) : Bd k p.num := h.1
theorem Sz.den {k : Nat} {p : Rat} (h : Sz k p) : Bd k (p.den : Int) := h.2
theorem den_ne (p : Rat) : (p.den : Int) ≠ 0 := by have := p.den_nz; omega
theorem den_pos (p : Rat) : (0 : Int) < p.den := by have := p.den_nz; omega
theorem rat_eq (p : Rat) : p = Rat.divInt p.num p.den := (Rat.num_divInt_den p).symm
theorem Sz.mul {k l : Nat} {p q : Rat} (h1 : Sz k p) (h2 : Sz l q) : Sz (k + l) (p * q) := by
  rw [rat_eq p, rat_eq q, Rat.divInt_mul_divInt]
  exact Sz.of_divInt (Int.mul_ne_zero (den_ne p) (den_ne q)) (Bd.mul h1.num h2.num) (Bd.mul h1.den h2.den)
theorem Sz.add {k l : Nat} {p q : Rat} (h1 : Sz k p) (h2 : Sz l q) : Sz (k + l + 1) (p + q) := by
  rw [rat_eq p, rat_eq q, Rat.divInt_add_divInt _ _ (den_ne p) (den_ne q)]
  refine Sz.of_divInt (Int.mul_ne_zero (den_ne p) (den_ne q)) ?_ (Bd.mono (Bd.mul h1.den h2.den) (by omega))
  have e1 := Bd.mul h1.num h2.den
  have e2 := Bd.mul h2.num h1.den
  exact Bd.mono (Bd.add e1 e2) (by omega)
theorem Sz.neg {k : Nat} {p : Rat} (h : Sz k p) : Sz k (-p) := ⟨by rw [Rat.neg_num, Int.natAbs_neg]; exact h.1, h.2⟩
theorem Sz.sub {k l : Nat} {p q : Rat} (h1 : Sz k p) (h2 : Sz l q) : Sz (k + l + 1) (p - q) := by rw [Rat.sub_eq_add_neg]; exact h1.add h2.neg
theorem Sz.int {k : Nat} {i : Int} (h : Bd k i) (hk : 1 ≤ k) : Sz k (i : Rat) := ⟨h, Nat.lt_of_lt_of_le (by decide : 1 < 2 ^ 1) (Nat.pow_le_pow_right (by decide) hk)⟩
theorem Sz.lit {k : Nat} {p : Rat} (h : decide (p.num.natAbs < 2 ^ k ∧ p.den < 2 ^ k) = true) : Sz k p := by unfold Sz; exact of_decide_eq_true h
theorem den_of {a b : Int} (hb : 0 < b) : ((Rat.divInt a b).den : Int) = b / (Int.gcd a b : Int) := by
  rw [Rat.den_divInt, if_neg (by omega), Int.gcd_comm]
  rw [Int.natCast_ediv, Int.natAbs_of_nonneg (by omega)]
end DL

namespace DL
open PySem L2
abbrev Pt := Rat × Rat
def pL (a : Pt) : Int := ((Nat.lcm a.1.den a.2.den : Nat) : Int)
def pX (a : Pt) : Int := a.1.num * ((Nat.lcm a.1.den a.2.den / a.1.den : Nat) : Int)
def pY (a : Pt) : Int := a.2.num * ((Nat.lcm a.1.den a.2.den / a.2.den : Nat) : Int)
def pt (a : Pt) : D := .tup [.int (pX a), .int (pY a), .int (pL a)]
theorem lcm_pos (p q : Rat) : 0 < Nat.lcm p.den q.den := Nat.lcm_pos (by have := p.den_nz; omega) (by have := q.den_nz; omega)
theorem pL_pos (a : Pt) : 0 < pL a := by have := lcm_pos a.1 a.2; unfold pL; omega
theorem pL_ne (a : Pt) : pL a ≠ 0 := by have := pL_pos a; omega
theorem pL_posR (a : Pt) : (0 : Rat) < (pL a : Rat) := Rat.intCast_pos.mpr (pL_pos a)
theorem pL_neR (a : Pt) : (pL a : Rat) ≠ 0 := fun h => pL_ne a (Rat.intCast_eq_zero_iff.mp h)
theorem num_eq (p : Rat) : (p.num : Rat) = p * ((p.den : Int) : Rat) := by
  have e := Rat.num_divInt_den p
  rw [Rat.divInt_eq_div] at e
  have hd : ((p.den : Int) : Rat) ≠ 0 := fun h => den_ne p (Rat.intCast_eq_zero_iff.mp h)
  have : (p.num : Rat) / ((p.den : Int) : Rat) * ((p.den : Int) : Rat) = (p.num : Rat) := Rat.div_mul_cancel hd
  rw [e] at this
  exact this.symm
theorem pX_eq (a : Pt) : (pX a : Rat) = a.1 * (pL a : Rat) := by
  unfold pX pL
  obtain ⟨c, hc⟩ := Nat.dvd_lcm_left a.1.den a.2.den
  have hd := a.1.den_nz
  have e : Nat.lcm a.1.den a.2.den / a.1.den = c := Nat.div_eq_of_eq_mul_right (by omega) hc
  rw [e, hc, Int.natCast_mul, Rat.intCast_mul, Rat.intCast_mul, num_eq]
  grind
theorem pY_eq (a : Pt) : (pY a : Rat) = a.2 * (pL a : Rat) := by
  unfold pY pL
  obtain ⟨c, hc⟩ := Nat.dvd_lcm_right a.1.den a.2.den
  have hd := a.2.den_nz
  have e : Nat.lcm a.1.den a.2.den / a.2.den = c := Nat.div_eq_of_eq_mul_right (by omega) hc
  rw [e, hc, Int.natCast_mul, Rat.intCast_mul, Rat.intCast_mul, num_eq]
  grind
structure Ps (k : Nat) (a : Pt) : Prop where
  x : Bd k (pX a)
  y : Bd k (pY a)
  l : Bd k (pL a)
theorem Ps.mono {k l : Nat} {a : Pt} (h : Ps k a) (hl : k ≤ l) : Ps l a := ⟨h.x.mono hl, h.y.mono hl, h.l.mono hl⟩
theorem Ps.of {k l : Nat} {a : Pt} (h1 : Sz k a.1) (h2 : Sz l a.2) : Ps (k + l) a := by
  have hl : Nat.lcm a.1.den a.2.den ≤ a.1.den * a.2.den := Nat.le_of_dvd (Nat.mul_pos (by have := a.1.den_nz; omega) (by have := a.2.den_nz; omega)) (Nat.lcm_dvd_mul ..)
  have b := bd_mul h1.2 h2.2
  have dl : Nat.lcm a.1.den a.2.den / a.1.den ≤ a.2.den := by
    rw [Nat.div_le_iff_le_mul_add_pred (by have := a.1.den_nz; omega)]; omega
  have dr : Nat.lcm a.1.den a.2.den / a.2.den ≤ a.1.den := by
    rw [Nat.div_le_iff_le_mul_add_pred (by have := a.2.den_nz; omega), Nat.mul_comm a.2.den]; omega
  refine ⟨?_, ?_, ?_⟩
  · exact Bd.mul h1.num (show Bd l ((_ : Nat) : Int) from Nat.lt_of_le_of_lt dl h2.2)
  · have := Bd.mul h2.num (show Bd k ((_ : Nat) : Int) from Nat.lt_of_le_of_lt dr h1.2)
    rw [Nat.add_comm]; exact this
  · exact Nat.lt_of_le_of_lt hl b
def cross (a b c : Pt) : Rat := (b.1 - a.1) * (c.2 - a.2) - (b.2 - a.2) * (c.1 - a.1)
def sgn (r : Rat) : Int := if 0 < r then 1 else if r < 0 then -1 else 0
def isgn (n : Int) : Int := if 0 < n then 1 else if n < 0 then -1 else 0
theorem isgn_eq {n : Int} {c r : Rat} (hc : 0 < c) (h : (n : Rat) = c * r) : isgn n = sgn r := by
  unfold isgn sgn
  have h1 : 0 < n ↔ 0 < r := by
    rw [← Rat.intCast_pos, h]; exact Rat.mul_pos_iff_of_pos_left hc
  have h2 : n < 0 ↔ r < 0 := by
    rw [← Rat.intCast_neg_iff, h]; exact Rat.mul_neg_iff_of_pos_left hc
  simp only [h1, h2]
def lsB (a b : Pt) : Bool := decide (a.1 < b.1) || (decide (a.1 = b.1) && decide (a.2 < b.2))
end DL

namespace DL
def LexPos (x y : Rat) : Prop := 0 < x ∨ (x = 0 ∧ 0 < y)
theorem lsB_iff (a b : Pt) : lsB a b = true ↔ LexPos (b.1 - a.1) (b.2 - a.2) := by
  unfold lsB LexPos
  rw [Bool.or_eq_true, Bool.and_eq_true, decide_eq_true_iff, decide_eq_true_iff, decide_eq_true_iff]
  constructor
  · rintro (h | ⟨h1, h2⟩)
    · left; grind
    · right; constructor <;> grind
  · rintro (h | ⟨h1, h2⟩)
    · left; grind
    · right; constructor <;> grind
theorem lex_tri (x y : Rat) (h : ¬ (x = 0 ∧ y = 0)) : LexPos x y ∨ LexPos (-x) (-y) := by
  unfold LexPos
  grind
theorem lex_anti (x y : Rat) (h : LexPos x y) : ¬ LexPos (-x) (-y) := by
  unfold LexPos at *
  grind
theorem lex_mul {x y s : Rat} (hs : 0 < s) : LexPos (s * x) (s * y) ↔ LexPos x y := by
  unfold LexPos
  have h1 : 0 < s * x ↔ 0 < x := Rat.mul_pos_iff_of_pos_left hs
  have h2 : 0 < s * y ↔ 0 < y := Rat.mul_pos_iff_of_pos_left hs
  have h3 : s * x = 0 ↔ x = 0 := by
    rw [Rat.mul_eq_zero]
    constructor
    · rintro (h | h)
      · rw [h] at hs; exact absurd hs Rat.lt_irrefl
      · exact h
    · exact fun h => .inr h
  rw [h1, h2, h3]
theorem lex_zero : ¬ LexPos 0 0 := by unfold LexPos; grind
/-- along a direction: the sign alone counts -/
theorem lex_along {x y : Rat} (h : LexPos x y) (s : Rat) : LexPos (s * x) (s * y) ↔ 0 < s := by
  constructor
  · intro q
    rcases Rat.le_total (a := s) (b := 0) with z | z
    · rcases (Rat.le_iff_lt_or_eq).mp z with z | z
      · have : LexPos (-s * x) (-s * y) := (lex_mul (by grind)).mpr h
        rw [Rat.neg_mul, Rat.neg_mul] at this
        exact absurd this (lex_anti _ _ q)
      · rw [z, Rat.zero_mul, Rat.zero_mul] at q; exact absurd q lex_zero
    · rcases (Rat.le_iff_lt_or_eq).mp z with z | z
      · exact z
      · rw [← z, Rat.zero_mul, Rat.zero_mul] at q; exact absurd q lex_zero
  · intro hs; exact (lex_mul hs).mpr h
def along (a b : Pt) (s : Rat) : Pt := (a.1 + s * (b.1 - a.1), a.2 + s * (b.2 - a.2))
theorem along0 (a b : Pt) : along a b 0 = a := by unfold along; simp [Rat.add_zero]
theorem along1 (a b : Pt) : along a b 1 = b := by unfold along; exact Prod.ext (by grind) (by grind)
/-- on the straight line: by a share -/
theorem share_of {a b c : Pt} (hab : a ≠ b) (h : cross a b c = 0) : ∃ s, c = along a b s := by
  unfold cross at h
  by_cases h1 : b.1 - a.1 = 0
  · have h2 : b.2 - a.2 ≠ 0 := fun z => hab (Prod.ext (by grind) (by grind))
    refine ⟨(c.2 - a.2) / (b.2 - a.2), ?_⟩
    unfold along
    refine Prod.ext ?_ ?_
    · show c.1 = _
      have : (b.2 - a.2) * (c.1 - a.1) = 0 := by grind
      rcases Rat.mul_eq_zero.mp this with z | z
      · exact absurd z h2
      · grind
    · show c.2 = _
      grind
  · refine ⟨(c.1 - a.1) / (b.1 - a.1), ?_⟩
    unfold along
    refine Prod.ext ?_ ?_
    · show c.1 = _
      grind
    · show c.2 = _
      have e : (b.1 - a.1) * (c.2 - a.2) = (b.2 - a.2) * (c.1 - a.1) := by grind
      have : c.2 - a.2 = (c.1 - a.1) / (b.1 - a.1) * (b.2 - a.2) := by grind
      grind
def dsq (a b : Pt) : Rat := (a.1 - b.1) * (a.1 - b.1) + (a.2 - b.2) * (a.2 - b.2)
theorem sq_nonneg (x : Rat) : 0 ≤ x * x := by
  rcases Rat.le_total (a := 0) (b := x) with h | h
  · exact Rat.mul_nonneg h h
  · have := Rat.mul_nonneg (a := -x) (b := -x) (by grind) (by grind)
    grind
theorem sq_pos {x : Rat} (h : x ≠ 0) : 0 < x * x := Rat.lt_of_le_of_ne (sq_nonneg x) (fun z => h (by
  rcases Rat.mul_eq_zero.mp z.symm with q | q <;> exact q))
theorem dsq_pos {a b : Pt} (hab : a ≠ b) : 0 < dsq a b := by
  unfold dsq
  by_cases h1 : a.1 - b.1 = 0
  · have h2 : a.2 - b.2 ≠ 0 := fun z => hab (Prod.ext (by grind) (by grind))
    have := sq_pos h2
    have := sq_nonneg (a.1 - b.1)
    grind
  · have := sq_pos h1
    have := sq_nonneg (a.2 - b.2)
    grind
theorem sq_le_one (s : Rat) : s * s ≤ 1 ↔ (-1 ≤ s ∧ s ≤ 1) := by
  constructor
  · intro h
    constructor
    · rcases Rat.le_total (a := -1) (b := s) with z | z
      · exact z
      · have := Rat.mul_nonneg (a := -1 - s) (b := -1 - s) (by grind) (by grind)
        have := Rat.mul_nonneg (a := -1 - s) (b := 1) (by grind) (by grind)
        grind
    · rcases Rat.le_total (a := s) (b := 1) with z | z
      · exact z
      · have := Rat.mul_nonneg (a := s - 1) (b := s - 1) (by grind) (by grind)
        grind
  · rintro ⟨h1, h2⟩
    have := Rat.mul_nonneg (a := 1 - s) (b := 1 + s) (by grind) (by grind)
    grind
theorem dsq_along (a b : Pt) (s : Rat) : dsq a (along a b s) = s * s * dsq a b ∧ dsq b (along a b s) = (1 - s) * (1 - s) * dsq a b := by
  unfold dsq along
  constructor <;> grind
end DL

namespace DL
open PySem L2
theorem lex_add {x y u v : Rat} (h1 : LexPos x y) (h2 : LexPos u v) : LexPos (x + u) (y + v) := by
  unfold LexPos at *
  grind
theorem lex_add0 {x y u v a : Rat} (ha : 0 ≤ a) (h1 : LexPos x y) (h2 : LexPos u v) : LexPos (a * x + u) (a * y + v) := by
  by_cases h : a = 0
  · subst h
    rw [Rat.zero_mul, Rat.zero_mul, Rat.zero_add, Rat.zero_add]
    exact h2
  · exact lex_add ((lex_mul (by grind)).mpr h1) h2
theorem half_trans {ux uy vx vy wx wy : Rat} (hu : LexPos ux uy) (hv : LexPos vx vy) (hw : LexPos wx wy) (h1 : 0 < ux * vy - uy * vx) (h2 : 0 ≤ vx * wy - vy * wx) : 0 < ux * wy - uy * wx := by
  by_cases c : 0 < ux * wy - uy * wx
  · exact c
  · have k : 0 ≤ -(ux * wy - uy * wx) := by grind
    have a := (lex_mul h1).mpr hw
    have b := lex_add0 k hv (lex_add0 h2 hu a)
    have e1 : -(ux * wy - uy * wx) * vx + ((vx * wy - vy * wx) * ux + (ux * vy - uy * vx) * wx) = 0 := by grind
    have e2 : -(ux * wy - uy * wx) * vy + ((vx * wy - vy * wx) * uy + (ux * vy - uy * vx) * wy) = 0 := by grind
    rw [e1, e2] at b
    exact absurd b lex_zero
def farB (h b o : Pt) : Bool := if cross h b o = 0 then decide (dsq h b < dsq h o) else decide (cross h b o < 0)
def stepB (h : Pt) (b : Option Pt) (o : Pt) : Option Pt := if o = h then b else match b with
  | none => some o
  | some r => if farB h r o then some o else some r
theorem stB_same (h : Pt) (b : Option Pt) : stepB h b h = b := if_pos rfl
theorem stB_none {h o : Pt} (n : o ≠ h) : stepB h none o = some o := if_neg n
theorem stB_far {h r o : Pt} (n : o ≠ h) (f : farB h r o = true) : stepB h (some r) o = some o := (if_neg n).trans (if_pos f)
theorem stB_stay {h r o : Pt} (n : o ≠ h) (f : farB h r o = false) : stepB h (some r) o = some r := (if_neg n).trans (if_neg (by rw [f]; exact Bool.false_ne_true))
/-- the first place: none lies to the right, none farther -/
def Fst (f : Pt) (S : List Pt) (b : Option Pt) : Prop := (b = none ∧ ∀ q ∈ S, q = f) ∨ ∃ p, b = some p ∧ p ∈ S ∧ p ≠ f ∧ ∀ q ∈ S, 0 ≤ cross f p q ∧ (cross f p q = 0 → dsq f q ≤ dsq f p)
def Lst (f : Pt) (q : Pt) : Prop := q = f ∨ LexPos (q.1 - f.1) (q.2 - f.2)
theorem Lst.pos {f q : Pt} (h : Lst f q) (n : q ≠ f) : LexPos (q.1 - f.1) (q.2 - f.2) := h.resolve_left n
theorem dsq_self (f : Pt) : dsq f f = 0 := by unfold dsq; grind
theorem cross_self (f p : Pt) : cross f p f = 0 := by unfold cross; grind
theorem cross_self2 (f p : Pt) : cross f p p = 0 := by unfold cross; grind
theorem dsq_nn' (a b : Pt) : 0 ≤ dsq a b := by unfold dsq; exact Rat.add_nonneg (sq_nonneg _) (sq_nonneg _)
/-- a place on the straight line from the first one -/
theorem on_line {f p z : Pt} (hp : p ≠ f) (lp : Lst f p) (lz : Lst f z) (c : cross f p z = 0) : ∃ s : Rat, 0 ≤ s ∧ z = along f p s := by
  by_cases e : z = f
  · exact ⟨0, by decide, by rw [along0]; exact e⟩
  · obtain ⟨s, hs⟩ := share_of (a := f) (b := p) (fun z => hp z.symm) c
    refine ⟨s, ?_, hs⟩
    have l := lz.pos e
    rw [hs] at l
    unfold along at l
    simp only at l
    have e1 : f.1 + s * (p.1 - f.1) - f.1 = s * (p.1 - f.1) := by grind
    have e2 : f.2 + s * (p.2 - f.2) - f.2 = s * (p.2 - f.2) := by grind
    rw [e1, e2] at l
    exact Rat.le_of_lt ((lex_along (lp.pos hp) s).mp l)
theorem fst_step {f : Pt} {S : List Pt} {b : Option Pt} {o : Pt} (hS : ∀ q ∈ S, Lst f q) (ho : Lst f o) (h : Fst f S b) : Fst f (S ++ [o]) (stepB f b o) := by
  by_cases e : o = f
  · subst e
    rw [stB_same]
    rcases h with ⟨rfl, h⟩ | ⟨p, rfl, h1, h2, h3⟩
    · refine .inl ⟨rfl, fun q hq => ?_⟩
      rcases List.mem_append.mp hq with hq | hq
      · exact h q hq
      · exact List.mem_singleton.mp hq
    · refine .inr ⟨p, rfl, List.mem_append_left _ h1, h2, fun q hq => ?_⟩
      rcases List.mem_append.mp hq with hq | hq
      · exact h3 q hq
      · rw [List.mem_singleton.mp hq, cross_self, dsq_self]
        exact ⟨Rat.le_refl, fun _ => dsq_nn' _ _⟩
  · have lo := ho.pos e
    rcases h with ⟨rfl, h⟩ | ⟨p, rfl, h1, h2, h3⟩
    · rw [stB_none e]
      refine .inr ⟨o, rfl, List.mem_append_right _ (List.mem_singleton.mpr rfl), e, fun q hq => ?_⟩
      rcases List.mem_append.mp hq with hq | hq
      · rw [h q hq, cross_self, dsq_self]
        exact ⟨Rat.le_refl, fun _ => dsq_nn' _ _⟩
      · rw [List.mem_singleton.mp hq, cross_self2]
        exact ⟨Rat.le_refl, fun _ => Rat.le_refl⟩
    · have lp := (hS p h1).pos h2
      cases hf : farB f p o with
      | true =>
        rw [stB_far e hf]
        refine .inr ⟨o, rfl, List.mem_append_right _ (List.mem_singleton.mpr rfl), e, fun q hq => ?_⟩
        rcases List.mem_append.mp hq with hq | hq
        · obtain ⟨c1, c2⟩ := h3 q hq
          by_cases eq : q = f
          · rw [eq, cross_self, dsq_self]
            exact ⟨Rat.le_refl, fun _ => dsq_nn' _ _⟩
          · have lq := (hS q hq).pos eq
            unfold farB at hf
            by_cases c0 : cross f p o = 0
            · rw [if_pos c0] at hf
              have hd := of_decide_eq_true hf
              obtain ⟨s, s0, hs⟩ := on_line h2 (hS p h1) ho c0
              have hc : cross f o q = s * cross f p q := by rw [hs]; unfold along cross; grind
              have s1 : s ≠ 0 := fun z => e (by rw [hs, z, along0])
              refine ⟨by rw [hc]; exact Rat.mul_nonneg s0 c1, fun z => ?_⟩
              rw [hc] at z
              rcases Rat.mul_eq_zero.mp z with z | z
              · exact absurd z s1
              · exact Rat.le_trans (c2 z) (Rat.le_of_lt hd)
            · rw [if_neg c0] at hf
              have hd := of_decide_eq_true hf
              have ht := half_trans lo lp lq (by unfold cross at hd; grind) (by unfold cross at c1; grind)
              have : 0 < cross f o q := by unfold cross; grind
              exact ⟨Rat.le_of_lt this, fun z => by rw [z] at this; exact absurd this Rat.lt_irrefl⟩
        · rw [List.mem_singleton.mp hq, cross_self2]
          exact ⟨Rat.le_refl, fun _ => Rat.le_refl⟩
      | false =>
        rw [stB_stay e hf]
        refine .inr ⟨p, rfl, List.mem_append_left _ h1, h2, fun q hq => ?_⟩
        rcases List.mem_append.mp hq with hq | hq
        · exact h3 q hq
        · rw [List.mem_singleton.mp hq]
          unfold farB at hf
          by_cases c0 : cross f p o = 0
          · rw [if_pos c0] at hf
            have := of_decide_eq_false hf
            exact ⟨by rw [c0]; exact Rat.le_refl, fun _ => by grind⟩
          · rw [if_neg c0] at hf
            have := of_decide_eq_false hf
            exact ⟨by grind, fun z => absurd z c0⟩
theorem fst_fold {f : Pt} : ∀ (l S : List Pt) (b : Option Pt), (∀ q ∈ S ++ l, Lst f q) → Fst f S b → Fst f (S ++ l) (l.foldl (stepB f) b)
  | [], S, b, _, h => by rw [List.append_nil]; exact h
  | o :: r, S, b, hl, h => by
    have e : S ++ o :: r = (S ++ [o]) ++ r := by simp
    rw [List.foldl_cons, e]
    rw [e] at hl
    exact fst_fold r (S ++ [o]) _ hl (fst_step (fun q hq => hl q (List.mem_append_left _ (List.mem_append_left _ hq))) (hl o (List.mem_append_left _ (List.mem_append_right _ (List.mem_singleton.mpr rfl)))) h)
/-- the next place is not the first one -/
def Snd (f p : Pt) (S : List Pt) (b : Option Pt) : Prop := (b = none ∧ ∀ q ∈ S, q = p) ∨ ∃ r, b = some r ∧ r ∈ S ∧ r ≠ p ∧ ((∃ q ∈ S, 0 < cross f p q) → 0 < cross f p r)
theorem share_lt {f p z : Pt} (hp : p ≠ f) (lp : Lst f p) (lz : Lst f z) (c : cross f p z = 0) (hd : dsq f z ≤ dsq f p) (hz : z ≠ p) : ∃ s : Rat, s < 1 ∧ z = along f p s := by
  obtain ⟨s, s0, hs⟩ := on_line hp lp lz c
  refine ⟨s, ?_, hs⟩
  have d := (dsq_along f p s).1
  rw [← hs] at d
  have dp := dsq_pos (fun z => hp z.symm : f ≠ p)
  have ss : s * s ≤ 1 := by
    rcases (Rat.le_total : s * s ≤ 1 ∨ 1 ≤ s * s) with q | q
    · exact q
    · have : dsq f p ≤ s * s * dsq f p := by
        have := Rat.mul_le_mul_of_nonneg_right q (Rat.le_of_lt dp)
        rwa [Rat.one_mul] at this
      rw [← d] at this
      have e : s * s * dsq f p = 1 * dsq f p := by rw [← d, Rat.one_mul]; exact Rat.le_antisymm hd this
      have e2 : (s * s - 1) * dsq f p = 0 := by grind
      rcases Rat.mul_eq_zero.mp e2 with q | q
      · grind
      · rw [q] at dp; exact absurd dp Rat.lt_irrefl
  have s1 := (sq_le_one s).mp ss
  have n1 : s ≠ 1 := fun z1 => hz (by rw [hs, z1, along1])
  grind
theorem snd_step {f p : Pt} {S l : List Pt} {b : Option Pt} {o : Pt} (hp : p ≠ f) (hl : ∀ q ∈ l, Lst f q) (pl : p ∈ l) (F : ∀ q ∈ l, 0 ≤ cross f p q ∧ (cross f p q = 0 → dsq f q ≤ dsq f p)) (hS : ∀ q ∈ S, q ∈ l) (ho : o ∈ l) (h : Snd f p S b) : Snd f p (S ++ [o]) (stepB p b o) := by
  by_cases e : o = p
  · subst e
    rw [stB_same]
    rcases h with ⟨rfl, h⟩ | ⟨r, rfl, h1, h2, h3⟩
    · refine .inl ⟨rfl, fun q hq => ?_⟩
      rcases List.mem_append.mp hq with hq | hq
      · exact h q hq
      · exact List.mem_singleton.mp hq
    · refine .inr ⟨r, rfl, List.mem_append_left _ h1, h2, fun ⟨q, hq, c⟩ => ?_⟩
      rcases List.mem_append.mp hq with hq | hq
      · exact h3 ⟨q, hq, c⟩
      · rw [List.mem_singleton.mp hq, cross_self2] at c
        exact absurd c Rat.lt_irrefl
  · rcases h with ⟨rfl, h⟩ | ⟨r, rfl, h1, h2, h3⟩
    · rw [stB_none e]
      refine .inr ⟨o, rfl, List.mem_append_right _ (List.mem_singleton.mpr rfl), e, fun ⟨q, hq, c⟩ => ?_⟩
      rcases List.mem_append.mp hq with hq | hq
      · rw [h q hq, cross_self2] at c
        exact absurd c Rat.lt_irrefl
      · rw [List.mem_singleton.mp hq] at c
        exact c
    · obtain ⟨ro1, ro2⟩ := F r (hS r h1)
      obtain ⟨oo1, oo2⟩ := F o ho
      cases hf : farB p r o with
      | true =>
        rw [stB_far e hf]
        refine .inr ⟨o, rfl, List.mem_append_right _ (List.mem_singleton.mpr rfl), e, fun ⟨q, hq, c⟩ => ?_⟩
        rcases List.mem_append.mp hq with hq | hq
        · have cr := h3 ⟨q, hq, c⟩
          by_cases z : cross f p o = 0
          · obtain ⟨s, s1, hs⟩ := share_lt hp (hl p pl) (hl o ho) z (oo2 z) e
            have k : cross p r o = (1 - s) * cross f p r := by rw [hs]; unfold along cross; grind
            have k2 : 0 < cross p r o := by rw [k]; exact Rat.mul_pos (by grind) cr
            unfold farB at hf
            rw [if_neg (by grind)] at hf
            have := of_decide_eq_true hf
            grind
          · grind
        · rw [List.mem_singleton.mp hq] at c
          exact c
      | false =>
        rw [stB_stay e hf]
        refine .inr ⟨r, rfl, List.mem_append_left _ h1, h2, fun ⟨q, hq, c⟩ => ?_⟩
        rcases List.mem_append.mp hq with hq | hq
        · exact h3 ⟨q, hq, c⟩
        · rw [List.mem_singleton.mp hq] at c
          by_cases z : cross f p r = 0
          · obtain ⟨s, s1, hs⟩ := share_lt hp (hl p pl) (hl r (hS r h1)) z (ro2 z) h2
            have k : cross p r o = -((1 - s) * cross f p o) := by rw [hs]; unfold along cross; grind
            have k1 : 0 < (1 - s) * cross f p o := Rat.mul_pos (by grind) c
            unfold farB at hf
            rw [if_neg (by grind)] at hf
            have := of_decide_eq_false hf
            grind
          · grind
theorem snd_fold {f p : Pt} {l0 : List Pt} (hp : p ≠ f) (hl : ∀ q ∈ l0, Lst f q) (pl : p ∈ l0) (F : ∀ q ∈ l0, 0 ≤ cross f p q ∧ (cross f p q = 0 → dsq f q ≤ dsq f p)) : ∀ (l S : List Pt) (b : Option Pt), (∀ q ∈ S ++ l, q ∈ l0) → Snd f p S b → Snd f p (S ++ l) (l.foldl (stepB p) b)
  | [], S, b, _, h => by rw [List.append_nil]; exact h
  | o :: r, S, b, hm, h => by
    have e : S ++ o :: r = (S ++ [o]) ++ r := by simp
    rw [List.foldl_cons, e]
    rw [e] at hm
    exact snd_fold hp hl pl F r (S ++ [o]) _ hm (snd_step hp hl pl F (fun q hq => hm q (List.mem_append_left _ (List.mem_append_left _ hq))) (hm o (List.mem_append_left _ (List.mem_append_right _ (List.mem_singleton.mpr rfl)))) h)
/-- not all on one straight line -/
theorem off_line {f p a b c : Pt} (hp : p ≠ f) (h1 : cross f p a = 0) (h2 : cross f p b = 0) (h3 : cross f p c = 0) : cross a b c = 0 := by
  obtain ⟨s, rfl⟩ := share_of (a := f) (b := p) (fun z => hp z.symm) h1
  obtain ⟨t, rfl⟩ := share_of (a := f) (b := p) (fun z => hp z.symm) h2
  obtain ⟨u, rfl⟩ := share_of (a := f) (b := p) (fun z => hp z.symm) h3
  unfold along cross
  grind
noncomputable def bestB (h : Pt) (l : List Pt) : Option Pt := l.foldl (stepB h) none
/-- the first three places that a going round takes -/
theorem three {f : Pt} {l : List Pt} (hf : f ∈ l) (hl : ∀ q ∈ l, Lst f q) {a b c : Pt} (ha : a ∈ l) (hb : b ∈ l) (hc : c ∈ l) (h : cross a b c ≠ 0) : ∃ p r, bestB f l = some p ∧ p ≠ f ∧ p ∈ l ∧ bestB p l = some r ∧ r ≠ f ∧ r ∈ l := by
  have h1 := fst_fold l [] none (by simpa using hl) (.inl ⟨rfl, fun q hq => by cases hq⟩)
  rw [List.nil_append] at h1
  rcases h1 with ⟨_, h1⟩ | ⟨p, e1, p1, p2, p3⟩
  · exact absurd (by rw [h1 a ha, h1 b hb, h1 c hc, cross_self]) h
  · have ex : ∃ q ∈ l, 0 < cross f p q := by
      by_cases z1 : cross f p a = 0
      · by_cases z2 : cross f p b = 0
        · by_cases z3 : cross f p c = 0
          · exact absurd (off_line p2 z1 z2 z3) h
          · have := (p3 c hc).1
            exact ⟨c, hc, by grind⟩
        · have := (p3 b hb).1
          exact ⟨b, hb, by grind⟩
      · have := (p3 a ha).1
        exact ⟨a, ha, by grind⟩
    have h2 := snd_fold p2 hl p1 p3 l [] none (by simp) (.inl ⟨rfl, fun q hq => by cases hq⟩)
    rw [List.nil_append] at h2
    rcases h2 with ⟨_, h2⟩ | ⟨r, e2, r1, r2, r3⟩
    · exact absurd (h2 f hf) (fun z => p2 z.symm)
    · refine ⟨p, r, e1, p2, p1, e2, fun z => ?_, r1⟩
      have := r3 ex
      rw [z, cross_self] at this
      exact absurd this Rat.lt_irrefl
end DL

namespace T
open PySem L2 DL
theorem abs_eq (a : Int) : (if a < 0 then -a else a) = ((a.natAbs : Nat) : Int) := by split <;> omega
theorem fdiv_ex {a g c : Int} (hg : g ≠ 0) (e : a = g * c) : a.fdiv g = c := by subst e; exact Int.mul_fdiv_cancel_left c hg
/-- what a divisor with the bottom's sign leaves -/
theorem parts2 (a b : Int) (hb : b ≠ 0) : let g : Int := if b < 0 then -(Int.gcd a b : Int) else (Int.gcd a b : Int)
    g ≠ 0 ∧ a.fdiv g = (Rat.divInt a b).num ∧ b.fdiv g = ((Rat.divInt a b).den : Int) := by
  intro g
  have g0 : 0 < Int.gcd a b := Int.gcd_pos_of_ne_zero_right a hb
  obtain ⟨c, hc⟩ := Int.gcd_dvd_left a b
  obtain ⟨d, hd⟩ := Int.gcd_dvd_right a b
  have e1 : (Rat.divInt a b).num = if b < 0 then -c else c := by
    rw [Rat.num_divInt, Int.gcd_comm]
    split
    · rename_i h
      rw [Int.sign_eq_neg_one_of_neg h]
      refine Int.ediv_eq_of_eq_mul_right (by omega) ?_
      grind
    · rename_i h
      rw [Int.sign_eq_one_of_pos (by omega), Int.one_mul]
      exact Int.ediv_eq_of_eq_mul_right (by omega) hc
  have e2 : ((Rat.divInt a b).den : Int) = if b < 0 then -d else d := by
    rw [Rat.den_divInt, if_neg hb, Int.gcd_comm, Int.natCast_ediv]
    split
    · refine Int.ediv_eq_of_eq_mul_right (by omega) ?_
      grind
    · refine Int.ediv_eq_of_eq_mul_right (by omega) ?_
      grind
  rw [e1, e2]
  by_cases h : b < 0
  · have eg : g = -(Int.gcd a b : Int) := if_pos h
    rw [eg, if_pos h, if_pos h]
    exact ⟨by omega, fdiv_ex (by omega) (by grind), fdiv_ex (by omega) (by grind)⟩
  · have eg : g = (Int.gcd a b : Int) := if_neg h
    rw [eg, if_neg h, if_neg h]
    exact ⟨by omega, fdiv_ex (by omega) hc, fdiv_ex (by omega) hd⟩
theorem gdiv {k : Nat} {a b : Int} (hb : b ≠ 0) (h : Bd k b) (hk : k ≤ 8000) : divOk (if b < 0 then -(Int.gcd a b : Int) else (Int.gcd a b : Int)) = true := by
  have g0 : 0 < Int.gcd a b := Int.gcd_pos_of_ne_zero_right a hb
  split
  · exact (Bd.gcd h hb).neg.div (by omega) hk
  · exact (Bd.gcd h hb).div (by omega) hk
theorem sz2 : (2 : Nat) ≤ sizeLine := by decide
theorem at20 (a b : D) : atI [a, b] 0 = some a := rfl
theorem at21 (a b : D) : atI [a, b] 1 = some b := rfl
theorem at30 (a b c : D) : atI [a, b, c] 0 = some a := rfl
theorem at31 (a b c : D) : atI [a, b, c] 1 = some b := rfl
theorem at32 (a b c : D) : atI [a, b, c] 2 = some c := rfl
noncomputable abbrev FL : DFn := f_lowest (f_divisor f_divisor_of_two)
noncomputable abbrev FF : DFn := f_fraction FL
end T

namespace T
open PySem L2 DL
abbrev lgT : DT := dB (dOp (pCmp (fun i j => decide (j < i))) (dL 3) (dC (.int 0)))
abbrev lgB : DM := dPar 2 3 (dCons (dV 3) (dCons (dOp pMod (dL 2) (dL 3)) dNil))
theorem lgcd_while (a b : Sl) (fs : Option FS) (r : Nat) : ∀ (g : Nat), dWhile lgT lgB ⟨[a, b, .val (.int g), .val (.int r)], fs⟩ = some (.next, ⟨[a, b, .val (.int (Nat.gcd g r)), .val (.int 0)], fs⟩) := by
  induction r using Nat.strongRecOn with
  | ind r ih =>
    intro g
    by_cases h : r = 0
    · subst h
      rw [Nat.gcd_zero_right]
      exact dWhile_end (by simp [dSeq, dThen, dAsg, dOp, dUn, dC, dL, dV, dPut, dIfS, dB, dRet, dCall, dCons, dNil, dTup, dSkip, dCB, one, dNew, dLst, dIf, dAnd, dOr, dNot, dAndV, dOrV, dNotV, pIx, pAdd, pSub, pNeg, pCmp, pLen, dPutT, dPuts1, dPuts0, dPar, dTr, dTru])
    · have e : ((g : Int).fmod (r : Int)) = ((g % r : Nat) : Int) := by rw [Int.fmod_eq_emod_of_nonneg _ (by omega)]; rfl
      have hy := ih (g % r) (Nat.mod_lt _ (by omega)) r
      have hg : Nat.gcd g r = Nat.gcd r (g % r) := by rw [Nat.gcd_comm g r, Nat.gcd_rec, Nat.gcd_comm]
      rw [hg]
      have hr : ¬ (r : Int) = 0 := by omega
      have hr2 : (0 : Int) < r := by omega
      refine dWhile_turn (s1 := ⟨[a, b, .val (.int g), .val (.int r)], fs⟩) (s2 := ⟨[a, b, .val (.int r), .val (.int ((g % r : Nat) : Int))], fs⟩) (by simp [dSeq, dThen, dAsg, dOp, dUn, dC, dL, dV, dPut, dIfS, dB, dRet, dCall, dCons, dNil, dTup, dSkip, dCB, one, dNew, dLst, dIf, dAnd, dOr, dNot, dAndV, dOrV, dNotV, pIx, pAdd, pSub, pNeg, pCmp, pLen, dPutT, dPuts1, dPuts0, dPar, dTr, dTru]; omega) ?_ hy
      rw [← e]
      simp [dPar, dCons, dNil, dV, dOp, dL, pMod, h]
noncomputable abbrev LF : DFn := f_law_fraction
noncomputable abbrev LS : DFn := f_law_sum LF
noncomputable abbrev LP : DFn := f_law_product LF
theorem lfrac {k : Nat} (a b : Int) (fs : Option FS) (hb : b ≠ 0) (h : Bd k b) (hk : k ≤ 8000) : LF [.int a, .int b] fs = some (fr (Rat.divInt a b), fs) := by
  obtain ⟨p0, p1, p2⟩ := parts2 a b hb
  have dg := gdiv (a := a) hb h hk
  have hy := lgcd_while (.val (.int a)) (.val (.int b)) fs b.natAbs a.natAbs
  refine mFn_ret (s := ⟨[.val (.int a), .val (.int b), .val (.int (if b < 0 then -(Int.gcd a b : Int) else (Int.gcd a b : Int))), .val (.int 0)], fs⟩) ?_
  show b_law_fraction ⟨[.val (.int a), .val (.int b), .no, .no], fs⟩ = _
  unfold b_law_fraction
  rw [seq_next (s1 := ⟨[.val (.int a), .val (.int b), .val (.int a.natAbs), .no], fs⟩) (by simp [dSeq, dThen, dAsg, dOp, dUn, dC, dL, dV, dPut, dIfS, dB, dRet, dCall, dCons, dNil, dTup, dSkip, dCB, one, dNew, dLst, dIf, dAnd, dOr, dNot, dAndV, dOrV, dNotV, pIx, pAdd, pSub, pNeg, pCmp, pLen, dPutT, dPuts1, dPuts0, dPar, dTr, dTru, pAbs, abs_eq])]
  rw [seq_next (s1 := ⟨[.val (.int a), .val (.int b), .val (.int a.natAbs), .val (.int b.natAbs)], fs⟩) (by simp [dSeq, dThen, dAsg, dOp, dUn, dC, dL, dV, dPut, dIfS, dB, dRet, dCall, dCons, dNil, dTup, dSkip, dCB, one, dNew, dLst, dIf, dAnd, dOr, dNot, dAndV, dOrV, dNotV, pIx, pAdd, pSub, pNeg, pCmp, pLen, dPutT, dPuts1, dPuts0, dPar, dTr, dTru, pAbs, abs_eq])]
  rw [seq_next hy]
  rw [seq_next (s1 := ⟨[.val (.int a), .val (.int b), .val (.int (if b < 0 then -(Int.gcd a b : Int) else (Int.gcd a b : Int))), .val (.int 0)], fs⟩) (by
    by_cases nb : b < 0
    · simp [dSeq, dThen, dAsg, dOp, dUn, dC, dL, dV, dPut, dIfS, dB, dRet, dCall, dCons, dNil, dTup, dSkip, dCB, one, dNew, dLst, dIf, dAnd, dOr, dNot, dAndV, dOrV, dNotV, pIx, pAdd, pSub, pNeg, pCmp, pLen, dPutT, dPuts1, dPuts0, dPar, dTr, dTru, nb, Int.gcd]
    · simp [dSeq, dThen, dAsg, dOp, dUn, dC, dL, dV, dPut, dIfS, dB, dRet, dCall, dCons, dNil, dTup, dSkip, dCB, one, dNew, dLst, dIf, dAnd, dOr, dNot, dAndV, dOrV, dNotV, pIx, pAdd, pSub, pNeg, pCmp, pLen, dPutT, dPuts1, dPuts0, dPar, dTr, dTru, nb, Int.gcd])]
  generalize hg : (if b < 0 then -(Int.gcd a b : Int) else (Int.gcd a b : Int)) = gg at *
  refine ret_of ?_
  unfold fr
  rw [← p1, ← p2]
  simp [dSeq, dThen, dAsg, dOp, dUn, dC, dL, dV, dPut, dIfS, dB, dRet, dCall, dCons, dNil, dTup, dSkip, dCB, one, dNew, dLst, dIf, dAnd, dOr, dNot, dAndV, dOrV, dNotV, pIx, pAdd, pSub, pNeg, pCmp, pLen, dPutT, dPuts1, dPuts0, dPar, dTr, dTru, pDiv, dg, sz2]
theorem add_eq (p q : Rat) : p + q = Rat.divInt (p.num * q.den + q.num * p.den) (p.den * q.den) := by
  rw [Rat.add_def', ← Rat.divInt_ofNat]; rfl
theorem mul_eq (p q : Rat) : p * q = Rat.divInt (p.num * q.num) (p.den * q.den) := by
  rw [Rat.mul_def', ← Rat.divInt_ofNat]; rfl
theorem dd_ne (p q : Rat) : (p.den : Int) * q.den ≠ 0 := Int.mul_ne_zero (den_ne p) (den_ne q)
theorem lsum {k l : Nat} (p q : Rat) (fs : Option FS) (h1 : Sz k p) (h2 : Sz l q) (hk : k + l ≤ 8000) : LS [fr p, fr q] fs = some (fr (p + q), fs) := by
  have b1 := h1.num.bits (by omega)
  have b2 := h1.den.bits (by omega)
  have b3 := h2.num.bits (by omega)
  have b4 := h2.den.bits (by omega)
  have e := lfrac (p.num * q.den + q.num * p.den) (p.den * q.den) fs (dd_ne p q) (Bd.mul h1.den h2.den) hk
  rw [← add_eq] at e
  refine mFn_ret (s := ⟨[.val (fr p), .val (fr q), .val (.int (p.num * q.den + q.num * p.den))], fs⟩) ?_
  show b_law_sum LF ⟨[.val (fr p), .val (fr q), .no], fs⟩ = _
  simp [b_law_sum, dSeq, dThen, dAsg, dOp, dUn, dC, dL, dV, dPut, dIfS, dB, dRet, dCall, dCons, dNil, dTup, dSkip, dCB, one, dNew, dLst, dIf, dAnd, dOr, dNot, dAndV, dOrV, dNotV, pIx, pAdd, pSub, pNeg, pCmp, pLen, dPutT, dPuts1, dPuts0, dPar, dTr, dTru, fr, at20, at21, pMul, b1, b2, b3, b4, e]
theorem lprod {k l : Nat} (p q : Rat) (fs : Option FS) (h1 : Sz k p) (h2 : Sz l q) (hk : k + l ≤ 8000) : LP [fr p, fr q] fs = some (fr (p * q), fs) := by
  have b1 := h1.num.bits (by omega)
  have b2 := h1.den.bits (by omega)
  have b3 := h2.num.bits (by omega)
  have b4 := h2.den.bits (by omega)
  have e := lfrac (p.num * q.num) (p.den * q.den) fs (dd_ne p q) (Bd.mul h1.den h2.den) hk
  rw [← mul_eq] at e
  refine mFn_ret (s := ⟨[.val (fr p), .val (fr q)], fs⟩) ?_
  show b_law_product LF ⟨[.val (fr p), .val (fr q)], fs⟩ = _
  simp [b_law_product, dSeq, dThen, dAsg, dOp, dUn, dC, dL, dV, dPut, dIfS, dB, dRet, dCall, dCons, dNil, dTup, dSkip, dCB, one, dNew, dLst, dIf, dAnd, dOr, dNot, dAndV, dOrV, dNotV, pIx, pAdd, pSub, pNeg, pCmp, pLen, dPutT, dPuts1, dPuts0, dPar, dTr, dTru, fr, at20, at21, pMul, b1, b2, b3, b4, e]
theorem lminus (p : Rat) (fs : Option FS) : f_law_minus [fr p] fs = some (fr (-p), fs) := by
  refine mFn_ret (s := ⟨[.val (fr p)], fs⟩) ?_
  show b_law_minus ⟨[.val (fr p)], fs⟩ = _
  simp [b_law_minus, dSeq, dThen, dAsg, dOp, dUn, dC, dL, dV, dPut, dIfS, dB, dRet, dCall, dCons, dNil, dTup, dSkip, dCB, one, dNew, dLst, dIf, dAnd, dOr, dNot, dAndV, dOrV, dNotV, pIx, pAdd, pSub, pNeg, pCmp, pLen, dPutT, dPuts1, dPuts0, dPar, dTr, dTru, fr, at20, at21, sz2]
theorem fdivN (a : Int) (n : Nat) : a.fdiv (n : Int) = a / (n : Int) := Int.fdiv_eq_ediv_of_nonneg a (by omega)
end T

namespace T
open PySem L2 DL
theorem modOk (a : Int) {b : Int} (h : b ≠ 0) : pMod (.int a) (.int b) = some (.int (a.fmod b)) := by simp [pMod, h]
theorem divE (a : Int) {b : Int} (h : divOk b = true) : pDiv (.int a) (.int b) = some (.int (a.fdiv b)) := by simp [pDiv, h]
theorem mulE {a b : Int} (h1 : bitsOk a = true) (h2 : bitsOk b = true) : pMul (.int a) (.int b) = some (.int (a * b)) := by simp [pMul, h1, h2]
theorem fp_e {i : Nat} {key : Str} {fe : DE} {s s1 : DS} {d : D} {r : Option (Fl × DS)} (h : fe s = some (d, s1)) (e : dFP i key (fun _ => some (d, s1)) s = r) : dFP i key fe s = r := by
  rw [← e]
  unfold dFP
  rw [h]
set_option maxHeartbeats 4000000 in
theorem draw_ok (f : FS) (many : Int) (hm : 0 < many) (hm2 : many < 2 ^ 100) (ht : 0 ≤ f.turn) (ht2 : f.turn < 2 ^ 40) (hk : f.kind = 0) :
    ∃ r f', f_law_draw [.feed, .int many] (some f) = some (.int r, some f') ∧ 0 ≤ r ∧ r < many ∧ f'.turn = f.turn + 1 ∧ f'.kind = 0 := by
  have dm : divOk many = true := divOk_of (by omega) (by omega)
  have hne : many ≠ 0 := by omega
  obtain ⟨cs, ps, lf, tn, kd⟩ := f
  simp only at ht ht2 hk ⊢
  subst hk
  by_cases hl : 0 < lf
  · refine ⟨lf.fmod many, ⟨cs, ps, lf.fdiv many, tn + 1, 0⟩, ?_, (fmod_rng hm).1, (fmod_rng hm).2, rfl, rfl⟩
    refine mFn_ret (s := ⟨[.val .feed, .val (.int many), .val (.int (tn + 1)), .val (.int (lf.fmod many)), .no, .no, .no], some ⟨cs, ps, lf.fdiv many, tn + 1, 0⟩⟩) ?_
    show b_law_draw ⟨[.val .feed, .val (.int many), .no, .no, .no, .no, .no], some ⟨cs, ps, lf, tn, 0⟩⟩ = _
    unfold b_law_draw
    rw [seq_next (s1 := ⟨[.val .feed, .val (.int many), .val (.int (tn + 1)), .no, .no, .no, .no], some ⟨cs, ps, lf, tn, 0⟩⟩) (asg_e (op_e rfl rfl rfl) rfl), seq_next (s1 := ⟨[.val .feed, .val (.int many), .val (.int (tn + 1)), .no, .no, .no, .no], some ⟨cs, ps, lf, tn + 1, 0⟩⟩) rfl]
    have c0 : dB (dOp (pCmp (fun i j => decide (j < i))) (dFG 0 "left") (dC (.int 0))) ⟨[.val .feed, .val (.int many), .val (.int (tn + 1)), .no, .no, .no, .no], some ⟨cs, ps, lf, tn + 1, 0⟩⟩ = some (true, ⟨[.val .feed, .val (.int many), .val (.int (tn + 1)), .no, .no, .no, .no], some ⟨cs, ps, lf, tn + 1, 0⟩⟩) := by
      rw [← decide_eq_true hl]; rfl
    refine seq_ret ?_
    rw [ifS_t c0, seq_next (s1 := ⟨[.val .feed, .val (.int many), .val (.int (tn + 1)), .val (.int (lf.fmod many)), .no, .no, .no], some ⟨cs, ps, lf, tn + 1, 0⟩⟩) (asg_e (op_e rfl rfl (modOk lf hne)) rfl),
      seq_next (s1 := ⟨[.val .feed, .val (.int many), .val (.int (tn + 1)), .val (.int (lf.fmod many)), .no, .no, .no], some ⟨cs, ps, lf.fdiv many, tn + 1, 0⟩⟩) (fp_e (op_e rfl rfl (divE lf dm)) rfl)]
    rfl
  · -- the cell
    have cell : ∃ c : Int, ∀ a b e x y z : Sl, dIf (dB (dOp (pCmp (fun i j => decide (j < i))) (dCB (one pLen) (dCons (dL 4) dNil)) (dC (.int 0)))) (dOp pIx (dL 4) (dOp pMod (dFG 0 "at") (dCB (one pLen) (dCons (dL 4) dNil)))) (dC (.int 0)) ⟨[.val .feed, a, b, e, .val (.lst (cs.map .int)), x, y], some ⟨cs, ps, lf, tn + 1, 0⟩⟩ =
        some (.int c, ⟨[.val .feed, a, b, e, .val (.lst (cs.map .int)), x, y], some ⟨cs, ps, lf, tn + 1, 0⟩⟩) := by
      by_cases hc : 0 < cs.length
      · have hi := fmod_rng (a := ps) (b := (cs.length : Int)) (by omega)
        obtain ⟨c, hg⟩ : ∃ c : Int, atI (cs.map D.int) (ps.fmod (cs.length : Int)) = some (.int c) := by
          have : (ps.fmod (cs.length : Int)).toNat < cs.length := by omega
          refine ⟨cs[(ps.fmod (cs.length : Int)).toNat], ?_⟩
          rw [atI_ok hi.1 (by rw [List.length_map]; exact hi.2), List.getElem?_map, List.getElem?_eq_getElem this]
          rfl
        refine ⟨c, fun a b e x y z => ?_⟩
        have hn : cs ≠ [] := by intro z; rw [z] at hc; simp at hc
        simp [dIf, dB, dOp, dCB, one, pLen, dCons, dNil, dL, dC, pCmp, dFG, get_a, pMod, pIx, hn, hc, hg]
      · refine ⟨0, fun a b e x y z => ?_⟩
        have hz : cs = [] := List.eq_nil_of_length_eq_zero (by omega)
        subst hz
        simp [dIf, dB, dOp, dCB, one, pLen, dCons, dNil, dL, dC, pCmp]
    obtain ⟨c, hcell⟩ := cell
    have hc1 := fmod_rng (a := c) (b := 1000003) (by decide)
    -- up to the test
    have pre : ∀ rest : DM, dSeq (dAsg (dOp pAdd (dFG 0 "turn") (dC (.int 1))) (dPut 2)) (dSeq (dFP 0 "turn" (dV 2)) (dSeq (dIfS (dB (dOp (pCmp (fun i j => decide (j < i))) (dFG 0 "left") (dC (.int 0)))) (dSeq (dAsg (dOp pMod (dFG 0 "left") (dL 1)) (dPut 3)) (dSeq (dFP 0 "left" (dOp pDiv (dFG 0 "left") (dL 1))) (dRet (dV 3)))) dSkip)
        (dSeq (dAsg (dFG 0 "cells") (dPut 4)) (dSeq (dAsg (dIf (dB (dOp (pCmp (fun i j => decide (j < i))) (dCB (one pLen) (dCons (dL 4) dNil)) (dC (.int 0)))) (dOp pIx (dL 4) (dOp pMod (dFG 0 "at") (dCB (one pLen) (dCons (dL 4) dNil)))) (dC (.int 0))) (dPut 5)) (dSeq (dFP 0 "at" (dOp pAdd (dFG 0 "at") (dC (.int 1)))) rest)))))
        ⟨[.val .feed, .val (.int many), .no, .no, .no, .no, .no], some ⟨cs, ps, lf, tn, 0⟩⟩ = rest ⟨[.val .feed, .val (.int many), .val (.int (tn + 1)), .no, .val (.lst (cs.map .int)), .val (.int c), .no], some ⟨cs, ps + 1, lf, tn + 1, 0⟩⟩ := fun rest => by
      rw [seq_next (s1 := ⟨[.val .feed, .val (.int many), .val (.int (tn + 1)), .no, .no, .no, .no], some ⟨cs, ps, lf, tn, 0⟩⟩) (asg_e (op_e rfl rfl rfl) rfl)]
      rw [seq_next (s1 := ⟨[.val .feed, .val (.int many), .val (.int (tn + 1)), .no, .no, .no, .no], some ⟨cs, ps, lf, tn + 1, 0⟩⟩) rfl]
      rw [seq_next (s1 := ⟨[.val .feed, .val (.int many), .val (.int (tn + 1)), .no, .no, .no, .no], some ⟨cs, ps, lf, tn + 1, 0⟩⟩) (by
        have c0 : dB (dOp (pCmp (fun i j => decide (j < i))) (dFG 0 "left") (dC (.int 0))) ⟨[.val .feed, .val (.int many), .val (.int (tn + 1)), .no, .no, .no, .no], some ⟨cs, ps, lf, tn + 1, 0⟩⟩ = some (false, ⟨[.val .feed, .val (.int many), .val (.int (tn + 1)), .no, .no, .no, .no], some ⟨cs, ps, lf, tn + 1, 0⟩⟩) := by
          rw [← decide_eq_false hl]; rfl
        rw [ifS_f c0]; rfl)]
      rw [seq_next (s1 := ⟨[.val .feed, .val (.int many), .val (.int (tn + 1)), .no, .val (.lst (cs.map .int)), .no, .no], some ⟨cs, ps, lf, tn + 1, 0⟩⟩) rfl]
      rw [seq_next (asg_put (hcell _ _ _ _ _ .no))]
      rw [seq_next (s1 := ⟨[.val .feed, .val (.int many), .val (.int (tn + 1)), .no, .val (.lst (cs.map .int)), .val (.int c), .no], some ⟨cs, ps + 1, lf, tn + 1, 0⟩⟩) (fp_e (op_e rfl rfl rfl) rfl)]
    have test : dAnd (dB (dOp (pCmp (fun i j => decide (j ≤ i))) (dL 5) (dOp pPow (dC (.int 10)) (dC (.int 18))))) (dB (dOp (pCmp (fun i j => decide (i ≤ j))) (dFG 0 "at") (dCB (one pLen) (dCons (dL 4) dNil)))) ⟨[.val .feed, .val (.int many), .val (.int (tn + 1)), .no, .val (.lst (cs.map .int)), .val (.int c), .no], some ⟨cs, ps + 1, lf, tn + 1, 0⟩⟩ =
        some (decide (1000000000000000000 ≤ c) && decide (ps + 1 ≤ (cs.length : Int)), ⟨[.val .feed, .val (.int many), .val (.int (tn + 1)), .no, .val (.lst (cs.map .int)), .val (.int c), .no], some ⟨cs, ps + 1, lf, tn + 1, 0⟩⟩) := by
      by_cases h1 : 1000000000000000000 ≤ c
      · simp [dAnd, dB, dOp, dL, dC, pPow, pCmp, dFG, get_a, dCB, one, pLen, dCons, dNil, h1]
      · simp [dAnd, dB, dOp, dL, dC, pPow, pCmp, h1]
    by_cases hb : (decide (1000000000000000000 ≤ c) && decide (ps + 1 ≤ (cs.length : Int))) = true
    · refine ⟨c.fmod many, ⟨cs, ps + 1, c.fdiv many, tn + 1, 0⟩, mFn_ret (s := ⟨[.val .feed, .val (.int many), .val (.int (tn + 1)), .no, .val (.lst (cs.map .int)), .val (.int c), .no], some ⟨cs, ps + 1, c.fdiv many, tn + 1, 0⟩⟩) ?_, (fmod_rng hm).1, (fmod_rng hm).2, rfl, rfl⟩
      show b_law_draw ⟨[.val .feed, .val (.int many), .no, .no, .no, .no, .no], some ⟨cs, ps, lf, tn, 0⟩⟩ = _
      unfold b_law_draw
      rw [pre]
      rw [hb] at test
      refine seq_ret ?_
      rw [ifS_t test]
      rw [seq_next (s1 := ⟨[.val .feed, .val (.int many), .val (.int (tn + 1)), .no, .val (.lst (cs.map .int)), .val (.int c), .no], some ⟨cs, ps + 1, c.fdiv many, tn + 1, 0⟩⟩) (fp_e (op_e rfl rfl (divE c dm)) rfl)]
      exact ret_of (op_e rfl rfl (modOk c hne))
    · have q : ∃ M : Int, dAsg (dOp pMod (dOp pMul (dOp pAdd (dOp pAdd (dOp pAdd (dOp pMod (dL 5) (dC (.int 1000003))) (dOp pMul (dOp pMul (dC (.int 31)) (dL 2)) (dL 2))) (dOp pMul (dC (.int 7)) (dL 2))) (dC (.int 11))) (dC (.int 48271))) (dC (.int 2147483647))) (dPut 6)
          ⟨[.val .feed, .val (.int many), .val (.int (tn + 1)), .no, .val (.lst (cs.map .int)), .val (.int c), .no], some ⟨cs, ps + 1, lf, tn + 1, 0⟩⟩ = some (.next, ⟨[.val .feed, .val (.int many), .val (.int (tn + 1)), .no, .val (.lst (cs.map .int)), .val (.int c), .val (.int M)], some ⟨cs, ps + 1, lf, tn + 1, 0⟩⟩) ∧ 0 ≤ M ∧ M < 2147483647 := by
        have b1 : bitsOk 31 = true := by decide
        have b2 : bitsOk (tn + 1) = true := bitsOk_of (by omega)
        have p1 : (tn + 1) * 31 ≤ 2 ^ 40 * 31 := Int.mul_le_mul_of_nonneg_right (by omega) (by decide)
        have b3 : bitsOk (31 * (tn + 1)) = true := bitsOk_of (by omega)
        have p2 : 0 ≤ 31 * (tn + 1) * (tn + 1) := Int.mul_nonneg (by omega) (by omega)
        have p3 : 31 * (tn + 1) * (tn + 1) ≤ 31 * 2 ^ 40 * 2 ^ 40 := Int.mul_le_mul (by omega) (by omega) (by omega) (by decide)
        have b4 : bitsOk (c.fmod 1000003 + 31 * (tn + 1) * (tn + 1) + 7 * (tn + 1) + 11) = true := bitsOk_of (by omega)
        have b5 : bitsOk 48271 = true := by decide
        have b6 : bitsOk 7 = true := by decide
        refine ⟨((c.fmod 1000003 + 31 * (tn + 1) * (tn + 1) + 7 * (tn + 1) + 11) * 48271).fmod 2147483647, ?_, fmod_rng (by decide)⟩
        exact asg_e (op_e (op_e (op_e (op_e (op_e (op_e rfl rfl (modOk c (by decide))) (op_e (op_e rfl rfl (mulE b1 b2)) rfl (mulE b3 b2)) rfl) (op_e rfl rfl (mulE b6 b2)) rfl) rfl rfl) rfl (mulE b4 b5)) rfl (modOk _ (by decide))) rfl
      obtain ⟨M, e1, m1, m2⟩ := q
      have hM := Int.fdiv_eq_ediv_of_nonneg M (show (0 : Int) ≤ 64 by decide)
      have b7 : bitsOk (M.fdiv 64) = true := bitsOk_of (by rw [hM]; omega)
      have b8 : bitsOk 69621 = true := by decide
      have b9 : bitsOk 7919 = true := by decide
      have b10 : bitsOk (tn + 1) = true := bitsOk_of (by omega)
      have d64 : divOk 64 = true := by decide
      refine ⟨(((M.fdiv 64 * 69621 + 7919 * (tn + 1)).fmod 2147483587).fdiv 64).fmod many, ⟨cs, ps + 1, lf, tn + 1, 0⟩, mFn_ret (s := ⟨[.val .feed, .val (.int many), .val (.int (tn + 1)), .no, .val (.lst (cs.map .int)), .val (.int c), .val (.int ((M.fdiv 64 * 69621 + 7919 * (tn + 1)).fmod 2147483587))], some ⟨cs, ps + 1, lf, tn + 1, 0⟩⟩) ?_, (fmod_rng hm).1, (fmod_rng hm).2, rfl, rfl⟩
      show b_law_draw ⟨[.val .feed, .val (.int many), .no, .no, .no, .no, .no], some ⟨cs, ps, lf, tn, 0⟩⟩ = _
      unfold b_law_draw
      rw [pre]
      have hb' : (decide (1000000000000000000 ≤ c) && decide (ps + 1 ≤ (cs.length : Int))) = false := by simpa using hb
      rw [hb'] at test
      rw [seq_next (by rw [ifS_f test]; rfl)]
      rw [seq_next e1]
      rw [seq_next (s1 := ⟨[.val .feed, .val (.int many), .val (.int (tn + 1)), .no, .val (.lst (cs.map .int)), .val (.int c), .val (.int ((M.fdiv 64 * 69621 + 7919 * (tn + 1)).fmod 2147483587))], some ⟨cs, ps + 1, lf, tn + 1, 0⟩⟩) (asg_e (op_e (op_e (op_e (op_e rfl rfl (divE M d64)) rfl (mulE b7 b8)) (op_e rfl rfl (mulE b9 b10)) rfl) rfl (modOk _ (by decide))) rfl)]
      exact ret_of (op_e (op_e rfl rfl (divE _ d64)) rfl (modOk _ hne))
/-- how many draws at most -/
def Fd (n : Nat) (f : FS) : Prop := 0 ≤ f.turn ∧ f.turn ≤ n ∧ f.kind = 0
theorem Fd.mono {n m : Nat} {f : FS} (h : Fd n f) (hm : n ≤ m) : Fd m f := ⟨h.1, by have := h.2.1; omega, h.2.2⟩
theorem draw {n : Nat} {f : FS} (many : Int) (h : Fd n f) (hm : 0 < many := by first | decide | omega) (hn : n < 2 ^ 30 := by omega) (hm2 : many < 2 ^ 100 := by first | decide | omega) :
    ∃ r f', f_law_draw [.feed, .int many] (some f) = some (.int r, some f') ∧ 0 ≤ r ∧ r < many ∧ Fd (n + 1) f' := by
  obtain ⟨r, f', e, h0, h1, h2, h3⟩ := draw_ok f many hm hm2 h.1 (by have := h.2.1; omega) h.2.2
  exact ⟨r, f', e, h0, h1, by have := h.1; omega, by have := h.2.1; omega, h3⟩
theorem feed0 (ns : List Int) (h : ns.length ≤ 63) : f_law_feed [.scr ns] none = some (.feed, some ⟨ns, 0, 0, 0, 0⟩) := by
  refine mFn_ret (s := ⟨[.val (.scr ns)], some ⟨ns, 0, 0, 0, 0⟩⟩) ?_
  show b_law_feed ⟨[.val (.scr ns)], none⟩ = _
  simp [b_law_feed, dRet, dFN]
theorem Fd.zero (ns : List Int) : Fd 0 ⟨ns, 0, 0, 0, 0⟩ := ⟨by simp, by simp, rfl⟩
end T

namespace T
open PySem L2 DL
theorem div_den (p q : Rat) : Rat.divInt (p.num * q.den) (p.den * q.den) = p := by
  rw [Rat.divInt_mul_right (den_ne q), Rat.num_divInt_den]
theorem div_den' (p q : Rat) : Rat.divInt (q.num * p.den) (p.den * q.den) = q := by
  rw [Int.mul_comm (p.den : Int), Rat.divInt_mul_right (den_ne p), Rat.num_divInt_den]
noncomputable abbrev LA : DFn := f_law_at LF
theorem ix_fr0' (p : Rat) : pIx (fr p) (.int 0) = some (.int p.num) := rfl
theorem ix_fr1' (p : Rat) : pIx (fr p) (.int 1) = some (.int p.den) := rfl
theorem lat {k l : Nat} (p q : Rat) (fs : Option FS) (h1 : Sz k p) (h2 : Sz l q) (hk : k + l ≤ 8000) : LA [fr p, fr q] fs = some (pt (p, q), fs) := by
  have b1 := h1.num.bits (by omega)
  have b2 := h1.den.bits (by omega)
  have b3 := h2.num.bits (by omega)
  have b4 := h2.den.bits (by omega)
  have e1 := lfrac (p.num * q.den) (p.den * q.den) fs (dd_ne p q) (Bd.mul h1.den h2.den) hk
  have e2 := lfrac (q.num * p.den) (p.den * q.den) fs (dd_ne p q) (Bd.mul h1.den h2.den) hk
  have e3 := lfrac (p.den : Int) (q.den : Int) fs (den_ne q) h2.den (by omega)
  rw [div_den] at e1
  rw [div_den'] at e2
  have hq := q.den_nz
  have hp := p.den_nz
  have dq : ((Rat.divInt (p.den : Int) (q.den : Int)).den : Int) = (q.den / Nat.gcd p.den q.den : Nat) := by
    rw [den_of (den_pos q), Int.natCast_ediv]; rfl
  have el : (p.den : Int) * (q.den / Nat.gcd p.den q.den : Nat) = pL (p, q) := by
    show _ = ((Nat.lcm p.den q.den : Nat) : Int)
    rw [← Int.natCast_mul, Nat.lcm, Nat.mul_div_assoc _ (Nat.gcd_dvd_right ..)]
  have d1 := h1.den.div (den_ne p) (by omega)
  have d2 := h2.den.div (den_ne q) (by omega)
  have P := Ps.of (a := (p, q)) h1 h2
  have s1 : (pL (p, q)).fdiv (p.den : Int) = ((Nat.lcm p.den q.den / p.den : Nat) : Int) := by rw [fdivN, Int.natCast_ediv]; rfl
  have s2 : (pL (p, q)).fdiv (q.den : Int) = ((Nat.lcm p.den q.den / q.den : Nat) : Int) := by rw [fdivN, Int.natCast_ediv]; rfl
  have lle : Nat.lcm p.den q.den < 2 ^ (k + l) := P.l
  have c0 : bitsOk ((Rat.divInt (p.den : Int) (q.den : Int)).den : Int) = true := by
    have := (divInt_le (a := (p.den : Int)) (den_ne q)).2
    exact (show Bd l _ from Nat.lt_of_le_of_lt this h2.2).bits (by omega)
  have c1 : bitsOk ((Nat.lcm p.den q.den / p.den : Nat) : Int) = true := (show Bd (k + l) ((_ : Nat) : Int) from Nat.lt_of_le_of_lt (Nat.div_le_self ..) lle).bits (by omega)
  have c2 : bitsOk ((Nat.lcm p.den q.den / q.den : Nat) : Int) = true := (show Bd (k + l) ((_ : Nat) : Int) from Nat.lt_of_le_of_lt (Nat.div_le_self ..) lle).bits (by omega)
  generalize Rat.divInt (p.den : Int) (q.den : Int) = w at *
  refine mFn_ret (s := ⟨[.val (fr p), .val (fr q), .val (.int (pL (p, q))), .val (fr p), .val (fr q), .val (fr w)], fs⟩) ?_
  show b_law_at LF ⟨[.val (fr p), .val (fr q), .no, .no, .no, .no], fs⟩ = _
  unfold b_law_at
  rw [dq] at c0
  rw [← s1] at c1
  rw [← s2] at c2
  rw [seq_next (s1 := ⟨[.val (fr p), .val (fr q), .val (.int (p.den * q.den)), .no, .no, .no], fs⟩) (asg_e (op_e (op_e rfl rfl (ix_fr1' p)) (op_e rfl rfl (ix_fr1' q)) (mulE b2 b4)) rfl),
    seq_next (s1 := ⟨[.val (fr p), .val (fr q), .val (.int (p.den * q.den)), .val (fr p), .no, .no], fs⟩) (asg_e (cp_e (cons_e (op_e (op_e rfl rfl (ix_fr0' p)) (op_e rfl rfl (ix_fr1' q)) (mulE b1 b4)) (cons_e rfl rfl)) e1) rfl),
    seq_next (s1 := ⟨[.val (fr p), .val (fr q), .val (.int (p.den * q.den)), .val (fr p), .val (fr q), .no], fs⟩) (asg_e (cp_e (cons_e (op_e (op_e rfl rfl (ix_fr0' q)) (op_e rfl rfl (ix_fr1' p)) (mulE b3 b2)) (cons_e rfl rfl)) e2) rfl),
    seq_next (s1 := ⟨[.val (fr p), .val (fr q), .val (.int (p.den * q.den)), .val (fr p), .val (fr q), .val (fr w)], fs⟩) (asg_e (cp_e (cons_e (op_e rfl rfl (ix_fr1' p)) (cons_e (op_e rfl rfl (ix_fr1' q)) rfl)) e3) rfl),
    seq_next (s1 := ⟨[.val (fr p), .val (fr q), .val (.int (pL (p, q))), .val (fr p), .val (fr q), .val (fr w)], fs⟩) (asg_e (op_e (op_e rfl rfl (ix_fr1' p)) (op_e rfl rfl ((ix_fr1' w).trans (congrArg (fun z => some (D.int z)) dq))) ((mulE b2 c0).trans (congrArg (fun z => some (D.int z)) el))) rfl)]
  refine ret_of ?_
  unfold pt pX pY
  rw [← s1, ← s2]
  exact tup3_e (op_e (op_e rfl rfl (ix_fr0' p)) (op_e rfl (op_e rfl rfl (ix_fr1' p)) (divE _ d1)) (mulE b1 c1)) (op_e (op_e rfl rfl (ix_fr0' q)) (op_e rfl (op_e rfl rfl (ix_fr1' q)) (divE _ d2)) (mulE b3 c2)) rfl
/-- a quotient by a place's bottom -/
theorem px_div (a : Pt) : Rat.divInt (pX a) (pL a) = a.1 := by
  rw [Rat.divInt_eq_div, pX_eq, Rat.mul_div_cancel (pL_neR a)]
theorem py_div (a : Pt) : Rat.divInt (pY a) (pL a) = a.2 := by
  rw [Rat.divInt_eq_div, pY_eq, Rat.mul_div_cancel (pL_neR a)]
noncomputable abbrev LX : DFn := f_law_xy LF
theorem lxy {k : Nat} (a : Pt) (fs : Option FS) (h : Ps k a) (hk : k ≤ 8000) : LX [pt a] fs = some (.tup [fr a.1, fr a.2], fs) := by
  have e := lfrac (pX a) (pL a) fs (pL_ne a) h.l hk
  have e' := lfrac (pY a) (pL a) fs (pL_ne a) h.l hk
  rw [px_div] at e
  rw [py_div] at e'
  refine mFn_ret (s := ⟨[.val (pt a)], fs⟩) ?_
  show b_law_xy LF ⟨[.val (pt a)], fs⟩ = _
  simp [b_law_xy, dSeq, dThen, dAsg, dOp, dUn, dC, dL, dV, dPut, dIfS, dB, dRet, dCall, dCons, dNil, dTup, dSkip, dCB, one, dNew, dLst, dIf, dAnd, dOr, dNot, dAndV, dOrV, dNotV, pIx, pAdd, pSub, pNeg, pCmp, pLen, dPutT, dPuts1, dPuts0, dPar, dTr, dTru, pt, at30, at31, at32, e, e', sz2]
noncomputable abbrev LG : DFn := f_law_gone LA LS LX
theorem lgone {k l m n : Nat} (a : Pt) (x y : Rat) (fs : Option FS) (h1 : Sz k a.1) (h2 : Sz l a.2) (hx : Sz m x) (hy : Sz n y) (hk : k + l + m + n + 2 ≤ 8000) : LG [pt a, fr x, fr y] fs = some (pt (a.1 + x, a.2 + y), fs) := by
  refine mFn_ret (s := ⟨[.val (pt a), .val (fr x), .val (fr y), .val (fr a.1), .val (fr a.2)], fs⟩) ?_
  show b_law_gone LA LS LX ⟨[.val (pt a), .val (fr x), .val (fr y), .no, .no], fs⟩ = _
  simp [b_law_gone, dSeq, dThen, dAsg, dOp, dUn, dC, dL, dV, dPut, dIfS, dB, dRet, dCall, dCons, dNil, dTup, dSkip, dCB, one, dNew, dLst, dIf, dAnd, dOr, dNot, dAndV, dOrV, dNotV, pIx, pAdd, pSub, pNeg, pCmp, pLen, dPutT, dPuts1, dPuts0, dPar, dTr, dTru, lxy a fs (Ps.of h1 h2) (by omega), lsum a.1 x _ h1 hx (by omega), lsum a.2 y _ h2 hy (by omega), lat (a.1 + x) (a.2 + y) _ (h1.add hx) (h2.add hy) (by omega)]
end T

namespace T
open PySem L2 DL
theorem psign (n : Int) (fs : Option FS) : f_sign [.int n] fs = some (.int (isgn n), fs) := by
  refine mFn_ret (s := ⟨[.val (.int n)], fs⟩) ?_
  show b_sign ⟨[.val (.int n)], fs⟩ = _
  unfold isgn
  by_cases h1 : 0 < n
  · simp [b_sign, dSeq, dThen, dAsg, dOp, dUn, dC, dL, dV, dPut, dIfS, dB, dRet, dCall, dCons, dNil, dTup, dSkip, dCB, one, dNew, dLst, dIf, dAnd, dOr, dNot, dAndV, dOrV, dNotV, pIx, pAdd, pSub, pNeg, pCmp, pLen, dPutT, dPuts1, dPuts0, dPar, dTr, dTru, h1]
  · by_cases h2 : n < 0
    · simp [b_sign, dSeq, dThen, dAsg, dOp, dUn, dC, dL, dV, dPut, dIfS, dB, dRet, dCall, dCons, dNil, dTup, dSkip, dCB, one, dNew, dLst, dIf, dAnd, dOr, dNot, dAndV, dOrV, dNotV, pIx, pAdd, pSub, pNeg, pCmp, pLen, dPutT, dPuts1, dPuts0, dPar, dTr, dTru, h1, h2]
    · simp [b_sign, dSeq, dThen, dAsg, dOp, dUn, dC, dL, dV, dPut, dIfS, dB, dRet, dCall, dCons, dNil, dTup, dSkip, dCB, one, dNew, dLst, dIf, dAnd, dOr, dNot, dAndV, dOrV, dNotV, pIx, pAdd, pSub, pNeg, pCmp, pLen, dPutT, dPuts1, dPuts0, dPar, dTr, dTru, h1, h2]
theorem bits_of {k : Nat} {i : Int} (h : Bd k i) (hk : decide (k ≤ 8000) = true) : bitsOk i = true := h.bits (of_decide_eq_true hk)
noncomputable abbrev FTn : DFn := f_turn f_sign
theorem rpos3 {a b c : Rat} (ha : 0 < a) (hb : 0 < b) (hc : 0 < c) : 0 < a * b * c := Rat.mul_pos (Rat.mul_pos ha hb) hc
theorem turn_val (a b c : Pt) : isgn (pX a * (pY b * pL c - pY c * pL b) - pY a * (pX b * pL c - pX c * pL b) + pL a * (pX b * pY c - pX c * pY b)) = sgn (cross a b c) := by
  refine isgn_eq (rpos3 (pL_posR a) (pL_posR b) (pL_posR c)) ?_
  simp only [Rat.intCast_add, Rat.intCast_sub, Rat.intCast_mul, pX_eq, pY_eq, cross]
  grind
theorem lturn_val (a b c : Pt) : isgn ((pX b * pL a - pX a * pL b) * (pY c * pL a - pY a * pL c) - (pY b * pL a - pY a * pL b) * (pX c * pL a - pX a * pL c)) = sgn (cross a b c) := by
  refine isgn_eq (Rat.mul_pos (rpos3 (pL_posR a) (pL_posR b) (pL_posR c)) (pL_posR a)) ?_
  simp only [Rat.intCast_sub, Rat.intCast_mul, pX_eq, pY_eq, cross]
  grind
theorem pturn {k : Nat} (a b c : Pt) (fs : Option FS) (ha : Ps k a) (hb : Ps k b) (hc : Ps k c) (hk : k ≤ 2000) : FTn [pt a, pt b, pt c] fs = some (.int (sgn (cross a b c)), fs) := by
  have a1 := ha.x.bits (by omega)
  have a2 := ha.y.bits (by omega)
  have a3 := ha.l.bits (by omega)
  have b1 := hb.x.bits (by omega)
  have b2 := hb.y.bits (by omega)
  have b3 := hb.l.bits (by omega)
  have c1 := hc.x.bits (by omega)
  have c2 := hc.y.bits (by omega)
  have c3 := hc.l.bits (by omega)
  have d1 := ((hb.y.mul hc.l).sub (hc.y.mul hb.l)).bits (by omega)
  have d2 := ((hb.x.mul hc.l).sub (hc.x.mul hb.l)).bits (by omega)
  have d3 := ((hb.x.mul hc.y).sub (hc.x.mul hb.y)).bits (by omega)
  rw [← turn_val]
  refine mFn_ret (s := ⟨[.val (pt a), .val (pt b), .val (pt c), .val (.int (pX a * (pY b * pL c - pY c * pL b) - pY a * (pX b * pL c - pX c * pL b) + pL a * (pX b * pY c - pX c * pY b)))], fs⟩) ?_
  show b_turn f_sign ⟨[.val (pt a), .val (pt b), .val (pt c), .no], fs⟩ = _
  unfold b_turn
  have x : ∀ p : Pt, pIx (pt p) (.int 0) = some (.int (pX p)) := fun _ => rfl
  have y : ∀ p : Pt, pIx (pt p) (.int 1) = some (.int (pY p)) := fun _ => rfl
  have l : ∀ p : Pt, pIx (pt p) (.int 2) = some (.int (pL p)) := fun _ => rfl
  rw [seq_next (s1 := ⟨[.val (pt a), .val (pt b), .val (pt c), .val (.int (pX a * (pY b * pL c - pY c * pL b)))], fs⟩) (asg_e (op_e (op_e rfl rfl (x a)) (op_e (op_e (op_e rfl rfl (y b)) (op_e rfl rfl (l c)) (mulE b2 c3)) (op_e (op_e rfl rfl (y c)) (op_e rfl rfl (l b)) (mulE c2 b3)) rfl) (mulE a1 d1)) rfl),
    seq_next (s1 := ⟨[.val (pt a), .val (pt b), .val (pt c), .val (.int (pX a * (pY b * pL c - pY c * pL b) - pY a * (pX b * pL c - pX c * pL b)))], fs⟩) (asg_e (op_e rfl (op_e (op_e rfl rfl (y a)) (op_e (op_e (op_e rfl rfl (x b)) (op_e rfl rfl (l c)) (mulE b1 c3)) (op_e (op_e rfl rfl (x c)) (op_e rfl rfl (l b)) (mulE c1 b3)) rfl) (mulE a2 d2)) rfl) rfl),
    seq_next (s1 := ⟨[.val (pt a), .val (pt b), .val (pt c), .val (.int (pX a * (pY b * pL c - pY c * pL b) - pY a * (pX b * pL c - pX c * pL b) + pL a * (pX b * pY c - pX c * pY b)))], fs⟩) (asg_e (op_e rfl (op_e (op_e rfl rfl (l a)) (op_e (op_e (op_e rfl rfl (x b)) (op_e rfl rfl (y c)) (mulE b1 c2)) (op_e (op_e rfl rfl (x c)) (op_e rfl rfl (y b)) (mulE c1 b2)) rfl) (mulE a3 d3)) rfl) rfl)]
  exact ret_of (cp_e (cons_e rfl rfl) (psign _ fs))
theorem lturn {k : Nat} (a b c : Pt) (fs : Option FS) (ha : Ps k a) (hb : Ps k b) (hc : Ps k c) (hk : k ≤ 2000) : f_law_turn [pt a, pt b, pt c] fs = some (.int (sgn (cross a b c)), fs) := by
  have a1 := ha.x.bits (by omega)
  have a2 := ha.y.bits (by omega)
  have a3 := ha.l.bits (by omega)
  have b1 := hb.x.bits (by omega)
  have b2 := hb.y.bits (by omega)
  have b3 := hb.l.bits (by omega)
  have c1 := hc.x.bits (by omega)
  have c2 := hc.y.bits (by omega)
  have c3 := hc.l.bits (by omega)
  have d1 := ((hb.x.mul ha.l).sub (ha.x.mul hb.l)).bits (by omega)
  have d2 := ((hc.y.mul ha.l).sub (ha.y.mul hc.l)).bits (by omega)
  have d3 := ((hb.y.mul ha.l).sub (ha.y.mul hb.l)).bits (by omega)
  have d4 := ((hc.x.mul ha.l).sub (ha.x.mul hc.l)).bits (by omega)
  have v := lturn_val a b c
  generalize h1 : (pX b * pL a - pX a * pL b) * (pY c * pL a - pY a * pL c) = u at *
  generalize h2 : (pY b * pL a - pY a * pL b) * (pX c * pL a - pX a * pL c) = w at *
  have e : isgn (u - w) = (if u > w then (1 : Int) else 0) - (if u < w then 1 else 0) := by
    unfold isgn
    by_cases q1 : 0 < u - w
    · rw [if_pos q1, if_pos (show u > w by omega), if_neg (show ¬ u < w by omega)]; rfl
    · by_cases q2 : u - w < 0
      · rw [if_neg q1, if_pos q2, if_neg (show ¬ u > w by omega), if_pos (show u < w by omega)]; rfl
      · rw [if_neg q1, if_neg q2, if_neg (show ¬ u > w by omega), if_neg (show ¬ u < w by omega)]; rfl
  rw [← v, e]
  refine mFn_ret (s := ⟨[.val (pt a), .val (pt b), .val (pt c), .val (.int u), .val (.int w)], fs⟩) ?_
  show b_law_turn ⟨[.val (pt a), .val (pt b), .val (pt c), .no, .no], fs⟩ = _
  unfold b_law_turn
  rw [seq_next (s1 := ⟨[.val (pt a), .val (pt b), .val (pt c), .val (.int u), .no], fs⟩) (by simp [dSeq, dThen, dAsg, dOp, dUn, dC, dL, dV, dPut, dIfS, dB, dRet, dCall, dCons, dNil, dTup, dSkip, dCB, one, dNew, dLst, dIf, dAnd, dOr, dNot, dAndV, dOrV, dNotV, pIx, pAdd, pSub, pNeg, pCmp, pLen, dPutT, dPuts1, dPuts0, dPar, dTr, dTru, pt, at30, at31, at32, pMul, a1, a2, a3, b1, b2, b3, c1, c2, c3, d1, d2, h1])]
  rw [seq_next (s1 := ⟨[.val (pt a), .val (pt b), .val (pt c), .val (.int u), .val (.int w)], fs⟩) (by simp [dSeq, dThen, dAsg, dOp, dUn, dC, dL, dV, dPut, dIfS, dB, dRet, dCall, dCons, dNil, dTup, dSkip, dCB, one, dNew, dLst, dIf, dAnd, dOr, dNot, dAndV, dOrV, dNotV, pIx, pAdd, pSub, pNeg, pCmp, pLen, dPutT, dPuts1, dPuts0, dPar, dTr, dTru, pt, at30, at31, at32, pMul, a1, a2, a3, b1, b2, b3, c1, c2, c3, d3, d4, h2])]
  refine ret_of ?_
  simp [dSeq, dThen, dAsg, dOp, dUn, dC, dL, dV, dPut, dIfS, dB, dRet, dCall, dCons, dNil, dTup, dSkip, dCB, one, dNew, dLst, dIf, dAnd, dOr, dNot, dAndV, dOrV, dNotV, pIx, pAdd, pSub, pNeg, pCmp, pLen, dPutT, dPuts1, dPuts0, dPar, dTr, dTru, pInt]
theorem mul_lt_iff {x y : Int} {p q c : Rat} (hc : 0 < c) (hx : (x : Rat) = c * p) (hy : (y : Rat) = c * q) : (x < y ↔ p < q) ∧ (x = y ↔ p = q) := by
  constructor
  · rw [← Rat.intCast_lt_intCast, hx, hy]; exact Rat.mul_lt_mul_left hc
  · rw [← Rat.intCast_inj, hx, hy]
    constructor
    · intro h; have : c ≠ 0 := fun z => by rw [z] at hc; exact absurd hc Rat.lt_irrefl
      grind
    · intro h; rw [h]
theorem cmpX (a b : Pt) : (pX a * pL b < pX b * pL a ↔ a.1 < b.1) ∧ (pX a * pL b = pX b * pL a ↔ a.1 = b.1) :=
  mul_lt_iff (Rat.mul_pos (pL_posR a) (pL_posR b)) (by rw [Rat.intCast_mul, pX_eq]; grind) (by rw [Rat.intCast_mul, pX_eq]; grind)
theorem cmpY (a b : Pt) : (pY a * pL b < pY b * pL a ↔ a.2 < b.2) ∧ (pY a * pL b = pY b * pL a ↔ a.2 = b.2) :=
  mul_lt_iff (Rat.mul_pos (pL_posR a) (pL_posR b)) (by rw [Rat.intCast_mul, pY_eq]; grind) (by rw [Rat.intCast_mul, pY_eq]; grind)
theorem llesser {k : Nat} (a b : Pt) (fs : Option FS) (ha : Ps k a) (hb : Ps k b) (hk : k ≤ 2000) : f_law_lesser [pt a, pt b] fs = some (.bl (lsB a b), fs) := by
  have a1 := ha.x.bits (by omega)
  have a2 := ha.y.bits (by omega)
  have a3 := ha.l.bits (by omega)
  have b1 := hb.x.bits (by omega)
  have b2 := hb.y.bits (by omega)
  have b3 := hb.l.bits (by omega)
  obtain ⟨x1, x2⟩ := cmpX a b
  obtain ⟨y1, y2⟩ := cmpY a b
  refine mFn_ret (s := ⟨[.val (pt a), .val (pt b), .val (.int (pX a * pL b - pX b * pL a))], fs⟩) ?_
  show b_law_lesser ⟨[.val (pt a), .val (pt b), .no], fs⟩ = _
  have z1 : (pX a * pL b - pX b * pL a < 0) ↔ a.1 < b.1 := by rw [← x1]; omega
  have z2 : (pX a * pL b - pX b * pL a = 0) ↔ a.1 = b.1 := by rw [← x2]; omega
  by_cases h : a.1 < b.1
  · simp [b_law_lesser, dSeq, dThen, dAsg, dOp, dUn, dC, dL, dV, dPut, dIfS, dB, dRet, dCall, dCons, dNil, dTup, dSkip, dCB, one, dNew, dLst, dIf, dAnd, dOr, dNot, dAndV, dOrV, dNotV, pIx, pAdd, pSub, pNeg, pCmp, pLen, dPutT, dPuts1, dPuts0, dPar, dTr, dTru, pt, at30, at31, at32, pMul, a1, a2, a3, b1, b2, b3, pEq_int, lsB, h, z1]
  · by_cases h2 : a.1 = b.1
    · simp [b_law_lesser, dSeq, dThen, dAsg, dOp, dUn, dC, dL, dV, dPut, dIfS, dB, dRet, dCall, dCons, dNil, dTup, dSkip, dCB, one, dNew, dLst, dIf, dAnd, dOr, dNot, dAndV, dOrV, dNotV, pIx, pAdd, pSub, pNeg, pCmp, pLen, dPutT, dPuts1, dPuts0, dPar, dTr, dTru, pt, at30, at31, at32, pMul, a1, a2, a3, b1, b2, b3, pEq_int, lsB, h, z1, z2, h2, y1]
    · simp [b_law_lesser, dSeq, dThen, dAsg, dOp, dUn, dC, dL, dV, dPut, dIfS, dB, dRet, dCall, dCons, dNil, dTup, dSkip, dCB, one, dNew, dLst, dIf, dAnd, dOr, dNot, dAndV, dOrV, dNotV, pIx, pAdd, pSub, pNeg, pCmp, pLen, dPutT, dPuts1, dPuts0, dPar, dTr, dTru, pt, at30, at31, at32, pMul, a1, a2, a3, b1, b2, b3, pEq_int, lsB, h, z1, z2, h2]
theorem sgn0 (r : Rat) : sgn r = 0 ↔ r = 0 := by
  unfold sgn
  by_cases h : 0 < r
  · rw [if_pos h]; constructor
    · intro z; exact absurd z (by decide)
    · intro z; rw [z] at h; exact absurd h Rat.lt_irrefl
  · by_cases h2 : r < 0
    · rw [if_neg h, if_pos h2]; constructor
      · intro z; exact absurd z (by decide)
      · intro z; rw [z] at h2; exact absurd h2 Rat.lt_irrefl
    · rw [if_neg h, if_neg h2]; constructor
      · intro _; grind
      · intro _; rfl
theorem lsquared {k l m n : Nat} (a b : Pt) (fs : Option FS) (h1 : Sz k a.1) (h2 : Sz l a.2) (h3 : Sz m b.1) (h4 : Sz n b.2) (hk : 2 * (k + l + m + n) + 8 ≤ 8000) : f_law_squared LS LP f_law_minus LX [pt a, pt b] fs = some (fr (dsq a b), fs) := by
  have s1 := lsum b.1 (-a.1) fs h3 h1.neg (by omega)
  have s2 := lsum b.2 (-a.2) fs h4 h2.neg (by omega)
  have z1 := h3.add h1.neg
  have z2 := h4.add h2.neg
  have q1 := lprod _ _ fs z1 z1 (by omega)
  have q2 := lprod _ _ fs z2 z2 (by omega)
  have r := lsum _ _ fs (z1.mul z1) (z2.mul z2) (by omega)
  have v : (b.1 + -a.1) * (b.1 + -a.1) + (b.2 + -a.2) * (b.2 + -a.2) = dsq a b := by unfold dsq; grind
  rw [v] at r
  have xa := lxy a fs (Ps.of h1 h2) (by omega)
  have xb := lxy b fs (Ps.of h3 h4) (by omega)
  refine mFn_ret (s := ⟨[.val (pt a), .val (pt b), .val (fr (b.1 + -a.1)), .val (fr (b.2 + -a.2))], fs⟩) ?_
  show b_law_squared LS LP f_law_minus LX ⟨[.val (pt a), .val (pt b), .no, .no], fs⟩ = _
  simp [b_law_squared, dSeq, dThen, dAsg, dOp, dUn, dC, dL, dV, dPut, dIfS, dB, dRet, dCall, dCons, dNil, dTup, dSkip, dCB, one, dNew, dLst, dIf, dAnd, dOr, dNot, dAndV, dOrV, dNotV, pIx, pAdd, pSub, pNeg, pCmp, pLen, dPutT, dPuts1, dPuts0, dPar, dTr, dTru, xa, xb, at20, at21, lminus, s1, s2, q1, q2, r]
end T

namespace DL
open PySem L2
theorem forL_inv {t : D → DS → Option DS} {b : DM} (P : Nat → DS → Prop) : ∀ (ds : List D) (n : Nat) (s : DS), P n s → (∀ i d s, ds[i]? = some d → P (n + i) s → ∃ s1 s2, t d s = some s1 ∧ (b s1 = some (.next, s2) ∨ b s1 = some (.cont, s2)) ∧ P (n + i + 1) s2) →
    ∃ s', dForL t b ds s = some (.next, s') ∧ P (n + ds.length) s'
  | [], n, s, h, _ => ⟨s, rfl, h⟩
  | d :: r, n, s, h, k => by
    obtain ⟨s1, s2, e1, e2, h2⟩ := k 0 d s rfl h
    obtain ⟨s', e3, h3⟩ := forL_inv P r (n + 1) s2 h2 (fun i d' s hd hp => by
      have := k (i + 1) d' s (by simpa using hd) (by rwa [show n + 1 + i = n + (i + 1) by omega] at hp)
      rwa [show n + (i + 1) + 1 = n + 1 + i + 1 by omega] at this)
    refine ⟨s', ?_, by rw [List.length_cons, show n + (r.length + 1) = n + 1 + r.length by omega]; exact h3⟩
    rw [dForL, e1]
    rcases e2 with e2 | e2 <;> simp [e2, e3]
theorem forR_of {f : DA} {t : D → DS → Option DS} {b : DM} {s s1 : DS} {xs ds : List D} (h1 : f s = some (xs, s1)) (h2 : dRng xs = some ds) : dForR f t b s = dForL t b ds s1 := by
  simp only [dForR, h1, Option.bind_some, h2]
theorem for_lst {f : DE} {t : D → DS → Option DS} {b : DM} {s s1 : DS} {ds : List D} (h1 : f s = some (.lst ds, s1)) : dFor f t b s = dForL t b ds s1 := by
  simp only [dFor, h1, Option.bind_some]
theorem for_tup {f : DE} {t : D → DS → Option DS} {b : DM} {s s1 : DS} {ds : List D} (h1 : f s = some (.tup ds, s1)) : dFor f t b s = dForL t b ds s1 := by
  simp only [dFor, h1, Option.bind_some]
theorem ups_at {lo : Int} {n i : Nat} {d : D} (h : (ups lo n)[i]? = some d) : d = .int (lo + i) ∧ i < n := by
  have hi : i < n := by have := (List.getElem?_eq_some_iff.mp h).1; rwa [ups_len] at this
  rw [ups_get hi] at h
  cases h
  exact ⟨rfl, hi⟩
theorem rng8 {n : Nat} (h : n < 2 ^ 30) : dRng [.int (n : Int)] = some (ups 0 n) := by
  have : -(2 ^ 62) ≤ (n : Int) ∧ (n : Int) < 2 ^ 62 := by omega
  simp only [dRng, if_pos this, Int.toNat_natCast]
end DL
namespace T
open PySem L2 DL
noncomputable abbrev LN : DFn := f_law_number LF f_law_draw
theorem num_tab {r : Int} (h0 : 0 ≤ r) (h1 : r < 3) : ∃ m : Int, atI [D.int 7, D.int 13, D.int 30] r = some (.int m) ∧ 0 < m ∧ m ≤ 30 := by
  have : r = 0 ∨ r = 1 ∨ r = 2 := by omega
  rcases this with rfl | rfl | rfl
  · exact ⟨7, rfl, by decide, by decide⟩
  · exact ⟨13, rfl, by decide, by decide⟩
  · exact ⟨30, rfl, by decide, by decide⟩
theorem num_tab2 {r : Int} (h0 : 0 ≤ r) (h1 : r < 6) : ∃ d : Int, atI [D.int 1, D.int 1, D.int 1, D.int 2, D.int 3, D.int 4] r = some (.int d) ∧ 0 < d ∧ d ≤ 4 := by
  have : r = 0 ∨ r = 1 ∨ r = 2 ∨ r = 3 ∨ r = 4 ∨ r = 5 := by omega
  rcases this with rfl | rfl | rfl | rfl | rfl | rfl
  · exact ⟨1, rfl, by decide, by decide⟩
  · exact ⟨1, rfl, by decide, by decide⟩
  · exact ⟨1, rfl, by decide, by decide⟩
  · exact ⟨2, rfl, by decide, by decide⟩
  · exact ⟨3, rfl, by decide, by decide⟩
  · exact ⟨4, rfl, by decide, by decide⟩
theorem num_bd {r m q : Int} (h0 : 0 ≤ r) (h1 : r < m) (hm : m ≤ 30) (q0 : 0 ≤ q) (q1 : q < 2) : Bd 5 (r * (1 - 2 * q)) ∧ Bd 5 r ∧ Bd 5 q ∧ Bd 5 (1 - 2 * q) := by
  unfold Bd
  have : q = 0 ∨ q = 1 := by omega
  rcases this with rfl | rfl <;> omega
theorem num_d {d : Int} (h0 : 0 < d) (h1 : d ≤ 4) : Bd 5 d ∧ d ≠ 0 := ⟨show d.natAbs < 2 ^ 5 by omega, by omega⟩
theorem num_m {m : Int} (h : m ≤ 30) : m < 2 ^ 100 := by omega
theorem num_n {n i : Nat} (h : n < 2 ^ 29) (hi : i ≤ 100 := by decide) : n + i < 2 ^ 30 := by omega
theorem number {n : Nat} {f : FS} (h : Fd n f) (hn : n < 2 ^ 29) : ∃ p f', LN [.feed] (some f) = some (fr p, some f') ∧ Sz 5 p ∧ Fd (n + 4) f' := by
  obtain ⟨r1, f1, e1, a1, a2, h1⟩ := draw 3 h (by decide) (num_n (i := 0) hn) (by decide)
  obtain ⟨m, q1, q2, q3⟩ := num_tab a1 a2
  obtain ⟨r2, f2, e2, b1, b2, h2⟩ := draw m h1 q2 (num_n hn) (num_m q3)
  obtain ⟨r3, f3, e3, c1, c2, h3⟩ := draw 6 h2 (by decide) (num_n (i := 2) hn) (by decide)
  obtain ⟨d, u1, u2, u3⟩ := num_tab2 c1 c2
  obtain ⟨r4, f4, e4, d1, d2, h4⟩ := draw 2 h3 (by decide) (num_n (i := 3) hn) (by decide)
  obtain ⟨bn, z3, z2, z4⟩ := num_bd b1 b2 q3 d1 d2
  obtain ⟨bd, dn⟩ := num_d u2 u3
  have g := lfrac (r2 * (1 - 2 * r4)) d (some f4) dn bd (by decide)
  refine ⟨_, f4, mFn_ret (s := ⟨[.val .feed, .val (.int r2), .val (.int d)], some f4⟩) ?_, Sz.of_divInt dn bn bd, h4⟩
  show b_law_number LF f_law_draw ⟨[.val .feed, .no, .no], some f⟩ = _
  unfold b_law_number
  rw [seq_next (s1 := ⟨[.val .feed, .val (.int r2), .no], some f2⟩) (asg_e (cl_e2 (cons_e rfl (cons_e (op_e (s1 := ⟨[.val .feed, .no, .no], some f⟩) rfl (cl_e rfl e1) q1) rfl)) e2) rfl),
    seq_next (s1 := ⟨[.val .feed, .val (.int r2), .val (.int d)], some f3⟩) (asg_e (op_e (s1 := ⟨[.val .feed, .val (.int r2), .no], some f2⟩) rfl (cl_e rfl e3) u1) rfl)]
  exact ret_of (cl_e2 (cons_e (op_e rfl (op_e rfl (op_e rfl (cl_e rfl e4) (mulE (by decide) (z2.bits (by decide)))) rfl) (mulE (z3.bits (by decide)) (z4.bits (by decide)))) rfl) g)
noncomputable abbrev LPl : DFn := f_law_place LA LN
structure PtS (k : Nat) (a : Pt) : Prop where
  x : Sz k a.1
  y : Sz k a.2
theorem PtS.ps {k : Nat} {a : Pt} (h : PtS k a) : Ps (k + k) a := Ps.of h.x h.y
theorem PtS.mono {k l : Nat} {a : Pt} (h : PtS k a) (hl : k ≤ l) : PtS l a := ⟨h.x.mono hl, h.y.mono hl⟩
theorem place {n : Nat} {f : FS} (h : Fd n f) (hn : n < 2 ^ 28) : ∃ a f', LPl [.feed] (some f) = some (pt a, some f') ∧ PtS 5 a ∧ Fd (n + 8) f' := by
  obtain ⟨p, f1, e1, s1, h1⟩ := number h (by omega)
  obtain ⟨q, f2, e2, s2, h2⟩ := number h1 (by omega)
  refine ⟨(p, q), f2, mFn_ret (s := ⟨[.val .feed], some f2⟩) ?_, ⟨s1, s2⟩, h2⟩
  show b_law_place LA LN ⟨[.val .feed], some f⟩ = _
  simp [b_law_place, dSeq, dThen, dAsg, dOp, dUn, dC, dL, dV, dPut, dIfS, dB, dRet, dCall, dCons, dNil, dTup, dSkip, dCB, one, dNew, dLst, dIf, dAnd, dOr, dNot, dAndV, dOrV, dNotV, pIx, pAdd, pSub, pNeg, pCmp, pLen, dPutT, dPuts1, dPuts0, dPar, dTr, dTru, e1, e2, lat p q _ s1 s2 (by omega)]
end T

namespace DL
open PySem L2
structure Ok (k n : Nat) (d : D) : Prop where
  pl : d.plain = true
  sh : d.py.showable = true
  la : d.py.canLay0 = true
  dp : d.py.depth ≤ k
  le : d.py.leavesShort 1921 = true
  bu : d.py.bulk ≤ n
structure OkL (k n : Nat) (ds : List D) : Prop where
  pl : D.plains ds = true
  sh : PyData.showableAll (D.pys ds) = true
  la : PyData.canLayAll0 (D.pys ds) = true
  dp : PyData.depthAll (D.pys ds) ≤ k
  le : PyData.leavesShortAll 1921 (D.pys ds) = true
  bu : PyData.bulkAll (D.pys ds) ≤ n
theorem Ok.mono {k n k' n' : Nat} {d : D} (h : Ok k n d) (hk : k ≤ k') (hn : n ≤ n') : Ok k' n' d := ⟨h.pl, h.sh, h.la, Nat.le_trans h.dp hk, h.le, Nat.le_trans h.bu hn⟩
theorem OkL.mono {k n k' n' : Nat} {ds : List D} (h : OkL k n ds) (hk : k ≤ k') (hn : n ≤ n') : OkL k' n' ds := ⟨h.pl, h.sh, h.la, Nat.le_trans h.dp hk, h.le, Nat.le_trans h.bu hn⟩
theorem Ok.non : Ok 0 0 .non := ⟨rfl, rfl, rfl, Nat.le_refl _, rfl, Nat.le_refl _⟩
theorem Ok.bl (b : Bool) : Ok 0 0 (.bl b) := ⟨rfl, rfl, rfl, Nat.le_refl _, rfl, Nat.le_refl _⟩
theorem Ok.int {i : Int} (h : Bd 1920 i) : Ok 0 0 (.int i) := by
  have hl : i.natAbs.log2 < 1920 := log2_small (by decide) h
  refine ⟨rfl, ?_, rfl, Nat.le_refl _, ?_, Nat.le_refl _⟩
  · simp only [D.py, PyData.showable]; exact decide_eq_true hl
  · simp only [D.py, PyData.leavesShort, PyData.shown]
    exact decide_eq_true (len_int hl)
theorem Ok.str {x : Str} (h : PyData.strOk x = true) : Ok 0 x.length (.str x) := by
  refine ⟨rfl, rfl, ?_, Nat.le_refl _, ?_, Nat.le_refl _⟩
  · simp only [D.py, PyData.canLay0]; exact h
  · exact PyData.leavesShort_of_canLay0 1921 (.str x) (by simp only [PyData.canLay0]; exact h) rfl
theorem OkL.nil : OkL 0 0 [] := ⟨rfl, rfl, rfl, Nat.le_refl _, rfl, Nat.le_refl _⟩
theorem OkL.cons {k l n m : Nat} {d : D} {ds : List D} (h : Ok k n d) (hs : OkL l m ds) : OkL (max k l) (n + 1 + m) (d :: ds) := by
  refine ⟨?_, ?_, ?_, ?_, ?_, ?_⟩
  · simp only [D.plains, h.pl, hs.pl, Bool.and_self]
  · simp only [D.pys, PyData.showableAll, h.sh, hs.sh, Bool.and_self]
  · simp only [D.pys, PyData.canLayAll0, h.la, hs.la, Bool.and_self]
  · have := h.dp; have := hs.dp; simp only [D.pys, PyData.depthAll]; omega
  · simp only [D.pys, PyData.leavesShortAll, h.le, hs.le, Bool.and_self]
  · have := h.bu; have := hs.bu; simp only [D.pys, PyData.bulkAll]; omega
theorem Ok.tup {k n : Nat} {ds : List D} (h : OkL k n ds) : Ok (k + 1) n (.tup ds) := by
  refine ⟨?_, ?_, ?_, ?_, ?_, ?_⟩
  · simp only [D.plain, h.pl]
  · simp only [D.py, PyData.showable, h.sh]
  · simp only [D.py, PyData.canLay0, h.la]
  · have := h.dp; simp only [D.py, PyData.depth]; omega
  · simp only [D.py, PyData.leavesShort, h.le]
  · have := h.bu; simp only [D.py, PyData.bulk]; omega
theorem Ok.lst {k n : Nat} {ds : List D} (h : OkL k n ds) : Ok (k + 1) n (.lst ds) := by
  refine ⟨?_, ?_, ?_, ?_, ?_, ?_⟩
  · simp only [D.plain, h.pl]
  · simp only [D.py, PyData.showable, h.sh]
  · simp only [D.py, PyData.canLay0, h.la]
  · have := h.dp; simp only [D.py, PyData.depth]; omega
  · simp only [D.py, PyData.leavesShort, h.le]
  · have := h.bu; simp only [D.py, PyData.bulk]; omega
theorem OkL.all {k n : Nat} : ∀ {ds : List D}, (∀ d ∈ ds, Ok k n d) → OkL k (ds.length * (n + 1)) ds
  | [], _ => OkL.nil.mono (by omega) (by omega)
  | d :: r, h => by
    have := (OkL.cons (h d (List.mem_cons_self ..)) (OkL.all (ds := r) fun x hx => h x (List.mem_cons_of_mem _ hx)))
    refine this.mono (by omega) ?_
    rw [List.length_cons, Nat.add_mul, Nat.one_mul]; omega
theorem Ok.show {k n : Nat} {d : D} (h : Ok k n d) (hk : k ≤ 64 := by decide) (hn : n ≤ 8000 := by decide) : showOk d = true := by
  have e := PyData.shown_le_bulk 1921 (by decide) d.py h.le
  have e2 : (1921 + 2) * d.py.bulk ≤ 1923 * 8000 := Nat.mul_le_mul (by decide) (Nat.le_trans h.bu hn)
  have : d.py.shown.length ≤ sizeLine := by rw [sizeLine_eq]; omega
  simp only [showOk, h.pl, h.sh, h.la, Bool.true_and, Bool.and_true, decide_eq_true this, decide_eq_true (Nat.le_trans h.dp hk)]
theorem Ok.eq {k n : Nat} {d : D} (h : Ok k n d) (hk : k ≤ 64 := by decide) : eqOk d = true := by
  simp only [eqOk, h.pl, SeqAt.shaped, h.la, Bool.true_and, decide_eq_true (Nat.le_trans h.dp hk)]
theorem Ok.repr {k n : Nat} {d : D} (h : Ok k n d) (hk : k ≤ 64 := by decide) (hn : n ≤ 8000 := by decide) : pRepr d = some (.str d.py.shown) := pRepr_of (h.show hk hn)
theorem Ok.fr {k : Nat} {p : Rat} (h : Sz k p) (hk : k ≤ 1920 := by decide) : Ok 1 2 (fr p) := Ok.tup ((OkL.cons (Ok.int (h.num.mono hk)) (OkL.cons (Ok.int (h.den.mono hk)) OkL.nil)))
theorem Ok.pt {k : Nat} {a : Pt} (h : Ps k a) (hk : k ≤ 1920 := by decide) : Ok 1 3 (pt a) := Ok.tup ((OkL.cons (Ok.int (h.x.mono hk)) (OkL.cons (Ok.int (h.y.mono hk)) (OkL.cons (Ok.int (h.l.mono hk)) OkL.nil))))
theorem strNe_self (x : Str) : pNe (.str x) (.str x) = some (.bl false) := by rw [pNe_str]; simp
theorem ixT (ds : List D) (i : Int) : pIx (.tup ds) (.int i) = atI ds i := rfl
theorem ixL (ds : List D) (i : Int) : pIx (.lst ds) (.int i) = atI ds i := rfl
theorem ix_fr0 (p : Rat) : pIx (DL.fr p) (.int 0) = some (.int p.num) := rfl
theorem ix_fr1 (p : Rat) : pIx (DL.fr p) (.int 1) = some (.int p.den) := rfl
theorem ix_pt0 (a : Pt) : pIx (DL.pt a) (.int 0) = some (.int (pX a)) := rfl
theorem ix_pt1 (a : Pt) : pIx (DL.pt a) (.int 1) = some (.int (pY a)) := rfl
theorem ix_pt2 (a : Pt) : pIx (DL.pt a) (.int 2) = some (.int (pL a)) := rfl
theorem pt_inj {a b : Pt} (h1 : pX a = pX b) (h2 : pY a = pY b) (h3 : pL a = pL b) : a = b := by
  have e1 := pX_eq a; have e2 := pX_eq b; have e3 := pY_eq a; have e4 := pY_eq b
  have n := pL_neR b
  rw [h1, h3] at e1; rw [h2, h3] at e3
  exact Prod.ext (by grind) (by grind)
theorem pNe_pt {k l : Nat} {a b : Pt} (ha : Ps k a) (hb : Ps l b) (hk : k ≤ 1920 := by decide) (hl : l ≤ 1920 := by decide) : pNe (pt a) (pt b) = some (.bl (!decide (a = b))) := by
  have o1 := (Ok.pt ha hk).eq
  have o2 := (Ok.pt hb hl).eq
  unfold pt at *
  simp only [pNe, o1, o2, Bool.and_self, if_true, D.py, D.pys, PyData.eqv, PyData.eqvAll, Bool.beq_eq_decide_eq, Bool.and_true]
  congr 3
  rw [Bool.eq_iff_iff]
  simp only [Bool.and_eq_true, decide_eq_true_iff]
  constructor
  · rintro ⟨h1, h2, h3⟩; exact pt_inj h1 h2 h3
  · rintro rfl; exact ⟨rfl, rfl, rfl⟩
end DL

namespace T
open PySem L2 DL
theorem szk {k : Nat} {a b : Pt} (ha : PtS k a) (hb : PtS k b) : Sz (8 * k + 5) (dsq a b) :=
  (((ha.1.sub hb.1).mul (ha.1.sub hb.1)).add ((ha.2.sub hb.2).mul (ha.2.sub hb.2))).mono (by omega)
theorem sgn_lt (r : Rat) : decide (sgn r < 0) = decide (r < 0) := by
  unfold sgn
  by_cases h : 0 < r
  · rw [if_pos h, decide_eq_false (by decide), decide_eq_false (by grind)]
  · rw [if_neg h]
    by_cases h2 : r < 0
    · rw [if_pos h2, decide_eq_true h2]; rfl
    · rw [if_neg h2, decide_eq_false h2]; rfl
theorem num_lt (x y : Rat) : decide ((x + -y).num < 0) = decide (x < y) := by
  rw [Bool.eq_iff_iff, decide_eq_true_iff, decide_eq_true_iff]
  have hd : (0 : Rat) < (((x + -y).den : Int) : Rat) := Rat.intCast_pos.mpr (den_pos _)
  have e := num_eq (x + -y)
  have c : ((x + -y).num < 0) ↔ (((x + -y).num : Rat) < 0) := by
    rw [show (0 : Rat) = ((0 : Int) : Rat) from rfl, Rat.intCast_lt_intCast]
  rw [c, e]
  constructor
  · intro h
    by_cases z : x < y
    · exact z
    · have : 0 ≤ (x + -y) * (((x + -y).den : Int) : Rat) := Rat.mul_nonneg (by grind) (Rat.le_of_lt hd)
      grind
  · intro h
    have : 0 < -(x + -y) * (((x + -y).den : Int) : Rat) := Rat.mul_pos (by grind) hd
    grind
noncomputable abbrev LSqr : DFn := f_law_squared LS LP f_law_minus LX
noncomputable abbrev LFa : DFn := f_law_farther LS f_law_minus LSqr f_law_turn
theorem lfar (h b o : Pt) (fs : Option FS) (sh : PtS 300 h) (sb : PtS 300 b) (so : PtS 300 o) : LFa [pt h, pt b, pt o] fs = some (.bl (farB h b o), fs) := by
  have t := lturn h b o fs sh.ps sb.ps so.ps (by decide)
  have q1 := lsquared h b fs sh.x sh.y sb.x sb.y (by decide)
  have q2 := lsquared h o fs sh.x sh.y so.x so.y (by decide)
  have m := lminus (dsq h o) fs
  have s := lsum (dsq h b) (-dsq h o) fs (szk sh sb) (szk sh so).neg (by decide)
  refine mFn_ret (s := ⟨[.val (pt h), .val (pt b), .val (pt o), .val (.int (sgn (cross h b o)))], fs⟩) ?_
  show b_law_farther LS f_law_minus LSqr f_law_turn ⟨[.val (pt h), .val (pt b), .val (pt o), .no], fs⟩ = _
  unfold b_law_farther
  rw [seq_next (s1 := ⟨[.val (pt h), .val (pt b), .val (pt o), .val (.int (sgn (cross h b o)))], fs⟩) (asg_e (cp_e rfl t) rfl)]
  unfold farB
  by_cases c : cross h b o = 0
  · have z : sgn (cross h b o) = 0 := (sgn0 _).mpr c
    rw [if_pos c, seq_next (ret2_e (s1 := ⟨[.val (pt h), .val (pt b), .val (pt o), .val (.int (sgn (cross h b o)))], fs⟩) (dB_of (op_e rfl rfl ((pNe_int _ 0).trans (by rw [decide_eq_true z]; rfl)))))]
    exact ret_of (op_e (op_e (cp_e (cons_e (cp_e rfl q1) (cons_e (cp_e (cons_e (cp_e rfl q2) rfl) m) rfl)) s) rfl (ix_fr0 _)) rfl (congrArg (fun b => some (D.bl b)) (num_lt _ _)))
  · have z : ¬ sgn (cross h b o) = 0 := fun e => c ((sgn0 _).mp e)
    rw [if_neg c]
    refine seq_ret ?_
    rw [ifS_t (s1 := ⟨[.val (pt h), .val (pt b), .val (pt o), .val (.int (sgn (cross h b o)))], fs⟩) (dB_of (op_e rfl rfl ((pNe_int _ 0).trans (by rw [decide_eq_false z]; rfl))))]
    exact ret_of (op_e rfl rfl (congrArg (fun b => some (D.bl b)) (sgn_lt _)))
def mnB (a q : Pt) : Pt := if lsB q a then q else a
theorem mn_ok : ∀ (l : List Pt) (S : List Pt) (a : Pt), a ∈ S → (∀ q ∈ S, Lst a q) → (l.foldl mnB a) ∈ S ++ l ∧ ∀ q ∈ S ++ l, Lst (l.foldl mnB a) q
  | [], S, a, h1, h2 => by rw [List.append_nil]; exact ⟨h1, h2⟩
  | o :: r, S, a, h1, h2 => by
    have e : S ++ o :: r = (S ++ [o]) ++ r := by simp
    rw [e, List.foldl_cons]
    unfold mnB
    by_cases c : lsB o a = true
    · rw [if_pos c]
      have co := (lsB_iff o a).mp c
      refine mn_ok r (S ++ [o]) o (List.mem_append_right _ (List.mem_singleton.mpr rfl)) fun q hq => ?_
      rcases List.mem_append.mp hq with hq | hq
      · rcases h2 q hq with rfl | hq
        · exact .inr co
        · refine .inr ?_
          have := lex_add hq co
          have e1 : q.1 - a.1 + (a.1 - o.1) = q.1 - o.1 := by grind
          have e2 : q.2 - a.2 + (a.2 - o.2) = q.2 - o.2 := by grind
          rwa [e1, e2] at this
      · exact .inl (List.mem_singleton.mp hq)
    · rw [if_neg c]
      refine mn_ok r (S ++ [o]) a (List.mem_append_left _ h1) fun q hq => ?_
      rcases List.mem_append.mp hq with hq | hq
      · exact h2 q hq
      · rw [List.mem_singleton.mp hq]
        by_cases z : o = a
        · exact .inl z
        · have n : ¬ (a.1 - o.1 = 0 ∧ a.2 - o.2 = 0) := fun ⟨u, v⟩ => z (Prod.ext (by grind) (by grind))
          rcases lex_tri _ _ n with t | t
          · exact absurd ((lsB_iff o a).mpr t) c
          · refine .inr ?_
            have e1 : -(a.1 - o.1) = o.1 - a.1 := by grind
            have e2 : -(a.2 - o.2) = o.2 - a.2 := by grind
            rwa [e1, e2] at t
def PL (l : List Pt) : Prop := ∀ p ∈ l, PtS 300 p
theorem PL.tl {a : Pt} {l : List Pt} (h : PL (a :: l)) : PL l := fun p hp => h p (List.mem_cons_of_mem _ hp)
theorem PL.hd {a : Pt} {l : List Pt} (h : PL (a :: l)) : PtS 300 a := h a (List.mem_cons_self ..)
noncomputable abbrev LHu : DFn := f_law_hull LFa f_law_lesser
theorem hl_first (x0 x3 x4 x5 : Sl) (fs : Option FS) : ∀ (l : List Pt) (a : Pt) (x2 : Sl), PL l → PtS 300 a → ∃ y2, dForL (dPut 2) (l3_law_hull LFa f_law_lesser) (l.map pt) ⟨[x0, .val (pt a), x2, x3, x4, x5], fs⟩ = some (.next, ⟨[x0, .val (pt (l.foldl mnB a)), y2, x3, x4, x5], fs⟩)
  | [], a, x2, _, _ => ⟨x2, rfl⟩
  | o :: r, a, x2, hl, ha => by
    have t := llesser o a fs hl.hd.ps ha.ps (by decide)
    have hm : PtS 300 (mnB a o) := by unfold mnB; split; exact hl.hd; exact ha
    obtain ⟨y2, e⟩ := hl_first x0 x3 x4 x5 fs r (mnB a o) (.val (pt o)) hl.tl hm
    refine ⟨y2, ?_⟩
    rw [List.map_cons, forL_go (s1 := ⟨[x0, .val (pt a), .val (pt o), x3, x4, x5], fs⟩) (s2 := ⟨[x0, .val (pt (mnB a o)), .val (pt o), x3, x4, x5], fs⟩) rfl ?_, e, List.foldl_cons]
    unfold mnB
    show dIfS (dTr (dCall f_law_lesser (dCons (dV 2) (dCons (dV 1) dNil)))) (dAsg (dV 2) (dPut 1)) dSkip _ = _
    cases c : lsB o a with
    | true =>
      rw [c] at t
      rw [ifS_t (tr_e (cp_e rfl t)), if_pos rfl]
      rfl
    | false =>
      rw [c] at t
      rw [ifS_f (tr_e (cp_e rfl t)), if_neg Bool.false_ne_true]
      rfl
def obD : Option Pt → D
  | none => .non
  | some p => pt p
theorem hl_scan (x0 x1 x3 : Sl) (h : Pt) (sh : PtS 300 h) (fs : Option FS) : ∀ (l : List Pt) (b : Option Pt) (x2 : Sl), PL l → (∀ r, b = some r → PtS 300 r) → ∃ y2, dForL (dPut 2) (l2_law_hull LFa f_law_lesser) (l.map pt) ⟨[x0, x1, x2, x3, .val (pt h), .val (obD b)], fs⟩ = some (.next, ⟨[x0, x1, y2, x3, .val (pt h), .val (obD (l.foldl (stepB h) b))], fs⟩)
  | [], b, x2, _, _ => ⟨x2, rfl⟩
  | o :: r, b, x2, hl, hb => by
    have hn : ∀ q, stepB h b o = some q → PtS 300 q := fun q hq => by
      by_cases e : o = h
      · rw [e, stB_same] at hq; exact hb q hq
      · cases b with
        | none => rw [stB_none e] at hq; cases hq; exact hl.hd
        | some p =>
          cases f : farB h p o with
          | true => rw [stB_far e f] at hq; cases hq; exact hl.hd
          | false => rw [stB_stay e f] at hq; cases hq; exact hb _ rfl
    obtain ⟨y2, e⟩ := hl_scan x0 x1 x3 h sh fs r (stepB h b o) (.val (pt o)) hl.tl hn
    refine ⟨y2, ?_⟩
    rw [List.map_cons, forL_go (s1 := ⟨[x0, x1, .val (pt o), x3, .val (pt h), .val (obD b)], fs⟩) (s2 := ⟨[x0, x1, .val (pt o), x3, .val (pt h), .val (obD (stepB h b o))], fs⟩) rfl ?_, e, List.foldl_cons]
    have ne : dB (dOp pNe (dL 2) (dL 4)) ⟨[x0, x1, .val (pt o), x3, .val (pt h), .val (obD b)], fs⟩ = some (!decide (o = h), ⟨[x0, x1, .val (pt o), x3, .val (pt h), .val (obD b)], fs⟩) := dB_of (op_e rfl rfl (pNe_pt hl.hd.ps sh.ps))
    show dIfS (dAnd (dB (dOp pNe (dL 2) (dL 4))) (dOr (dB (dOp pIsN (dL 5) (dC .non))) (dTr (dCall LFa (dCons (dV 4) (dCons (dV 5) (dCons (dV 2) dNil))))))) (dAsg (dV 2) (dPut 5)) dSkip _ = _
    by_cases eo : o = h
    · rw [decide_eq_true eo] at ne
      rw [ifS_f (and_ff ne)]
      subst eo
      rw [stB_same]
      rfl
    · rw [decide_eq_false eo] at ne
      cases b with
      | none =>
        rw [ifS_t (and_tt ne (or_tt (dB_of (op_e rfl rfl rfl)))), stB_none eo]
        rfl
      | some p =>
        have t := lfar h p o fs sh (hb p rfl) hl.hd
        have nn : dB (dOp pIsN (dL 5) (dC .non)) ⟨[x0, x1, .val (pt o), x3, .val (pt h), .val (obD (some p))], fs⟩ = some (false, ⟨[x0, x1, .val (pt o), x3, .val (pt h), .val (obD (some p))], fs⟩) := dB_of (op_e rfl rfl rfl)
        cases f : farB h p o with
        | true =>
          rw [f] at t
          rw [ifS_t (and_tt ne (or_fx nn (tr_e (cp_e rfl t)))), stB_far eo f]
          rfl
        | false =>
          rw [f] at t
          rw [ifS_f (and_tt ne (or_fx nn (tr_e (cp_e rfl t)))), stB_stay eo f]
          rfl
abbrev huS (l : List Pt) (f : Pt) (x2 : Sl) (fd : List Pt) (h : Pt) (x5 : Sl) (fs : Option FS) : DS := ⟨[.val (.lst (l.map pt)), .val (pt f), x2, .own (fd.map pt), .val (pt h), x5], fs⟩
noncomputable def nxH (l : List Pt) (f : Pt) (n : Nat) (h : Pt) : Pt := match bestB h l with
  | none => f
  | some p => if l.length < n then f else p
theorem best_in {h : Pt} {l : List Pt} {p : Pt} (e : bestB h l = some p) : p ∈ l := by
  have : ∀ (l : List Pt) (b : Option Pt) (S : List Pt), (∀ q, b = some q → q ∈ S) → ∀ q, l.foldl (stepB h) b = some q → q ∈ S ++ l := by
    intro l
    induction l with
    | nil => intro b S hb q hq; rw [List.append_nil]; exact hb q hq
    | cons o r ih =>
      intro b S hb q hq
      rw [List.foldl_cons] at hq
      have := ih (stepB h b o) (S ++ [o]) (fun z hz => by
        by_cases e : o = h
        · rw [e, stB_same] at hz; exact List.mem_append_left _ (hb z hz)
        · cases b with
          | none => rw [stB_none e] at hz; cases hz; exact List.mem_append_right _ (List.mem_singleton.mpr rfl)
          | some p =>
            cases f : farB h p o with
            | true => rw [stB_far e f] at hz; cases hz; exact List.mem_append_right _ (List.mem_singleton.mpr rfl)
            | false => rw [stB_stay e f] at hz; cases hz; exact List.mem_append_left _ (hb _ rfl)) q hq
      rw [List.append_assoc] at this
      exact this
  have := this l none [] (fun q hq => by cases hq) p e
  rwa [List.nil_append] at this
theorem nx_in {l : List Pt} {f h : Pt} {n : Nat} (hf : f ∈ l) : nxH l f n h ∈ l := by
  unfold nxH
  cases e : bestB h l with
  | none => exact hf
  | some p =>
    by_cases c : l.length < n
    · simp only [if_pos c]; exact hf
    · simp only [if_neg c]; exact best_in e
theorem hu_it {l : List Pt} {f h : Pt} {fd : List Pt} (x2 x5 : Sl) (fs : Option FS) (hl : PL l) (hf : f ∈ l) (hh : h ∈ l) (ln : fd.length ≤ 50) : ∃ y2 y5, l1_law_hull LFa f_law_lesser (huS l f x2 fd h x5 fs) = some (.next, huS l f y2 (fd ++ [h]) (nxH l f (fd.length + 1) h) y5 fs) := by
  obtain ⟨y2, e⟩ := hl_scan (.val (.lst (l.map pt))) (.val (pt f)) (.own ((fd ++ [h]).map pt)) h (hl h hh) fs l none x2 hl (fun r hr => by cases hr)
  have ap : (fd ++ [h]).map pt = fd.map pt ++ [pt h] := by simp
  have ll : (fd.map pt).length < sizeLine := Nat.lt_of_le_of_lt (by rw [List.length_map]; exact ln) (show 50 < sizeLine by decide)
  refine ⟨y2, .val (obD (bestB h l)), ?_⟩
  unfold l1_law_hull
  rw [seq_next (s1 := huS l f x2 (fd ++ [h]) h x5 fs) (by unfold huS; rw [ap]; exact app_e (s1 := huS l f x2 fd h x5 fs) rfl rfl rfl ll),
    seq_next (s1 := huS l f x2 (fd ++ [h]) h (.val (obD none)) fs) (asg_e rfl rfl),
    seq_next ((for_lst (ds := l.map pt) (s1 := huS l f x2 (fd ++ [h]) h (.val (obD none)) fs) rfl).trans e)]
  have e2 : l.foldl (stepB h) none = bestB h l := rfl
  rw [e2]
  unfold nxH
  have lt : dB (dOp (pCmp (fun i j => decide (j < i))) (dCB (one pLen) (dCons (dL 3) dNil)) (dCB (one pLen) (dCons (dL 0) dNil))) (huS l f y2 (fd ++ [h]) h (.val (obD (bestB h l))) fs) = some (decide (l.length < fd.length + 1), huS l f y2 (fd ++ [h]) h (.val (obD (bestB h l))) fs) := by
    have q : decide (((l.map pt).length : Int) < (((fd ++ [h]).map pt).length : Int)) = decide (l.length < fd.length + 1) := by
      rw [Bool.eq_iff_iff, decide_eq_true_iff, decide_eq_true_iff, List.length_map, List.length_map, List.length_append, List.length_singleton]
      omega
    rw [← q]
    exact dB_of (op_e (cb1_e (p := pLen) rfl rfl) (cb1_e (p := pLen) rfl rfl) rfl)
  cases hb : bestB h l with
  | none => exact asg_e ((if_te (or_tt (dB_of (op_e rfl rfl rfl)))).trans rfl) rfl
  | some p =>
    rw [hb] at lt
    have nn : dB (dOp pIsN (dL 5) (dC .non)) (huS l f y2 (fd ++ [h]) h (.val (obD (some p))) fs) = some (false, huS l f y2 (fd ++ [h]) h (.val (obD (some p))) fs) := dB_of (op_e rfl rfl rfl)
    by_cases c : l.length < fd.length + 1
    · rw [decide_eq_true c] at lt
      simp only [if_pos c]
      exact asg_e ((if_te (or_fx nn lt)).trans rfl) rfl
    · rw [decide_eq_false c] at lt
      simp only [if_neg c]
      exact asg_e ((if_fe (or_fx nn lt)).trans rfl) rfl
theorem pts_eqok {fd : List Pt} (h : PL fd) : eqOk (.lst (fd.map pt)) = true := (Ok.lst (OkL.all (k := 1) (n := 3) (ds := fd.map pt) fun d hd => by
  obtain ⟨p, hp, rfl⟩ := List.mem_map.mp hd
  exact Ok.pt (h p hp).ps (by decide))).eq
theorem pEq_nilP {fd : List Pt} (h : PL fd) : pEq (.lst (fd.map pt)) (.lst []) = some (.bl (decide (fd = []))) := by
  have e : PyData.eqv (D.py (.lst (fd.map pt))) (D.py (.lst [])) = decide (fd = []) := by
    cases fd with
    | nil => rfl
    | cons d r => simp [D.py, D.pys, PyData.eqv, PyData.eqvAll]
  have h2 : eqOk (.lst []) = true := rfl
  unfold pEq
  simp only [pts_eqok h, h2, Bool.and_self, if_true, e]
noncomputable abbrev huT : DT := dOr (dB (dOp pNe (dL 4) (dL 1))) (dB (dOp pEq (dL 3) (dNew (dLst dNil))))
theorem hu_test {l : List Pt} {f h : Pt} {fd : List Pt} (x2 x5 : Sl) (fs : Option FS) (hl : PL l) (hf : f ∈ l) (hh : h ∈ l) (hd : PL fd) : huT (huS l f x2 fd h x5 fs) = some (!decide (h = f) || decide (fd = []), huS l f x2 fd h x5 fs) := by
  have ne : dB (dOp pNe (dL 4) (dL 1)) (huS l f x2 fd h x5 fs) = some (!decide (h = f), huS l f x2 fd h x5 fs) := dB_of (op_e rfl rfl (pNe_pt (hl h hh).ps (hl f hf).ps))
  cases c : (!decide (h = f)) with
  | true => rw [c] at ne; exact or_tt ne
  | false =>
    rw [c] at ne
    rw [Bool.false_or]
    exact or_fx ne (dB_of (op_e rfl (newL_e rfl) (pEq_nilP hd)))
theorem nx_far {l : List Pt} {f h : Pt} {n : Nat} (hn : l.length < n) : nxH l f n h = f := by
  unfold nxH
  cases bestB h l with
  | none => rfl
  | some p => simp only [if_pos hn]
/-- it ends -/
theorem hu_end {l : List Pt} {f : Pt} (fs : Option FS) (hl : PL l) (hf : f ∈ l) (l40 : l.length ≤ 40) : ∀ (m : Nat) (fd : List Pt) (h : Pt) (x2 x5 : Sl), l.length + 1 - fd.length = m → fd ≠ [] → (∀ q ∈ fd, q ∈ l) → h ∈ l → fd.length ≤ l.length + 1 → (l.length < fd.length → h = f) →
    ∃ fd' y2 y5, dWhile huT (l1_law_hull LFa f_law_lesser) (huS l f x2 fd h x5 fs) = some (.next, huS l f y2 fd' f y5 fs) ∧ fd.length ≤ fd'.length ∧ fd'.length ≤ l.length + 1 ∧ ∀ q ∈ fd', q ∈ l := by
  intro m
  induction m with
  | zero =>
    intro fd h x2 x5 hm hn hd hh hlen hz
    have : h = f := hz (by omega)
    subst this
    have t := hu_test x2 x5 fs hl hf hf (fun p hp => hl p (hd p hp))
    rw [decide_eq_true rfl, decide_eq_false hn] at t
    exact ⟨fd, x2, x5, dWhile_end t, Nat.le_refl _, hlen, hd⟩
  | succ m ih =>
    intro fd h x2 x5 hm hn hd hh hlen hz
    have t := hu_test x2 x5 fs hl hf hh (fun p hp => hl p (hd p hp))
    rw [decide_eq_false hn, Bool.or_false] at t
    by_cases e : h = f
    · subst e
      rw [decide_eq_true rfl] at t
      exact ⟨fd, x2, x5, dWhile_end t, Nat.le_refl _, hlen, hd⟩
    · rw [decide_eq_false e] at t
      obtain ⟨y2, y5, it⟩ := hu_it x2 x5 fs hl hf hh (fd := fd) (by omega)
      obtain ⟨fd', z2, z5, w, q1, q2, q3⟩ := ih (fd ++ [h]) (nxH l f (fd.length + 1) h) y2 y5 (by rw [List.length_append, List.length_singleton]; omega) (by simp) (fun q hq => by
        rcases List.mem_append.mp hq with hq | hq
        · exact hd q hq
        · rw [List.mem_singleton.mp hq]; exact hh) (nx_in hf) (by
        rw [List.length_append, List.length_singleton]
        have : ¬ l.length < fd.length := fun z => e (hz z)
        omega) (fun z => nx_far (by rw [List.length_append, List.length_singleton] at z; exact z))
      rw [List.length_append, List.length_singleton] at q1
      exact ⟨fd', z2, z5, dWhile_turn t it w, by omega, q2, q3⟩
/-- three places that don't lie on one straight line: a going round of three or more -/
theorem lhull {l : List Pt} (fs : Option FS) (hl : PL l) (l3 : 3 ≤ l.length) (l40 : l.length ≤ 40) {a b c : Pt} (ha : a ∈ l) (hb : b ∈ l) (hc : c ∈ l) (h : cross a b c ≠ 0) :
    ∃ fd : List Pt, LHu [.lst (l.map pt)] fs = some (.tup (fd.map pt), fs) ∧ 3 ≤ fd.length ∧ fd.length ≤ 41 ∧ ∀ q ∈ fd, q ∈ l := by
  obtain ⟨a0, h0⟩ : ∃ a0, l[0]? = some a0 := ⟨_, List.getElem?_eq_getElem (by omega)⟩
  have m0 := List.mem_of_getElem? h0
  obtain ⟨y2, e1⟩ := hl_first (.val (.lst (l.map pt))) .no .no .no fs l a0 .no hl (hl a0 m0)
  obtain ⟨o1, o2⟩ := mn_ok l [a0] a0 (List.mem_singleton.mpr rfl) (fun q hq => .inl (List.mem_singleton.mp hq))
  generalize l.foldl mnB a0 = f at *
  have hf : f ∈ l := by
    rcases List.mem_append.mp o1 with z | z
    · rw [List.mem_singleton.mp z]; exact m0
    · exact z
  obtain ⟨p, r, b1, p1, p2, b2, r1, r2⟩ := three hf (fun q hq => o2 q (List.mem_append_right _ hq)) ha hb hc h
  have n1 : nxH l f 1 f = p := by unfold nxH; rw [b1]; exact if_neg (by omega)
  have n2 : nxH l f 2 p = r := by unfold nxH; rw [b2]; exact if_neg (by omega)
  have t1 := hu_test (fd := []) y2 .no fs hl hf hf (fun q hq => by cases hq)
  rw [decide_eq_true (rfl : ([] : List Pt) = []), Bool.or_true] at t1
  obtain ⟨z2, z5, i1⟩ := hu_it (fd := []) y2 .no fs hl hf hf (by decide)
  have t2 := hu_test (fd := [f]) z2 z5 fs hl hf p2 (fun q hq => by rw [List.mem_singleton.mp hq]; exact hl f hf)
  rw [decide_eq_false p1, Bool.not_false, Bool.true_or] at t2
  obtain ⟨u2, u5, i2⟩ := hu_it (fd := [f]) z2 z5 fs hl hf p2 (show 1 ≤ 50 by decide)
  have t3 := hu_test (fd := [f, p]) u2 u5 fs hl hf r2 (fun q hq => by
    rcases List.mem_cons.mp hq with rfl | hq
    · exact hl _ hf
    · rw [List.mem_singleton.mp hq]; exact hl p p2)
  rw [decide_eq_false r1, Bool.not_false, Bool.true_or] at t3
  obtain ⟨v2, v5, i3⟩ := hu_it (fd := [f, p]) u2 u5 fs hl hf r2 (show 2 ≤ 50 by decide)
  have i1' : l1_law_hull LFa f_law_lesser (huS l f y2 [] f .no fs) = some (.next, huS l f z2 [f] p z5 fs) := by rw [i1]; show some (Fl.next, huS l f z2 [f] (nxH l f 1 f) z5 fs) = _; rw [n1]
  have i2' : l1_law_hull LFa f_law_lesser (huS l f z2 [f] p z5 fs) = some (.next, huS l f u2 [f, p] r u5 fs) := by rw [i2]; show some (Fl.next, huS l f u2 [f, p] (nxH l f 2 p) u5 fs) = _; rw [n2]
  obtain ⟨fd, w2, w5, w, q1, q2, q3⟩ := hu_end fs hl hf l40 _ [f, p, r] (nxH l f 3 r) v2 v5 rfl (by simp) (fun q hq => by
    simp only [List.mem_cons, List.not_mem_nil, or_false] at hq
    rcases hq with rfl | rfl | rfl
    · exact hf
    · exact p2
    · exact r2) (nx_in hf) (show 3 ≤ _ by omega) (fun z => nx_far z)
  have W := dWhile_turn t1 i1' (dWhile_turn t2 i2' (dWhile_turn t3 i3 w))
  have l3' : 3 ≤ fd.length := q1
  refine ⟨fd, mFn_ret (s := huS l f w2 fd f w5 fs) ?_, l3', by omega, q3⟩
  show b_law_hull LFa f_law_lesser ⟨[.val (.lst (l.map pt)), .no, .no, .no, .no, .no], fs⟩ = _
  unfold b_law_hull
  have ix : pIx (.lst (l.map pt)) (.int 0) = some (pt a0) := (ixL _ _).trans (by
    rw [atI_ok (by decide) (by rw [List.length_map]; omega)]
    show (l.map pt)[0]? = _
    rw [List.getElem?_map, h0]; rfl)
  rw [seq_next (s1 := ⟨[.val (.lst (l.map pt)), .val (pt a0), .no, .no, .no, .no], fs⟩) (asg_e (op_e rfl rfl ix) rfl),
    seq_next ((for_lst (ds := l.map pt) (s1 := ⟨[.val (.lst (l.map pt)), .val (pt a0), .no, .no, .no, .no], fs⟩) rfl).trans e1),
    seq_next (s1 := ⟨[.val (.lst (l.map pt)), .val (pt f), y2, .own [], .no, .no], fs⟩) (asgO_e (s1 := ⟨[.val (.lst (l.map pt)), .val (pt f), y2, .no, .no, .no], fs⟩) rfl (show 3 < 6 by decide)),
    seq_next (s1 := huS l f y2 [] f .no fs) (asg_e rfl rfl), seq_next W]
  have gt : dB (dOp (pCmp (fun i j => decide (j < i))) (dCB (one pLen) (dCons (dL 3) dNil)) (dC (.int 2))) (huS l f w2 fd f w5 fs) = some (true, huS l f w2 fd f w5 fs) :=
    dB_of (op_e (cb1_e (p := pLen) rfl rfl) rfl (congrArg (fun b => some (D.bl b)) (decide_eq_true (show (2 : Int) < ((fd.map pt).length : Int) by rw [List.length_map]; omega))))
  exact ret_of ((if_te gt).trans (cb1_e rfl rfl))
end T

namespace DL
open PySem L2
def asc (x : Str) : Prop := ∀ c ∈ x.cps.toList, c < 128
mutual
def Th (b : Nat) : Nat → D → Prop
  | _, .non => True
  | _, .bl _ => True
  | _, .int i => Bd b i
  | _, .str x => asc x
  | k + 1, .tup ds => Ths b k ds
  | k + 1, .lst ds => Ths b k ds
  | _, _ => False
def Ths (b : Nat) : Nat → List D → Prop
  | _, [] => True
  | k, d :: r => Th b k d ∧ Ths b k r
end
def bk (d : D) : Nat := d.py.bulk
def bks (ds : List D) : Nat := PyData.bulkAll (D.pys ds)
theorem bks_cons (d : D) (r : List D) : bks (d :: r) = bk d + 1 + bks r := by simp only [bks, bk, D.pys, PyData.bulkAll]
theorem bk_tup (ds : List D) : bk (.tup ds) = bks ds := by simp only [bks, bk, D.py, PyData.bulk]
theorem bk_lst (ds : List D) : bk (.lst ds) = bks ds := by simp only [bks, bk, D.py, PyData.bulk]
section
variable {b b' k k' : Nat}
mutual
theorem Th.mono (hb : b ≤ b') : ∀ {k k' : Nat} (d : D), k ≤ k' → Th b k d → Th b' k' d
  | k, k', .non, _, _ => by unfold Th; trivial
  | k, k', .bl _, _, _ => by unfold Th; trivial
  | k, k', .int i, _, h => by unfold Th at *; exact Bd.mono h hb
  | k, k', .str x, _, h => by unfold Th at *; exact h
  | 0, k', .tup ds, _, h => by unfold Th at h; exact h.elim
  | k + 1, 0, .tup ds, hk, h => by omega
  | k + 1, k' + 1, .tup ds, hk, h => by unfold Th at *; exact Ths.mono hb ds (by omega) h
  | 0, k', .lst ds, _, h => by unfold Th at h; exact h.elim
  | k + 1, 0, .lst ds, hk, h => by omega
  | k + 1, k' + 1, .lst ds, hk, h => by unfold Th at *; exact Ths.mono hb ds (by omega) h
  | k, k', .feed, _, h => by unfold Th at h; exact h.elim
  | k, k', .scr _, _, h => by unfold Th at h; exact h.elim
theorem Ths.mono (hb : b ≤ b') : ∀ {k k' : Nat} (ds : List D), k ≤ k' → Ths b k ds → Ths b' k' ds
  | k, k', [], _, _ => by unfold Ths; trivial
  | k, k', d :: r, hk, h => by unfold Ths at *; exact ⟨Th.mono hb d hk h.1, Ths.mono hb r hk h.2⟩
end
theorem Ths.mem : ∀ {ds : List D} {d : D}, Ths b k ds → d ∈ ds → Th b k d
  | x :: r, d, h, m => by
    unfold Ths at h
    rcases List.mem_cons.mp m with z | z
    · subst z; exact h.1
    · exact Ths.mem h.2 z
theorem Ths.of : ∀ {ds : List D}, (∀ d ∈ ds, Th b k d) → Ths b k ds
  | [], _ => by unfold Ths; trivial
  | d :: r, h => by unfold Ths; exact ⟨h d (List.mem_cons_self ..), Ths.of fun x hx => h x (List.mem_cons_of_mem _ hx)⟩
theorem strOk_asc {x : Str} (h : asc x) : PyData.strOk x = true := by
  unfold PyData.strOk
  rw [Array.all_eq_true_iff_forall_mem]
  intro c hc
  have := h c (Array.mem_toList_iff.mpr hc)
  exact decide_eq_true (by omega)
mutual
theorem Th.ok (hb : b ≤ 1920) : ∀ {k : Nat} (d : D), Th b k d → Ok k (bk d) d
  | k, .non, _ => Ok.non.mono (by omega) (Nat.zero_le _)
  | k, .bl i, _ => (Ok.bl i).mono (by omega) (Nat.zero_le _)
  | k, .int i, h => by unfold Th at h; exact (Ok.int (Bd.mono h hb)).mono (by omega) (Nat.zero_le _)
  | k, .str x, h => by unfold Th at h; exact (Ok.str (strOk_asc h)).mono (by omega) (Nat.le_refl _)
  | 0, .tup ds, h => by unfold Th at h; exact h.elim
  | k + 1, .tup ds, h => by unfold Th at h; rw [bk_tup]; exact Ok.tup (Ths.ok hb ds h)
  | 0, .lst ds, h => by unfold Th at h; exact h.elim
  | k + 1, .lst ds, h => by unfold Th at h; rw [bk_lst]; exact Ok.lst (Ths.ok hb ds h)
  | k, .feed, h => by unfold Th at h; exact h.elim
  | k, .scr _, h => by unfold Th at h; exact h.elim
theorem Ths.ok (hb : b ≤ 1920) : ∀ {k : Nat} (ds : List D), Ths b k ds → OkL k (bks ds) ds
  | k, [], _ => OkL.nil.mono (by omega) (Nat.zero_le _)
  | k, d :: r, h => by
    unfold Ths at h
    rw [bks_cons]
    exact (OkL.cons (Th.ok hb d h.1) (Ths.ok hb r h.2)).mono (by omega) (Nat.le_refl _)
end
end
theorem cut_to (ds : List D) (n : Nat) (h : n ≤ ds.length) : cutD ds none (some (n : Int)) = ds.take n := by
  unfold cutD HT.sIx
  have h1 : ¬ (n : Int) < 0 := by omega
  simp only [h1, if_false, List.drop_zero, Nat.sub_zero, Int.toNat_natCast]
  rw [Nat.min_eq_left h]
theorem cut_from (ds : List D) (n : Nat) (h : n ≤ ds.length) : cutD ds (some (n : Int)) none = ds.drop n := by
  unfold cutD HT.sIx
  have h1 : ¬ (n : Int) < 0 := by omega
  simp only [h1, if_false, Int.toNat_natCast]
  rw [Nat.min_eq_left h]
  exact List.take_of_length_le (by rw [List.length_drop]; omega)
end DL

namespace T
open PySem L2 DL
end T

namespace DL
open PySem L2
theorem comp_map {idx : List Nat} {fe : DE} {g : D → D} (caps : List Sl) (fs : Option FS) : ∀ (ds : List D), (∀ d ∈ ds, ∃ s, fe ⟨.val d :: caps, fs⟩ = some (g d, s) ∧ s.fs = fs) → dCompL (fun d => some (.val d :: caps)) dYes fe ds fs = some (ds.map g, fs)
  | [], _ => rfl
  | d :: r, h => by
    obtain ⟨s, e, q⟩ := h d (List.mem_cons_self ..)
    have ih := comp_map (idx := idx) caps fs r fun x hx => h x (List.mem_cons_of_mem _ hx)
    simp [dCompL, dYes, e, q, ih]
def whole : D → Bool
  | .int _ => true
  | _ => false
end DL
namespace T
open PySem L2 DL
end T

namespace T
open PySem L2 DL
end T

namespace DL
open PySem L2
def nbs {α : Type} (c : Bool) (l : List α) : List (α × α) := l.zip (if c then l.drop 1 ++ l.take 1 else l.drop 1)
def pr2 (p : D × D) : D := .tup [p.1, p.2]
theorem nbs_map {α β : Type} (f : α → β) (c : Bool) (l : List α) : nbs c (l.map f) = (nbs c l).map fun p => (f p.1, f p.2) := by
  unfold nbs
  cases c
  · simp only [Bool.false_eq_true, if_false]
    rw [← List.map_drop, List.zip_map]; rfl
  · simp only [if_true]
    rw [← List.map_drop, ← List.map_take, ← List.map_append, List.zip_map]; rfl
theorem nbs_len {α : Type} (c : Bool) (l : List α) : (nbs c l).length ≤ l.length := by
  unfold nbs
  rw [List.length_zip]
  exact Nat.min_le_left ..
theorem nbs_mem {α : Type} {c : Bool} {l : List α} {p : α × α} (h : p ∈ nbs c l) : p.1 ∈ l ∧ p.2 ∈ l := by
  unfold nbs at h
  obtain ⟨h1, h2⟩ := List.of_mem_zip (a := p.1) (b := p.2) h
  refine ⟨h1, ?_⟩
  cases c
  · simp only [Bool.false_eq_true, if_false] at h2
    exact List.mem_of_mem_drop h2
  · simp only [if_true] at h2
    rcases List.mem_append.mp h2 with h | h
    · exact List.mem_of_mem_drop h
    · exact List.mem_of_mem_take h
theorem zip_pairs : ∀ (xs ys : List D), List.zipWith pairD xs ys = (xs.zip ys).map pr2
  | [], _ => by simp
  | _ :: _, [] => by simp
  | x :: xs, y :: ys => by
    rw [List.zipWith_cons_cons, List.zip_cons_cons, List.map_cons, zip_pairs xs ys]
    rfl
def lo (c : Bool) : Nat := if c then 3 else 2
def hi (c : Bool) : Nat := if c then 8 else 9
theorem cut1 (ds : List D) : cutD ds (some 1) none = ds.drop 1 := by
  cases ds with
  | nil => rfl
  | cons d r => exact cut_from (d :: r) 1 (by simp)
theorem cutTo1 (ds : List D) : cutD ds none (some 1) = ds.take 1 := by
  cases ds with
  | nil => rfl
  | cons d r => exact cut_to (d :: r) 1 (by simp)
end DL
namespace T
open PySem L2 DL
theorem neigh (ds : List D) (c : Bool) (fs : Option FS) (hl : ds.length + 1 ≤ sizeLine) : f_neighbours [.tup ds, .bl c] fs = some (.lst ((nbs c ds).map pr2), fs) := by
  refine mFn_ret (s := ⟨[.val (.tup ds), .val (.bl c)], fs⟩) ?_
  show b_neighbours ⟨[.val (.tup ds), .val (.bl c)], fs⟩ = _
  have h1 : ds.length - 1 + min 1 ds.length ≤ sizeLine := by omega
  cases c
  · simp [b_neighbours, dSeq, dThen, dAsg, dOp, dUn, dC, dL, dV, dPut, dIfS, dB, dRet, dCall, dCons, dNil, dTup, dSkip, dCB, one, dNew, dLst, dIf, dAnd, dOr, dNot, dAndV, dOrV, dNotV, pAdd, pSub, pNeg, pCmp, pLen, dPutT, dPuts1, dPuts0, dPar, dTr, dTru, ixT, ixL, ix_fr0, ix_fr1, ix_pt0, ix_pt1, ix_pt2, dSl, dAt, dNo, dCF, pZip, rowD, cut1, nbs, zip_pairs]
  · simp [b_neighbours, dSeq, dThen, dAsg, dOp, dUn, dC, dL, dV, dPut, dIfS, dB, dRet, dCall, dCons, dNil, dTup, dSkip, dCB, one, dNew, dLst, dIf, dAnd, dOr, dNot, dAndV, dOrV, dNotV, pAdd, pSub, pNeg, pCmp, pLen, dPutT, dPuts1, dPuts0, dPar, dTr, dTru, ixT, ixL, ix_fr0, ix_fr1, ix_pt0, ix_pt1, ix_pt2, dSl, dAt, dNo, dCF, pZip, rowD, cut1, cutTo1, nbs, zip_pairs, h1]
end T

namespace T
open PySem L2 DL
theorem rng_e {f : DA} {s s1 : DS} {m : Nat} (h : f s = some ([.int (m : Int)], s1)) (hm : m < 2 ^ 30) : dRange f s = some (ups 0 m, s1) := by
  unfold dRange
  rw [h, Option.bind_some]
  show (dRng [.int (m : Int)]).map _ = _
  rw [rng8 hm]
  rfl
theorem c_plc {n : Nat} : ∀ (m : Nat) {f : FS}, Fd n f → n + 8 * m < 2 ^ 27 → ∀ us : List D, us.length = m → ∃ (ps : List Pt) (f' : FS), dCompL (fun d => some (.val d :: [.val .feed])) dYes (dCall LPl (dCons (dV 1) dNil)) us (some f) = some (ps.map pt, some f') ∧ ps.length = m ∧ (∀ p ∈ ps, PtS 5 p) ∧ Fd (n + 8 * m) f' := by
  intro m
  induction m generalizing n with
  | zero =>
    intro f h hn us hu
    have : us = [] := List.eq_nil_of_length_eq_zero hu
    subst this
    exact ⟨[], f, rfl, rfl, fun p hp => (by cases hp), h.mono (by omega)⟩
  | succ m ih =>
    intro f h hn us hu
    match us, hu with
    | d :: r, hu =>
      obtain ⟨a, f1, e1, s1, h1⟩ := place h (by omega)
      obtain ⟨ps, f2, e2, l2, s2, h2⟩ := ih (n := n + 8) h1 (by omega) r (by simpa using hu)
      refine ⟨a :: ps, f2, ?_, by simp [l2], fun p hp => ?_, h2.mono (by omega)⟩
      · have el : dCall LPl (dCons (dV 1) dNil) ⟨[.val d, .val .feed], some f⟩ = some (pt a, ⟨[.val d, .val .feed], some f1⟩) := cl_e rfl e1
        rw [dCompL, Option.bind_some, show dYes ⟨[.val d, .val .feed], some f⟩ = some (true, ⟨[.val d, .val .feed], some f⟩) from rfl, Option.bind_some, if_pos rfl, el, Option.bind_some, e2]
        rfl
      · rcases List.mem_cons.mp hp with z | z
        · subst z; exact s1
        · exact s2 p z
def zD (z : Int × Int) : D := .tup [.int z.1, .int z.2]
def W8 : List (Int × Int) := [(1, 0), (2, 1), (1, 1), (1, 2), (0, 1), (-1, 2), (-1, 1), (-2, 1)]
/-- a filter that draws -/
theorem c_keep : ∀ (W : List (Int × Int)) {n : Nat} {f : FS}, Fd n f → n + W.length < 2 ^ 27 → ∃ (K : List (Int × Int)) (f' : FS), dCompL (fun d => some (.val d :: [.val .feed])) (dB (dOp pEq (dCall f_law_draw (dCons (dV 1) (dCons (dC (.int 3)) dNil))) (dC (.int 0)))) (dV 0) (W.map zD) (some f) = some (K.map zD, some f') ∧ K.Sublist W ∧ Fd (n + W.length) f'
  | [], n, f, h, _ => ⟨[], f, rfl, List.Sublist.refl _, h⟩
  | w :: W, n, f, h, hn => by
    rw [List.length_cons] at hn
    obtain ⟨r, f1, e1, a1, a2, h1⟩ := draw 3 h
    obtain ⟨K, f2, e2, sb, h2⟩ := c_keep W h1 (by omega)
    have t : dB (dOp pEq (dCall f_law_draw (dCons (dV 1) (dCons (dC (.int 3)) dNil))) (dC (.int 0))) ⟨[.val (zD w), .val .feed], some f⟩ = some (decide (r = 0), ⟨[.val (zD w), .val .feed], some f1⟩) := dB_of (op_e (cl_e rfl e1) rfl (pEq_int r 0))
    by_cases hr : r = 0
    · rw [decide_eq_true hr] at t
      refine ⟨w :: K, f2, ?_, sb.cons₂ w, h2.mono (by rw [List.length_cons]; omega)⟩
      rw [List.map_cons, dCompL, Option.bind_some, t, Option.bind_some, if_pos rfl]
      show (dCompL _ _ _ (W.map zD) (some f1)).map _ = _
      rw [e2]
      rfl
    · rw [decide_eq_false hr] at t
      refine ⟨K, f2, ?_, sb.cons w, h2.mono (by rw [List.length_cons]; omega)⟩
      rw [List.map_cons, dCompL, Option.bind_some, t, Option.bind_some, if_neg Bool.false_ne_true]
      exact e2
theorem c_neg (sl : List Sl) (fs : Option FS) : ∀ K : List (Int × Int), dCompL (mk2 [] sl) dYes (dTup (dCons (dOp pSub (dC (.int 0)) (dL 0)) (dCons (dOp pSub (dC (.int 0)) (dL 1)) dNil))) (K.map zD) fs = some ((K.map fun z => (0 - z.1, 0 - z.2)).map zD, fs)
  | [] => rfl
  | z :: r => by
    have ih := c_neg sl fs r
    have e : mk2 [] sl (zD z) = some [.val (.int z.1), .val (.int z.2)] := rfl
    have el : dTup (dCons (dOp pSub (dC (.int 0)) (dL 0)) (dCons (dOp pSub (dC (.int 0)) (dL 1)) dNil)) ⟨[.val (.int z.1), .val (.int z.2)], fs⟩ = some (zD (0 - z.1, 0 - z.2), ⟨[.val (.int z.1), .val (.int z.2)], fs⟩) := tup2_e (op_e rfl rfl rfl) (op_e rfl rfl rfl)
    rw [List.map_cons, dCompL, e, Option.bind_some, show dYes ⟨[.val (.int z.1), .val (.int z.2)], fs⟩ = some (true, ⟨[.val (.int z.1), .val (.int z.2)], fs⟩) from rfl, Option.bind_some, if_pos rfl, el, Option.bind_some, ih]
    rfl
/-- the places of a walk -/
def walk (s : Rat) : Pt → List (Int × Int) → List Pt
  | _, [] => []
  | p, z :: r => p :: walk s (p.1 + (z.1 : Rat) * s, p.2 + (z.2 : Rat) * s) r
theorem walk_len (s : Rat) : ∀ (l : List (Int × Int)) (p : Pt), (walk s p l).length = l.length
  | [], _ => rfl
  | z :: r, p => by rw [walk, List.length_cons, walk_len s r, List.length_cons]
def smz (z : Int × Int) : Prop := z.1.natAbs ≤ 2 ∧ z.2.natAbs ≤ 2
theorem walk_sz (s : Rat) (hs : Sz 4 s) : ∀ (l : List (Int × Int)) (p : Pt) (k : Nat), PtS k p → (∀ z ∈ l, smz z) → ∀ q ∈ walk s p l, PtS (k + 8 * l.length) q
  | [], _, _, _, _ => fun q hq => by cases hq
  | z :: r, p, k, hp, hz => fun q hq => by
    rw [walk] at hq
    obtain ⟨z1, z2⟩ := hz z (List.mem_cons_self ..)
    rcases List.mem_cons.mp hq with rfl | hq
    · exact hp.mono (by omega)
    · have m : ∀ i : Int, i.natAbs ≤ 2 → Sz 7 ((i : Rat) * s) := fun i hi => (Sz.int (k := 3) (show i.natAbs < 2 ^ 3 by omega) (by decide)).mul hs
      have := walk_sz s hs r _ (k + 8) ⟨(hp.x.add (m _ z1)).mono (by omega), (hp.y.add (m _ z2)).mono (by omega)⟩ (fun w hw => hz w (List.mem_cons_of_mem _ hw)) q hq
      exact this.mono (by rw [List.length_cons]; omega)
noncomputable abbrev LRo : DFn := f_law_round_shape LHu LG LP LF f_law_draw f_law_turn LPl
noncomputable abbrev lRo : DM := l1_law_round_shape LHu LG LP LF f_law_draw f_law_turn LPl
abbrev roS (x1 x2 x3 : Sl) (s : Rat) (p : Pt) (x6 x7 x8 : Sl) (f : FS) : DS := ⟨[.val .feed, x1, x2, x3, .val (fr s), .val (pt p), x6, x7, x8], some f⟩
theorem ro_loop (x1 x2 x3 : Sl) (s : Rat) (hs : Sz 4 s) (f : FS) : ∀ (l : List (Int × Int)) (p : Pt) (k : Nat) (acc : List D) (x7 x8 : Sl), PtS k p → (∀ z ∈ l, smz z) → k + 8 * l.length ≤ 1000 → acc.length + l.length ≤ 50 →
    ∃ (p' : Pt) (y7 y8 : Sl), dForL (dPutT 2 (dPuts1 (dPut 7) (dPuts1 (dPut 8) dPuts0))) lRo (l.map zD) (roS x1 x2 x3 s p (.own acc) x7 x8 f) = some (.next, roS x1 x2 x3 s p' (.own (acc ++ (walk s p l).map pt)) y7 y8 f)
  | [], p, k, acc, x7, x8, _, _, _, _ => ⟨p, x7, x8, by rw [walk, List.map_nil, List.map_nil, List.append_nil]; rfl⟩
  | z :: r, p, k, acc, x7, x8, hp, hz, hk, ha => by
    rw [List.length_cons] at hk ha
    obtain ⟨z1, z2⟩ := hz z (List.mem_cons_self ..)
    have i3 : ∀ i : Int, i.natAbs ≤ 2 → Sz 3 (i : Rat) := fun i hi => Sz.int (show i.natAbs < 2 ^ 3 by omega) (by decide)
    have m1 := lprod (z.1 : Rat) s (some f) (i3 _ z1) hs (by decide)
    have m2 := lprod (z.2 : Rat) s (some f) (i3 _ z2) hs (by decide)
    have b1 := (i3 _ z1).mul hs
    have b2 := (i3 _ z2).mul hs
    have g := lgone p _ _ (some f) hp.x hp.y b1 b2 (by omega)
    obtain ⟨p', y7, y8, e⟩ := ro_loop x1 x2 x3 s hs f r (p.1 + (z.1 : Rat) * s, p.2 + (z.2 : Rat) * s) (k + 8) (acc ++ [pt p]) (.val (.int z.1)) (.val (.int z.2)) ⟨(hp.x.add b1).mono (by omega), (hp.y.add b2).mono (by omega)⟩ (fun w hw => hz w (List.mem_cons_of_mem _ hw)) (by omega) (by rw [List.length_append, List.length_singleton]; omega)
    refine ⟨p', y7, y8, ?_⟩
    have ll : acc.length < sizeLine := Nat.lt_of_le_of_lt (by omega : acc.length ≤ 50) (by decide)
    rw [List.map_cons, forL_go (s1 := roS x1 x2 x3 s p (.own acc) (.val (.int z.1)) (.val (.int z.2)) f) (s2 := roS x1 x2 x3 s (p.1 + (z.1 : Rat) * s, p.2 + (z.2 : Rat) * s) (.own (acc ++ [pt p])) (.val (.int z.1)) (.val (.int z.2)) f) rfl ?_, e, walk, List.map_cons, List.append_assoc]
    · rfl
    · show l1_law_round_shape LHu LG LP LF f_law_draw f_law_turn LPl _ = _
      unfold l1_law_round_shape
      rw [seq_next (s1 := roS x1 x2 x3 s p (.own (acc ++ [pt p])) (.val (.int z.1)) (.val (.int z.2)) f) (app_e (s1 := roS x1 x2 x3 s p (.own acc) (.val (.int z.1)) (.val (.int z.2)) f) rfl rfl rfl ll)]
      exact asg_e (cp_e (cons_e rfl (cons_e (cp_e (cons_e (tup2_e rfl rfl) (cons_e rfl rfl)) m1) (cons_e (cp_e (cons_e (tup2_e rfl rfl) (cons_e rfl rfl)) m2) rfl))) g) rfl
/-- ways that are kept: two that are not along one another first -/
def okK (K : List (Int × Int)) : Prop := ∃ a b r, K = a :: b :: r ∧ a.1 * b.2 - a.2 * b.1 ≠ 0 ∧ (∀ z ∈ K, smz z) ∧ K.length ≤ 8
theorem W8_ok : (W8.all fun a => decide (a.1.natAbs ≤ 2 ∧ a.2.natAbs ≤ 2) && W8.all fun b => decide (a = b) || decide (a.1 * b.2 - a.2 * b.1 ≠ 0)) = true := by decide +kernel
theorem W8_sm {a : Int × Int} (ha : a ∈ W8) : smz a := by
  have h := List.all_eq_true.mp W8_ok a ha
  rw [Bool.and_eq_true] at h
  exact (of_decide_eq_true h.1 : a.1.natAbs ≤ 2 ∧ a.2.natAbs ≤ 2)
theorem W8_ne {a b : Int × Int} (ha : a ∈ W8) (hb : b ∈ W8) (n : a ≠ b) : a.1 * b.2 - a.2 * b.1 ≠ 0 := by
  have h := List.all_eq_true.mp W8_ok a ha
  rw [Bool.and_eq_true] at h
  have h2 := List.all_eq_true.mp h.2 b hb
  rw [decide_eq_false n, Bool.false_or] at h2
  exact of_decide_eq_true h2
theorem okK_sub {K : List (Int × Int)} (h : K.Sublist W8) (h2 : 1 < K.length) : okK K := by
  have nd : W8.Nodup := by decide
  match K, h, h2 with
  | a :: b :: r, h, _ =>
    have hn := nd.sublist h
    have ne : a ≠ b := fun e => by
      subst e
      simp at hn
    exact ⟨a, b, r, rfl, W8_ne (h.subset (List.mem_cons_self ..)) (h.subset (List.mem_cons_of_mem _ (List.mem_cons_self ..))) ne, fun z hz => W8_sm (h.subset hz), h.length_le⟩
theorem okK_two {r : Int} (h0 : 0 ≤ r) (h1 : r < 5) : ∃ b : Int × Int, atI (W8.map zD) (2 + r) = some (zD b) ∧ okK [(1, 0), b] := by
  have k : ∀ b : Int × Int, b ∈ W8 → (1, 0) ≠ b → okK [(1, 0), b] := fun b hb n => ⟨(1, 0), b, [], rfl, W8_ne (by decide) hb n, fun z hz => by
    rcases List.mem_cons.mp hz with rfl | hz
    · exact W8_sm (by decide)
    · rw [List.mem_singleton.mp hz]; exact W8_sm hb, show 2 ≤ 8 by decide⟩
  have : r = 0 ∨ r = 1 ∨ r = 2 ∨ r = 3 ∨ r = 4 := by omega
  rcases this with rfl | rfl | rfl | rfl | rfl
  · exact ⟨(1, 1), rfl, k _ (by decide) (by decide)⟩
  · exact ⟨(1, 2), rfl, k _ (by decide) (by decide)⟩
  · exact ⟨(0, 1), rfl, k _ (by decide) (by decide)⟩
  · exact ⟨(-1, 2), rfl, k _ (by decide) (by decide)⟩
  · exact ⟨(-1, 1), rfl, k _ (by decide) (by decide)⟩
/-- a shape that was drawn -/
structure ShS (fd : List Pt) : Prop where
  lo : 3 ≤ fd.length
  hi : fd.length ≤ 41
  sz : ∀ p ∈ fd, PtS 300 p
theorem walk_off {s : Rat} (hs : 0 < s) {K : List (Int × Int)} {r2 : List (Int × Int)} (h : okK K) (h4 : 1 ≤ r2.length) (p : Pt) : ∃ a b c, a ∈ walk s p (K ++ r2) ∧ b ∈ walk s p (K ++ r2) ∧ c ∈ walk s p (K ++ r2) ∧ cross a b c ≠ 0 := by
  obtain ⟨a, b, r, rfl, hc, _, _⟩ := h
  obtain ⟨z, t, ht⟩ : ∃ z t, r ++ r2 = z :: t := by
    cases hr : r ++ r2 with
    | nil => have := congrArg List.length hr; rw [List.length_append, List.length_nil] at this; omega
    | cons z t => exact ⟨z, t, rfl⟩
  have e : a :: b :: r ++ r2 = a :: b :: z :: t := by rw [List.cons_append, List.cons_append, ht]
  rw [e, walk, walk, walk]
  refine ⟨p, _, _, List.mem_cons_self .., List.mem_cons_of_mem _ (List.mem_cons_self ..), List.mem_cons_of_mem _ (List.mem_cons_of_mem _ (List.mem_cons_self ..)), ?_⟩
  have k : cross p (p.1 + (a.1 : Rat) * s, p.2 + (a.2 : Rat) * s) (p.1 + (a.1 : Rat) * s + (b.1 : Rat) * s, p.2 + (a.2 : Rat) * s + (b.2 : Rat) * s) = s * s * ((a.1 * b.2 - a.2 * b.1 : Int) : Rat) := by
    rw [Rat.intCast_sub, Rat.intCast_mul, Rat.intCast_mul]
    unfold cross
    grind
  rw [k]
  intro z
  rcases Rat.mul_eq_zero.mp z with z | z
  · rcases Rat.mul_eq_zero.mp z with z | z <;> (rw [z] at hs; exact absurd hs Rat.lt_irrefl)
  · exact hc (Rat.intCast_eq_zero_iff.mp z)
end T

namespace T
open PySem L2 DL
end T

namespace DL
open PySem L2
theorem nbs_length {α : Type} (c : Bool) (l : List α) : (nbs c l).length = l.length - 1 + (if c then min 1 l.length else 0) := by
  unfold nbs
  cases c
  · simp only [Bool.false_eq_true, if_false, List.length_zip, List.length_drop]; omega
  · simp only [if_true, List.length_zip, List.length_append, List.length_drop, List.length_take]; omega
theorem nbs_get {α : Type} {c : Bool} {l : List α} {j : Nat} (h : j < (nbs c l).length) : ∃ a b, l[j]? = some a ∧ l[(j + 1) % l.length]? = some b ∧ (nbs c l)[j]? = some (a, b) := by
  have hl := nbs_length c l
  have hj : j < l.length := Nat.lt_of_lt_of_le h (nbs_len c l)
  cases hq : (nbs c l)[j]? with
  | none => rw [List.getElem?_eq_none_iff] at hq; omega
  | some p =>
    obtain ⟨h1, h2⟩ := List.getElem?_zip_eq_some.mp (show (l.zip (if c then l.drop 1 ++ l.take 1 else l.drop 1))[j]? = some p from hq)
    refine ⟨p.1, p.2, h1, ?_, rfl⟩
    cases c
    · simp only [Bool.false_eq_true, if_false] at h2 hl
      rw [List.getElem?_drop] at h2
      rw [Nat.mod_eq_of_lt (by omega), Nat.add_comm]
      exact h2
    · simp only [if_true] at h2 hl
      by_cases hz : j + 1 < l.length
      · rw [List.getElem?_append_left (by rw [List.length_drop]; omega), List.getElem?_drop] at h2
        rw [Nat.mod_eq_of_lt hz, Nat.add_comm]
        exact h2
      · have e : j + 1 = l.length := by omega
        rw [List.getElem?_append_right (by rw [List.length_drop]; omega), List.length_drop, show j - (l.length - 1) = 0 by omega, List.getElem?_take] at h2
        rw [e, Nat.mod_self]
        simpa using h2
end DL

namespace T
open PySem L2 DL
theorem lround {n : Nat} {f : FS} (h : Fd n f) (hn : n < 2 ^ 25) : ∃ fd f', LRo [.feed] (some f) = some (.tup (fd.map pt), some f') ∧ ShS fd ∧ Fd (n + 40) f' := by
  obtain ⟨ps, f1, e1, l1, s1, h1⟩ := c_plc 3 h (by omega) (ups 0 3) (ups_len ..)
  obtain ⟨a, b, c, rfl⟩ : ∃ a b c, ps = [a, b, c] := by
    match ps, l1 with
    | [a, b, c], _ => exact ⟨a, b, c, rfl⟩
  have sa := s1 a (List.mem_cons_self ..)
  have sb := s1 b (List.mem_cons_of_mem _ (List.mem_cons_self ..))
  have sc := s1 c (List.mem_cons_of_mem _ (List.mem_cons_of_mem _ (List.mem_cons_self ..)))
  obtain ⟨r2, f2, e2, a1, a2, h2⟩ := draw 3 h1
  have tn := lturn a b c (some f2) sa.ps sb.ps sc.ps (by decide)
  have st1 : dAsgF 1 (dComp1 [0] (dRange (dCons (dC (.int 3)) dNil)) dYes (dCall LPl (dCons (dV 1) dNil))) ⟨[.val .feed, .no, .no, .no, .no, .no, .no, .no, .no], some f⟩ = some (.next, ⟨[.val .feed, .own ([a, b, c].map pt), .no, .no, .no, .no, .no, .no, .no], some f1⟩) := by
    refine asgO_e (s1 := ⟨[.val .feed, .no, .no, .no, .no, .no, .no, .no, .no], some f1⟩) ?_ (show 1 < 9 by decide)
    have rg : dRange (dCons (dC (.int 3)) dNil) ⟨[.val .feed, .no, .no, .no, .no, .no, .no, .no, .no], some f⟩ = some (ups 0 3, ⟨[.val .feed, .no, .no, .no, .no, .no, .no, .no, .no], some f⟩) := rng_e (m := 3) rfl (by decide)
    unfold dComp1
    rw [rg, Option.bind_some, if_pos (by rw [ups_len]; decide)]
    show (dCompL (fun d => some (.val d :: [.val .feed])) dYes (dCall LPl (dCons (dV 1) dNil)) (ups 0 3) (some f)).map _ = _
    rw [e1]
    rfl
  have eq0 : dB (dOp pEq (dCall f_law_draw (dCons (dV 0) (dCons (dC (.int 3)) dNil))) (dC (.int 0))) ⟨[.val .feed, .own ([a, b, c].map pt), .no, .no, .no, .no, .no, .no, .no], some f1⟩ = some (decide (r2 = 0), ⟨[.val .feed, .own ([a, b, c].map pt), .no, .no, .no, .no, .no, .no, .no], some f2⟩) := dB_of (op_e (cl_e rfl e2) rfl (pEq_int r2 0))
  have tn0 : dB (dOp pNe (dCall f_law_turn (dCons (dOp pIx (dL 1) (dC (.int 0))) (dCons (dOp pIx (dL 1) (dC (.int 1))) (dCons (dOp pIx (dL 1) (dC (.int 2))) dNil)))) (dC (.int 0))) ⟨[.val .feed, .own ([a, b, c].map pt), .no, .no, .no, .no, .no, .no, .no], some f2⟩ = some (!decide (sgn (cross a b c) = 0), ⟨[.val .feed, .own ([a, b, c].map pt), .no, .no, .no, .no, .no, .no, .no], some f2⟩) :=
    dB_of (op_e (cp_e (cons_e (op_e rfl rfl rfl) (cons_e (op_e rfl rfl rfl) (cons_e (op_e rfl rfl rfl) rfl))) tn) rfl (pNe_int _ 0))
  by_cases c1 : r2 = 0 ∧ ¬ sgn (cross a b c) = 0
  · obtain ⟨c1, c2⟩ := c1
    rw [decide_eq_true c1] at eq0
    rw [decide_eq_false c2] at tn0
    obtain ⟨fd, hu, u1, u2, u3⟩ := lhull (l := [a, b, c]) (some f2) (fun p hp => (s1 p hp).mono (by decide)) (Nat.le_refl 3) (show 3 ≤ 40 by decide) (a := a) (b := b) (c := c) (List.mem_cons_self ..) (List.mem_cons_of_mem _ (List.mem_cons_self ..)) (List.mem_cons_of_mem _ (List.mem_cons_of_mem _ (List.mem_cons_self ..))) (fun z => c2 ((sgn0 _).mpr z))
    refine ⟨fd, f2, mFn_ret (s := ⟨[.val .feed, .val (.lst ([a, b, c].map pt)), .no, .no, .no, .no, .no, .no, .no], some f2⟩) ?_, ⟨u1, u2, fun p hp => (s1 p (u3 p hp)).mono (by decide)⟩, h2.mono (by omega)⟩
    show b_law_round_shape LHu LG LP LF f_law_draw f_law_turn LPl ⟨[.val .feed, .no, .no, .no, .no, .no, .no, .no, .no], some f⟩ = _
    unfold b_law_round_shape
    rw [seq_next st1]
    refine seq_ret ?_
    rw [ifS_t (and_tt eq0 tn0)]
    exact ret_of (cl_e2 (sl' := [.val .feed, .val (.lst ([a, b, c].map pt)), .no, .no, .no, .no, .no, .no, .no]) rfl hu)
  · have st2 : ∀ R : DM, dIfS (dAnd (dB (dOp pEq (dCall f_law_draw (dCons (dV 0) (dCons (dC (.int 3)) dNil))) (dC (.int 0)))) (dB (dOp pNe (dCall f_law_turn (dCons (dOp pIx (dL 1) (dC (.int 0))) (dCons (dOp pIx (dL 1) (dC (.int 1))) (dCons (dOp pIx (dL 1) (dC (.int 2))) dNil)))) (dC (.int 0))))) R dSkip ⟨[.val .feed, .own ([a, b, c].map pt), .no, .no, .no, .no, .no, .no, .no], some f1⟩ = some (.next, ⟨[.val .feed, .own ([a, b, c].map pt), .no, .no, .no, .no, .no, .no, .no], some f2⟩) := fun R => by
      by_cases c2 : r2 = 0
      · have c3 : sgn (cross a b c) = 0 := Classical.byContradiction fun z => c1 ⟨c2, z⟩
        rw [decide_eq_true c2] at eq0
        rw [decide_eq_true c3] at tn0
        exact ret2_e (and_tt eq0 tn0)
      · rw [decide_eq_false c2] at eq0
        exact ret2_e (and_ff eq0)
    obtain ⟨K, f3, e3, sb3, h3⟩ := c_keep W8 h2 (by show _ + 8 < _; omega)
    have l8 : W8.length = 8 := rfl
    rw [l8] at h3
    have kept : ∃ (K' : List (Int × Int)) (f4 : FS), okK K' ∧ Fd (n + 36) f4 ∧ dAsg (dIf (dB (dOp (pCmp (fun i j => decide (j < i))) (dCB (one pLen) (dCons (dL 3) dNil)) (dC (.int 1)))) (dV 3) (dNew (dLst (dCons (dOp pIx (dL 2) (dC (.int 0))) (dCons (dOp pIx (dL 2) (dOp pAdd (dC (.int 2)) (dCall f_law_draw (dCons (dV 0) (dCons (dC (.int 5)) dNil))))) dNil))))) (dPut 3) ⟨[.val .feed, .own ([a, b, c].map pt), .val (.lst (W8.map zD)), .own (K.map zD), .no, .no, .no, .no, .no], some f3⟩ = some (.next, ⟨[.val .feed, .own ([a, b, c].map pt), .val (.lst (W8.map zD)), .val (.lst (K'.map zD)), .no, .no, .no, .no, .no], some f4⟩) := by
      have lt : dB (dOp (pCmp (fun i j => decide (j < i))) (dCB (one pLen) (dCons (dL 3) dNil)) (dC (.int 1))) ⟨[.val .feed, .own ([a, b, c].map pt), .val (.lst (W8.map zD)), .own (K.map zD), .no, .no, .no, .no, .no], some f3⟩ = some (decide ((1 : Int) < ((K.map zD).length : Int)), ⟨[.val .feed, .own ([a, b, c].map pt), .val (.lst (W8.map zD)), .own (K.map zD), .no, .no, .no, .no, .no], some f3⟩) := dB_of (op_e (cb1_e (p := pLen) rfl rfl) rfl rfl)
      by_cases hk : (1 : Int) < ((K.map zD).length : Int)
      · rw [decide_eq_true hk] at lt
        exact ⟨K, f3, okK_sub sb3 (by rw [List.length_map] at hk; omega), h3.mono (by omega), asg_e ((if_te lt).trans rfl) rfl⟩
      · rw [decide_eq_false hk] at lt
        obtain ⟨r4, f4, e4, b1, b2, h4⟩ := draw 5 h3
        obtain ⟨w, q, ok⟩ := okK_two b1 b2
        exact ⟨[(1, 0), w], f4, ok, h4.mono (by omega), asg_e ((if_fe lt).trans (newL_e (lst2_e (op_e rfl rfl rfl) (op_e rfl (op_e rfl (cl_e rfl e4) rfl) ((ixL _ _).trans q))))) rfl⟩
    obtain ⟨K', f4, ok, h4, st5⟩ := kept
    obtain ⟨r5, f5, e5, i1, i2, h5⟩ := draw 5 h4
    obtain ⟨r6, f6, e6, j1, j2, h6⟩ := draw 3 h5
    have bd : Bd 4 (1 + r6) := show (1 + r6).natAbs < 2 ^ 4 by omega
    have ef := lfrac (1 + r5) (1 + r6) (some f6) (by omega) bd (by decide)
    have ss : Sz 4 (Rat.divInt (1 + r5) (1 + r6)) := Sz.of_divInt (by omega) (by omega) (by omega)
    have sp : (0 : Rat) < Rat.divInt (1 + r5) (1 + r6) := by
      rw [Rat.divInt_eq_div, Rat.div_def]
      exact Rat.mul_pos (Rat.intCast_pos.mpr (by omega)) (Rat.inv_pos.mpr (Rat.intCast_pos.mpr (by omega)))
    generalize Rat.divInt (1 + r5) (1 + r6) = sh at *
    have ok' := ok
    obtain ⟨w1, w2, kr, hK, _, ksm, kl⟩ := ok'
    have kneg : ∀ z ∈ K'.map (fun z : Int × Int => (0 - z.1, 0 - z.2)), smz z := fun z hz => by
      obtain ⟨y, hy, rfl⟩ := List.mem_map.mp hz
      have := ksm y hy
      unfold smz at this ⊢
      simp only
      omega
    have zsm : ∀ z ∈ K' ++ K'.map (fun z : Int × Int => (0 - z.1, 0 - z.2)), smz z := fun z hz => by
      rcases List.mem_append.mp hz with hz | hz
      · exact ksm z hz
      · exact kneg z hz
    have lK : 2 ≤ K'.length := by rw [hK]; simp
    have lz : (K' ++ K'.map (fun z : Int × Int => (0 - z.1, 0 - z.2))).length = 2 * K'.length := by rw [List.length_append, List.length_map]; omega
    obtain ⟨p', y7, y8, lp⟩ := ro_loop (.own ([a, b, c].map pt)) (.val (.lst (W8.map zD))) (.val (.lst (K'.map zD))) sh ss f6 (K' ++ K'.map (fun z : Int × Int => (0 - z.1, 0 - z.2))) a 5 [] .no .no sa zsm (by rw [lz]; omega) (by rw [lz, List.length_nil]; omega)
    rw [List.nil_append] at lp
    have wsz : ∀ q ∈ walk sh a (K' ++ K'.map (fun z : Int × Int => (0 - z.1, 0 - z.2))), PtS 300 q := fun q hq => (walk_sz sh ss _ a 5 sa zsm q hq).mono (by rw [lz]; omega)
    have wl := walk_len sh (K' ++ K'.map (fun z : Int × Int => (0 - z.1, 0 - z.2))) a
    rw [lz] at wl
    obtain ⟨qa, qb, qc, ma, mb, mc, off⟩ := walk_off sp (r2 := K'.map (fun z : Int × Int => (0 - z.1, 0 - z.2))) ok (by rw [List.length_map]; omega) a
    obtain ⟨fd, hu, u1, u2, u3⟩ := lhull (some f6) wsz (by omega) (by omega) ma mb mc off
    have zmap : (K' ++ K'.map (fun z : Int × Int => (0 - z.1, 0 - z.2))).map zD = K'.map zD ++ (K'.map (fun z : Int × Int => (0 - z.1, 0 - z.2))).map zD := List.map_append
    generalize walk sh a (K' ++ K'.map (fun z : Int × Int => (0 - z.1, 0 - z.2))) = wk at *
    refine ⟨fd, f6, mFn_ret (s := roS (.own ([a, b, c].map pt)) (.val (.lst (W8.map zD))) (.val (.lst (K'.map zD))) sh p' (.val (.lst (wk.map pt))) y7 y8 f6) ?_, ⟨u1, u2, fun p hp => wsz p (u3 p hp)⟩, h6.mono (by omega)⟩
    show b_law_round_shape LHu LG LP LF f_law_draw f_law_turn LPl ⟨[.val .feed, .no, .no, .no, .no, .no, .no, .no, .no], some f⟩ = _
    unfold b_law_round_shape
    rw [seq_next st1, seq_next (st2 _),
      seq_next (s1 := ⟨[.val .feed, .own ([a, b, c].map pt), .own (W8.map zD), .no, .no, .no, .no, .no, .no], some f2⟩) (asgO_e (s1 := ⟨[.val .feed, .own ([a, b, c].map pt), .no, .no, .no, .no, .no, .no, .no], some f2⟩) rfl (show 2 < 9 by decide)),
      seq_next (s1 := ⟨[.val .feed, .own ([a, b, c].map pt), .val (.lst (W8.map zD)), .own (K.map zD), .no, .no, .no, .no, .no], some f3⟩) (asgO_e (s1 := ⟨[.val .feed, .own ([a, b, c].map pt), .val (.lst (W8.map zD)), .no, .no, .no, .no, .no, .no], some f3⟩) (by
        unfold dComp1
        rw [show dItems (dV 2) ⟨[.val .feed, .own ([a, b, c].map pt), .own (W8.map zD), .no, .no, .no, .no, .no, .no], some f2⟩ = some (W8.map zD, ⟨[.val .feed, .own ([a, b, c].map pt), .val (.lst (W8.map zD)), .no, .no, .no, .no, .no, .no], some f2⟩) from rfl, Option.bind_some, if_pos (show (W8.map zD).length ≤ sizeLine by decide)]
        show (dCompL (fun d => some (.val d :: [.val .feed])) _ (dV 0) (W8.map zD) (some f2)).map _ = _
        rw [e3]
        rfl) (show 3 < 9 by decide)), seq_next st5,
      seq_next (s1 := ⟨[.val .feed, .own ([a, b, c].map pt), .val (.lst (W8.map zD)), .val (.lst (K'.map zD)), .val (fr sh), .no, .no, .no, .no], some f6⟩) (asg_e (cl_e2 (cons_e (op_e rfl (cl_e rfl e5) rfl) (cons_e (op_e rfl (cl_e rfl e6) rfl) rfl)) ef) rfl),
      seq_next (s1 := roS (.own ([a, b, c].map pt)) (.val (.lst (W8.map zD))) (.val (.lst (K'.map zD))) sh a .no .no .no f6) (asg_e (op_e rfl rfl rfl) rfl),
      seq_next (s1 := roS (.own ([a, b, c].map pt)) (.val (.lst (W8.map zD))) (.val (.lst (K'.map zD))) sh a (.own []) .no .no f6) (asgO_e (s1 := roS (.own ([a, b, c].map pt)) (.val (.lst (W8.map zD))) (.val (.lst (K'.map zD))) sh a .no .no .no f6) rfl (show 6 < 9 by decide))]
    have neg := c_neg (roS (.own ([a, b, c].map pt)) (.val (.lst (W8.map zD))) (.val (.lst (K'.map zD))) sh a (.own []) .no .no f6).sl (some f6) K'
    have kz : (K'.map zD).length ≤ sizeLine := Nat.le_trans (by rw [List.length_map]; exact kl) (show 8 ≤ sizeLine by decide)
    rw [seq_next ((for_lst (ds := (K' ++ K'.map (fun z : Int × Int => (0 - z.1, 0 - z.2))).map zD) (s1 := roS (.own ([a, b, c].map pt)) (.val (.lst (W8.map zD))) (.val (.lst (K'.map zD))) sh a (.own []) .no .no f6) (by
      rw [zmap]
      exact newL_e (opF_e rfl (newL_e (comp2_e (ds := K'.map zD) (s1 := roS (.own ([a, b, c].map pt)) (.val (.lst (W8.map zD))) (.val (.lst (K'.map zD))) sh a (.own []) .no .no f6) rfl kz neg)) (if_pos (Nat.le_trans (by rw [List.length_map, List.length_map, List.length_map]; omega : _ ≤ 16) (by decide)))))).trans lp)]
    exact ret_of (cl_e2 (sl' := (roS (.own ([a, b, c].map pt)) (.val (.lst (W8.map zD))) (.val (.lst (K'.map zD))) sh p' (.val (.lst (wk.map pt))) y7 y8 f6).sl) rfl hu)
end T

namespace T
open PySem L2 DL
noncomputable abbrev LHw : DFn := f_law_half_way LA LP LS LX
theorem lhalf {k : Nat} (a b : Pt) (fs : Option FS) (ha : PtS k a) (hb : PtS k b) (hk : k ≤ 900) : LHw [pt a, pt b] fs = some (pt ((a.1 + b.1) * Rat.divInt 1 2, (a.2 + b.2) * Rat.divInt 1 2), fs) := by
  have xa := lxy a fs ha.ps (by omega)
  have xb := lxy b fs hb.ps (by omega)
  have m1 := lsum a.1 b.1 fs ha.x hb.x (by omega)
  have m2 := lsum a.2 b.2 fs ha.y hb.y (by omega)
  have h2 : Sz 2 (Rat.divInt 1 2) := Sz.of_divInt (by decide) (by decide) (by decide)
  have z1 := ha.x.add hb.x
  have z2 := ha.y.add hb.y
  have p1 := lprod _ _ fs z1 h2 (by omega)
  have p2 := lprod _ _ fs z2 h2 (by omega)
  have l := lat _ _ fs (z1.mul h2) (z2.mul h2) (by omega)
  have hf : fr (Rat.divInt 1 2) = .tup [.int 1, .int 2] := rfl
  rw [hf] at p1 p2
  refine mFn_ret (s := ⟨[.val (pt a), .val (pt b), .val (fr (a.1 + b.1)), .val (fr (a.2 + b.2)), .val (fr b.1), .val (fr b.2)], fs⟩) ?_
  show b_law_half_way LA LP LS LX ⟨[.val (pt a), .val (pt b), .no, .no, .no, .no], fs⟩ = _
  unfold b_law_half_way
  rw [seq_next (s1 := ⟨[.val (pt a), .val (pt b), .val (fr a.1), .val (fr a.2), .no, .no], fs⟩) (asg_e (cp_e rfl xa) rfl),
    seq_next (s1 := ⟨[.val (pt a), .val (pt b), .val (fr a.1), .val (fr a.2), .val (fr b.1), .val (fr b.2)], fs⟩) (asg_e (cp_e rfl xb) rfl),
    seq_next (s1 := ⟨[.val (pt a), .val (pt b), .val (fr (a.1 + b.1)), .val (fr (a.2 + b.2)), .val (fr b.1), .val (fr b.2)], fs⟩) (parS_e (cons_e (cp_e rfl m1) (cons_e (cp_e rfl m2) rfl)) rfl)]
  exact ret_of (cp_e (cons_e (cp_e (cons_e rfl (cons_e (tup2_e rfl rfl) rfl)) p1) (cons_e (cp_e (cons_e rfl (cons_e (tup2_e rfl rfl) rfl)) p2) rfl)) l)
noncomputable abbrev LPs : DFn := f_law_places LG LF f_law_draw LHw LPl
noncomputable abbrev lPs : DM := l1_law_places LG LF f_law_draw LHw LPl
abbrev plS (x1 x2 x3 : Sl) (a b c : Pt) (acc : List Pt) (x8 x9 : Sl) (f : FS) : DS := ⟨[.val .feed, x1, x2, x3, .val (pt a), .val (pt b), .val (pt c), .own (acc.map pt), x8, x9], some f⟩
theorem pls_turn {n : Nat} {f : FS} (x1 x2 x3 : Sl) (a b c u v : Pt) (acc : List Pt) (hu : PtS 300 u) (hv : PtS 300 v) (la : acc.length ≤ 20) (h : Fd n f) (hn : n < 2 ^ 27) :
    ∃ (q1 q2 : Pt) (f' : FS), lPs (plS x1 x2 x3 a b c acc (.val (pt u)) (.val (pt v)) f) = some (.next, plS x1 x2 x3 a b c (acc ++ [q1, q2]) (.val (pt u)) (.val (pt v)) f') ∧ PtS 700 q1 ∧ PtS 700 q2 ∧ Fd (n + 1) f' := by
  have hw := lhalf u v (some f) hu hv (by decide)
  have h2 : Sz 2 (Rat.divInt 1 2) := Sz.of_divInt (by decide) (by decide) (by decide)
  have z1 := (hu.x.add hv.x).mul h2
  have z2 := (hu.y.add hv.y).mul h2
  obtain ⟨r, f1, e1, a1, a2, h1⟩ := draw 3 h
  have g1 := lfrac (r - 1) 997 (some f1) (by decide) (show Bd 10 997 by unfold Bd; decide) (by decide)
  have g2 := lfrac 1 991 (some f1) (by decide) (show Bd 10 991 by unfold Bd; decide) (by decide)
  have s1 : Sz 10 (Rat.divInt (r - 1) 997) := Sz.of_divInt (by decide) (by omega) (by decide)
  have s2 : Sz 10 (Rat.divInt 1 991) := Sz.of_divInt (by decide) (by decide) (by decide)
  generalize (u.1 + v.1) * Rat.divInt 1 2 = hx at *
  generalize (u.2 + v.2) * Rat.divInt 1 2 = hy at *
  have gn := lgone (hx, hy) _ _ (some f1) z1 z2 s1 s2 (by decide)
  have l1 : (acc.map pt).length < sizeLine := Nat.lt_of_le_of_lt (by rw [List.length_map]; exact la) (show 20 < sizeLine by decide)
  have e2 : ((acc ++ [(hx, hy)]).map pt) = acc.map pt ++ [pt (hx, hy)] := by simp
  have l2 : ((acc ++ [(hx, hy)]).map pt).length < sizeLine := Nat.lt_of_le_of_lt (by rw [List.length_map, List.length_append, List.length_singleton]; omega : _ ≤ 21) (show 21 < sizeLine by decide)
  have last : pIx (.lst ((acc ++ [(hx, hy)]).map pt)) (.int (-1)) = some (pt (hx, hy)) := (ixL _ _).trans (by rw [e2]; exact L2.atI_last (acc.map pt) (pt (hx, hy)))
  generalize Rat.divInt (r - 1) 997 = dx at *
  generalize Rat.divInt 1 991 = dy at *
  refine ⟨(hx, hy), (hx + dx, hy + dy), f1, ?_, ⟨z1.mono (by decide), z2.mono (by decide)⟩, ⟨(z1.add s1).mono (by decide), (z2.add s2).mono (by decide)⟩, h1⟩
  have e3 : ((acc ++ [(hx, hy), (hx + dx, hy + dy)]).map pt) = (acc ++ [(hx, hy)]).map pt ++ [pt (hx + dx, hy + dy)] := by simp
  show l1_law_places LG LF f_law_draw LHw LPl _ = _
  unfold l1_law_places plS
  rw [e3]
  rw [seq_next (s1 := plS x1 x2 x3 a b c (acc ++ [(hx, hy)]) (.val (pt u)) (.val (pt v)) f) (by
    unfold plS
    rw [e2]
    exact app_e (s1 := plS x1 x2 x3 a b c acc (.val (pt u)) (.val (pt v)) f) rfl (cp_e (cons_e rfl (cons_e rfl rfl)) hw) rfl l1)]
  exact app_e (s1 := plS x1 x2 x3 a b c (acc ++ [(hx, hy)]) (.val (pt u)) (.val (pt v)) f1) rfl (cl_e2 (cons_e (op_e rfl rfl last) (cons_e (cl_e2 (cons_e (op_e (cl_e rfl e1) rfl rfl) (cons_e rfl rfl)) g1) (cons_e (cp_e (cons_e rfl (cons_e rfl rfl)) g2) rfl))) gn) rfl l2
theorem ixPT {ps : List Pt} {i : Int} {j : Nat} {p : Pt} (h : ps[j]? = some p) (hi : i = j ∨ (i = -1 ∧ j = ps.length - 1)) : pIx (.tup (ps.map pt)) (.int i) = some (pt p) := (ixT _ _).trans (by
  have hj := (List.getElem?_eq_some_iff.mp h).1
  rcases hi with rfl | ⟨rfl, rfl⟩
  · rw [atI_ok (by omega) (by rw [List.length_map]; omega), Int.toNat_natCast, List.getElem?_map, h]
    rfl
  · unfold atI ixN
    rw [if_neg (by decide), if_pos (by rw [List.length_map]; omega)]
    show (ps.map pt)[_]? = _
    rw [List.length_map, show ((-1 : Int) + ps.length).toNat = ps.length - 1 by omega, List.getElem?_map, h]
    rfl)
theorem par3_e {i j k : Nat} {f : DA} {s s1 s2 : DS} {a b c : D} (h : f s = some ([a, b, c], s1)) (e : { s1 with sl := ((s1.sl.set i (.val a)).set j (.val b)).set k (.val c) } = s2) : dPar3 i j k f s = some (.next, s2) := by
  unfold dPar3
  rw [h]
  exact congrArg (fun z => some (Fl.next, z)) e
theorem lplaces {n : Nat} {f : FS} {fd : List Pt} (hs : ShS fd) (h : Fd n f) (hn : n < 2 ^ 26) : ∃ (qs : List Pt) (f' : FS), LPs [.feed, .tup (fd.map pt)] (some f) = some (.lst (qs.map pt), some f') ∧ qs.length = 6 ∧ (∀ q ∈ qs, PtS 700 q) ∧ Fd (n + 12) f' := by
  have lo := hs.lo
  have hi := hs.hi
  obtain ⟨r1, f1, e1, a1, a2, h1⟩ := draw ((fd.map pt).length : Int) h (by rw [List.length_map]; omega) (by omega) (by rw [List.length_map]; omega)
  obtain ⟨r2, f2, e2, b1, b2, h2⟩ := draw ((fd.map pt).length : Int) h1 (by rw [List.length_map]; omega) (by omega) (by rw [List.length_map]; omega)
  rw [List.length_map] at a2 b2
  obtain ⟨k1, rfl⟩ := Int.eq_ofNat_of_zero_le a1
  obtain ⟨k2, rfl⟩ := Int.eq_ofNat_of_zero_le b1
  obtain ⟨b, hb⟩ : ∃ b, fd[k1]? = some b := ⟨_, List.getElem?_eq_getElem (by omega)⟩
  obtain ⟨c, hc⟩ : ∃ c, fd[k2]? = some c := ⟨_, List.getElem?_eq_getElem (by omega)⟩
  obtain ⟨a, ha⟩ : ∃ a, fd[if k1 = 0 then fd.length - 1 else k1 - 1]? = some a := ⟨_, List.getElem?_eq_getElem (by split <;> omega)⟩
  have ia : pIx (.tup (fd.map pt)) (.int ((k1 : Int) - 1)) = some (pt a) := ixPT ha (by split <;> omega)
  have ib : pIx (.tup (fd.map pt)) (.int (k1 : Int)) = some (pt b) := ixPT hb (.inl rfl)
  have ic : pIx (.tup (fd.map pt)) (.int (k2 : Int)) = some (pt c) := ixPT hc (.inl rfl)
  have sa := hs.sz a (List.mem_of_getElem? ha)
  have sb := hs.sz b (List.mem_of_getElem? hb)
  have sc := hs.sz c (List.mem_of_getElem? hc)
  obtain ⟨p, f3, e3, sp, h3⟩ := place h2 (by omega)
  obtain ⟨q1, q2, f4, t1, s1, s2, h4⟩ := pls_turn (.val (.tup (fd.map pt))) (.val (.int k1)) (.val (.int k2)) a b c a b [a, p] sa sb (show 2 ≤ 20 by decide) h3 (by omega)
  obtain ⟨q3, q4, f5, t2, s3, s4, h5⟩ := pls_turn (.val (.tup (fd.map pt))) (.val (.int k1)) (.val (.int k2)) a b c a c [a, p, q1, q2] sa sc (show 4 ≤ 20 by decide) h4 (by omega)
  refine ⟨[a, p, q1, q2, q3, q4], f5, mFn_ret (s := ⟨[.val .feed, .val (.tup (fd.map pt)), .val (.int k1), .val (.int k2), .val (pt a), .val (pt b), .val (pt c), .val (.lst ([a, p, q1, q2, q3, q4].map pt)), .val (pt a), .val (pt c)], some f5⟩) ?_, rfl, ?_, h5.mono (by omega)⟩
  rotate_left
  · intro q hq
    simp only [List.mem_cons, List.not_mem_nil, or_false] at hq
    rcases hq with rfl | rfl | rfl | rfl | rfl | rfl
    · exact sa.mono (by decide)
    · exact sp.mono (by decide)
    · exact s1
    · exact s2
    · exact s3
    · exact s4
  show b_law_places LG LF f_law_draw LHw LPl ⟨[.val .feed, .val (.tup (fd.map pt)), .no, .no, .no, .no, .no, .no, .no, .no], some f⟩ = _
  unfold b_law_places
  rw [seq_next (s1 := ⟨[.val .feed, .val (.tup (fd.map pt)), .val (.int k1), .no, .no, .no, .no, .no, .no, .no], some f1⟩) (asg_e (cl_e (cons_e rfl (cons_e (cb1_e (p := pLen) rfl rfl) rfl)) e1) rfl),
    seq_next (s1 := ⟨[.val .feed, .val (.tup (fd.map pt)), .val (.int k1), .val (.int k2), .no, .no, .no, .no, .no, .no], some f2⟩) (asg_e (cl_e (cons_e rfl (cons_e (cb1_e (p := pLen) rfl rfl) rfl)) e2) rfl),
    seq_next (s1 := ⟨[.val .feed, .val (.tup (fd.map pt)), .val (.int k1), .val (.int k2), .val (pt a), .val (pt b), .val (pt c), .no, .no, .no], some f2⟩) (par3_e (cons_e (op_e rfl (op_e rfl rfl rfl) ia) (cons_e (op_e rfl rfl ib) (cons_e (op_e rfl rfl ic) rfl))) rfl),
    seq_next (s1 := plS (.val (.tup (fd.map pt))) (.val (.int k1)) (.val (.int k2)) a b c [a, p] .no .no f3) (asgO_e (s1 := ⟨[.val .feed, .val (.tup (fd.map pt)), .val (.int k1), .val (.int k2), .val (pt a), .val (pt b), .val (pt c), .no, .no, .no], some f3⟩) (lst2_e rfl (cl_e rfl e3)) (show 7 < 10 by decide)),
    seq_next (s1 := plS (.val (.tup (fd.map pt))) (.val (.int k1)) (.val (.int k2)) a b c [a, p, q1, q2, q3, q4] (.val (pt a)) (.val (pt c)) f5) (by
      rw [for_lst (ds := [.tup [pt a, pt b], .tup [pt a, pt c]]) (s1 := plS (.val (.tup (fd.map pt))) (.val (.int k1)) (.val (.int k2)) a b c [a, p] .no .no f3) (newL_e (lst2_e (tup2_e rfl rfl) (tup2_e rfl rfl))),
        forL_go (s1 := plS (.val (.tup (fd.map pt))) (.val (.int k1)) (.val (.int k2)) a b c [a, p] (.val (pt a)) (.val (pt b)) f3) rfl t1,
        forL_go (s1 := plS (.val (.tup (fd.map pt))) (.val (.int k1)) (.val (.int k2)) a b c [a, p, q1, q2] (.val (pt a)) (.val (pt c)) f4) rfl t2]
      rfl)]
  exact ret_of rfl
def sdL (fd : List Pt) (o : Pt) : List Int := (nbs true fd).map fun q => sgn (cross q.1 q.2 o)
def sdAt (fd : List Pt) (o : Pt) : D → D
  | .int k => .int (sgn (cross ((fd[if k.toNat = 0 then fd.length - 1 else k.toNat - 1]?).getD (0, 0)) ((fd[k.toNat]?).getD (0, 0)) o))
  | _ => .non
noncomputable abbrev LSd : DFn := f_law_sides f_law_turn
def sdI (fd : List Pt) (o : Pt) : List Int := (List.range fd.length).map fun k => sgn (cross ((fd[if k = 0 then fd.length - 1 else k - 1]?).getD (0, 0)) ((fd[k]?).getD (0, 0)) o)
theorem sd_map (fd : List Pt) (o : Pt) : (ups 0 fd.length).map (sdAt fd o) = (sdI fd o).map D.int := by
  unfold ups sdI
  rw [List.map_map, List.map_map]
  refine List.map_congr_left fun k _ => ?_
  simp [sdAt]
theorem lsides {fd : List Pt} {o : Pt} (fs : Option FS) (hs : ShS fd) (ho : PtS 700 o) : LSd [.tup (fd.map pt), pt o] fs = some (.lst ((sdI fd o).map D.int), fs) := by
  have lo := hs.lo
  have hi := hs.hi
  have cm := comp_map (idx := [1, 0]) (fe := dCall f_law_turn (dCons (dOp pIx (dL 2) (dOp pSub (dL 0) (dC (.int 1)))) (dCons (dOp pIx (dL 2) (dL 0)) (dCons (dV 1) dNil)))) (g := sdAt fd o) [.val (pt o), .val (.tup (fd.map pt))] fs (ups 0 fd.length) (fun d hd => by
    obtain ⟨k, hk⟩ := List.getElem?_of_mem hd
    obtain ⟨rfl, hk2⟩ := ups_at hk
    rw [Int.zero_add]
    obtain ⟨b, hb⟩ : ∃ b, fd[k]? = some b := ⟨_, List.getElem?_eq_getElem (by omega)⟩
    obtain ⟨a, ha⟩ : ∃ a, fd[if k = 0 then fd.length - 1 else k - 1]? = some a := ⟨_, List.getElem?_eq_getElem (by split <;> omega)⟩
    have t := lturn a b o fs ((hs.sz a (List.mem_of_getElem? ha)).mono (l := 700) (by decide)).ps ((hs.sz b (List.mem_of_getElem? hb)).mono (l := 700) (by decide)).ps ho.ps (by decide)
    have ia : pIx (.tup (fd.map pt)) (.int ((k : Int) - 1)) = some (pt a) := ixPT ha (by split <;> omega)
    have ib : pIx (.tup (fd.map pt)) (.int (k : Int)) = some (pt b) := ixPT hb (.inl rfl)
    have eg : sdAt fd o (.int (k : Int)) = .int (sgn (cross a b o)) := by
      simp only [sdAt, Int.toNat_natCast, ha, hb, Option.getD_some]
    refine ⟨⟨[.val (.int (k : Int)), .val (pt o), .val (.tup (fd.map pt))], fs⟩, ?_, rfl⟩
    rw [eg]
    exact cp_e (cons_e (op_e rfl (op_e rfl rfl rfl) ia) (cons_e (op_e rfl rfl ib) (cons_e rfl rfl))) t)
  rw [sd_map] at cm
  refine mFn_ret (s := ⟨[.val (.tup (fd.map pt)), .val (pt o)], fs⟩) (ret_of (newL_e ?_))
  have rg : dRange (dCons (dCB (one pLen) (dCons (dL 0) dNil)) dNil) ⟨[.val (.tup (fd.map pt)), .val (pt o)], fs⟩ = some (ups 0 fd.length, ⟨[.val (.tup (fd.map pt)), .val (pt o)], fs⟩) := rng_e (cons_e (cb1_e (p := pLen) rfl (congrArg (fun n : Nat => some (D.int (n : Int))) (List.length_map ..))) rfl) (by omega)
  exact comp1F_e (idx := [1, 0]) (s1 := ⟨[.val (.tup (fd.map pt)), .val (pt o)], fs⟩) rg (Nat.le_trans (by rw [ups_len]; exact hi) (show 41 ≤ sizeLine by decide)) cm
theorem sd_mem {fd : List Pt} {o : Pt} (h3 : 3 ≤ fd.length) (x : Int) : x ∈ sdI fd o ↔ x ∈ sdL fd o := by
  have nl := nbs_length true fd
  simp only [if_true] at nl
  unfold sdI sdL
  constructor
  · intro hx
    obtain ⟨k, hk, rfl⟩ := List.mem_map.mp hx
    have hk := List.mem_range.mp hk
    have hj : (if k = 0 then fd.length - 1 else k - 1) < (nbs true fd).length := by split <;> omega
    obtain ⟨a, b, q1, q2, q3⟩ := nbs_get hj
    have e : ((if k = 0 then fd.length - 1 else k - 1) + 1) % fd.length = k := by
      by_cases z : k = 0
      · rw [if_pos z, z, Nat.sub_add_cancel (by omega), Nat.mod_self]
      · rw [if_neg z, Nat.sub_add_cancel (by omega), Nat.mod_eq_of_lt hk]
    rw [e] at q2
    rw [q1, q2]
    exact List.mem_map.mpr ⟨(a, b), List.mem_of_getElem? q3, rfl⟩
  · intro hx
    obtain ⟨q, hq, rfl⟩ := List.mem_map.mp hx
    obtain ⟨j, hj⟩ := List.getElem?_of_mem hq
    have hjl := (List.getElem?_eq_some_iff.mp hj).1
    obtain ⟨a, b, q1, q2, q3⟩ := nbs_get hjl
    rw [hj] at q3
    cases q3
    refine List.mem_map.mpr ⟨(j + 1) % fd.length, List.mem_range.mpr (Nat.mod_lt _ (by omega)), ?_⟩
    have e : (if (j + 1) % fd.length = 0 then fd.length - 1 else (j + 1) % fd.length - 1) = j := by
      by_cases z : j + 1 = fd.length
      · rw [z, Nat.mod_self, if_pos rfl]; omega
      · rw [Nat.mod_eq_of_lt (by omega), if_neg (by omega)]; omega
    rw [e, q1, q2]
    rfl
end T

namespace T
open PySem L2 DL
theorem sgn_three (r : Rat) : sgn r = -1 ∨ sgn r = 0 ∨ sgn r = 1 := by
  unfold sgn
  split
  · exact .inr (.inr rfl)
  · split
    · exact .inl rfl
    · exact .inr (.inl rfl)
theorem sdI_len (fd : List Pt) (o : Pt) : (sdI fd o).length = fd.length := by unfold sdI; rw [List.length_map, List.length_range]
noncomputable def mnS (fd : List Pt) (o : Pt) : Int := minL (sdI fd o)
theorem mn_ge {fd : List Pt} {o : Pt} (h : 3 ≤ fd.length) : (0 ≤ mnS fd o) ↔ ∀ q ∈ nbs true fd, sgn (cross q.1 q.2 o) ≠ -1 := by
  obtain ⟨m1, m2⟩ := minL_ok (l := sdI fd o) (by rw [sdI_len]; omega)
  constructor
  · intro h0 q hq e
    have := m2 (-1) ((sd_mem h _).mpr (List.mem_map.mpr ⟨q, hq, e⟩))
    unfold mnS at h0
    omega
  · intro hq
    obtain ⟨q, hq1, e⟩ := List.mem_map.mp ((sd_mem h _).mp m1)
    unfold mnS
    rw [← e]
    have := hq q hq1
    rcases sgn_three (cross q.1 q.2 o) with z | z | z
    · exact absurd z this
    · rw [z]; decide
    · rw [z]; decide
theorem mn_gt {fd : List Pt} {o : Pt} (h : 3 ≤ fd.length) : (0 < mnS fd o) ↔ ∀ q ∈ nbs true fd, sgn (cross q.1 q.2 o) = 1 := by
  obtain ⟨m1, m2⟩ := minL_ok (l := sdI fd o) (by rw [sdI_len]; omega)
  constructor
  · intro h0 q hq
    have := m2 _ ((sd_mem h _).mpr (List.mem_map.mpr ⟨q, hq, rfl⟩))
    unfold mnS at h0
    rcases sgn_three (cross q.1 q.2 o) with z | z | z
    · rw [z] at this; omega
    · rw [z] at this; omega
    · exact z
  · intro hq
    obtain ⟨q, hq1, e⟩ := List.mem_map.mp ((sd_mem h _).mp m1)
    unfold mnS
    rw [← e, hq q hq1]
    decide
noncomputable abbrev FEg : DFn := f_edges f_neighbours
noncomputable abbrev FBe : DFn := f_belongs FTn FEg
noncomputable abbrev FWi : DFn := f_is_within FTn FEg
theorem pedg (fd : List Pt) (fs : Option FS) (hl : fd.length ≤ 41) : FEg [.tup (fd.map pt)] fs = some (.lst ((nbs true fd).map fun q => .tup [pt q.1, pt q.2]), fs) := by
  have e := neigh (fd.map pt) true fs (Nat.le_trans (by rw [List.length_map]; omega : _ ≤ 42) (show 42 ≤ sizeLine by decide))
  rw [nbs_map, List.map_map] at e
  exact mFn_ret (s := ⟨[.val (.tup (fd.map pt))], fs⟩) (ret_of (cp_e (cons_e rfl (cons_e rfl rfl)) e))
/-- a look at each edge, until one is amiss -/
theorem edge_loop {b : DM} (g : Int → Bool) (x0 : Sl) (o : Pt) (ho : PtS 700 o) (fs : Option FS)
    (hb : ∀ (i : Int) (s : DS), s.fs = fs → (∃ sl, s = ⟨sl, fs⟩) → FTn = FTn → True)
    (run : ∀ (u v : Pt), PtS 700 u → PtS 700 v → b ⟨[x0, .val (pt o), .val (pt u), .val (pt v)], fs⟩ = if g (sgn (cross u v o)) then some (.next, ⟨[x0, .val (pt o), .val (pt u), .val (pt v)], fs⟩) else some (.ret (.bl false), ⟨[x0, .val (pt o), .val (pt u), .val (pt v)], fs⟩)) :
    ∀ (qs : List (Pt × Pt)) (x2 x3 : Sl), (∀ q ∈ qs, PtS 700 q.1 ∧ PtS 700 q.2) → ∃ y2 y3, dForL (dPutT 2 (dPuts1 (dPut 2) (dPuts1 (dPut 3) dPuts0))) b (qs.map fun q => .tup [pt q.1, pt q.2]) ⟨[x0, .val (pt o), x2, x3], fs⟩ =
      if qs.all (fun q => g (sgn (cross q.1 q.2 o))) then some (.next, ⟨[x0, .val (pt o), y2, y3], fs⟩) else some (.ret (.bl false), ⟨[x0, .val (pt o), y2, y3], fs⟩)
  | [], x2, x3, _ => ⟨x2, x3, rfl⟩
  | q :: r, x2, x3, h => by
    obtain ⟨s1, s2⟩ := h q (List.mem_cons_self ..)
    have e := run q.1 q.2 s1 s2
    cases c : g (sgn (cross q.1 q.2 o)) with
    | true =>
      rw [c, if_pos rfl] at e
      obtain ⟨y2, y3, e2⟩ := edge_loop g x0 o ho fs hb run r (.val (pt q.1)) (.val (pt q.2)) fun z hz => h z (List.mem_cons_of_mem _ hz)
      refine ⟨y2, y3, ?_⟩
      rw [List.map_cons, forL_go (s1 := ⟨[x0, .val (pt o), .val (pt q.1), .val (pt q.2)], fs⟩) rfl e, e2, List.all_cons, c, Bool.true_and]
    | false =>
      rw [c, if_neg Bool.false_ne_true] at e
      refine ⟨.val (pt q.1), .val (pt q.2), ?_⟩
      rw [List.map_cons, List.all_cons, c, Bool.false_and, if_neg Bool.false_ne_true, dForL]
      show ((some _ : Option DS).bind fun s1 => (b s1).bind _) = _
      rw [Option.bind_some]
      show (b ⟨[x0, .val (pt o), .val (pt q.1), .val (pt q.2)], fs⟩).bind _ = _
      rw [e]
      rfl
theorem edge_pts {fd : List Pt} (hs : ShS fd) : ∀ q ∈ nbs true fd, PtS 700 q.1 ∧ PtS 700 q.2 := fun q hq => by
  obtain ⟨m1, m2⟩ := nbs_mem hq
  exact ⟨(hs.sz _ m1).mono (by decide), (hs.sz _ m2).mono (by decide)⟩
theorem pbelongs {fd : List Pt} {o : Pt} (fs : Option FS) (hs : ShS fd) (ho : PtS 700 o) : FBe [.tup (fd.map pt), pt o] fs = some (.bl (decide (0 ≤ mnS fd o)), fs) := by
  have e := pedg fd fs hs.hi
  obtain ⟨y2, y3, lp⟩ := edge_loop (b := l1_belongs FTn FEg) (fun i => !decide (i = -1)) (.val (.tup (fd.map pt))) o ho fs (fun _ _ _ _ _ => trivial) (fun u v su sv => by
    have t := pturn u v o fs su.ps sv.ps ho.ps (by decide)
    unfold l1_belongs
    by_cases c : sgn (cross u v o) = -1
    · rw [ifS_t (dB_of (op_e (cp_e rfl t) rfl ((pEq_int _ (-1)).trans (by rw [decide_eq_true c])))), decide_eq_true c]
      rfl
    · rw [ifS_f (dB_of (op_e (cp_e rfl t) rfl ((pEq_int _ (-1)).trans (by rw [decide_eq_false c])))), decide_eq_false c]
      rfl) (nbs true fd) .no .no (edge_pts hs)
  have al : (nbs true fd).all (fun q => !decide (sgn (cross q.1 q.2 o) = -1)) = decide (0 ≤ mnS fd o) := by
    rw [Bool.eq_iff_iff, List.all_eq_true, decide_eq_true_iff, mn_ge hs.lo]
    constructor
    · intro h q hq; have := h q hq; simpa using this
    · intro h q hq; have := h q hq; simpa using this
  rw [al] at lp
  have lp' := (for_lst (b := l1_belongs FTn FEg) (t := dPutT 2 (dPuts1 (dPut 2) (dPuts1 (dPut 3) dPuts0))) (f := dCall FEg (dCons (dV 0) dNil)) (s := ⟨[.val (.tup (fd.map pt)), .val (pt o), .no, .no], fs⟩) (cp_e rfl e)).trans lp
  cases c : decide (0 ≤ mnS fd o) with
  | true =>
    rw [c, if_pos rfl] at lp'
    refine mFn_ret (s := ⟨[.val (.tup (fd.map pt)), .val (pt o), y2, y3], fs⟩) ?_
    show b_belongs FTn FEg ⟨[.val (.tup (fd.map pt)), .val (pt o), .no, .no], fs⟩ = _
    unfold b_belongs
    rw [seq_next lp']
    rfl
  | false =>
    rw [c, if_neg Bool.false_ne_true] at lp'
    refine mFn_ret (s := ⟨[.val (.tup (fd.map pt)), .val (pt o), y2, y3], fs⟩) ?_
    show b_belongs FTn FEg ⟨[.val (.tup (fd.map pt)), .val (pt o), .no, .no], fs⟩ = _
    unfold b_belongs
    exact seq_ret lp'
theorem pwithin {fd : List Pt} {o : Pt} (fs : Option FS) (hs : ShS fd) (ho : PtS 700 o) : FWi [.tup (fd.map pt), pt o] fs = some (.bl (decide (0 < mnS fd o)), fs) := by
  have e := pedg fd fs hs.hi
  obtain ⟨y2, y3, lp⟩ := edge_loop (b := l1_is_within FTn FEg) (fun i => decide (i = 1)) (.val (.tup (fd.map pt))) o ho fs (fun _ _ _ _ _ => trivial) (fun u v su sv => by
    have t := pturn u v o fs su.ps sv.ps ho.ps (by decide)
    unfold l1_is_within
    by_cases c : sgn (cross u v o) = 1
    · rw [ifS_f (dB_of (op_e (cp_e rfl t) rfl ((pNe_int _ 1).trans (by rw [decide_eq_true c]; rfl)))), decide_eq_true c]
      rfl
    · rw [ifS_t (dB_of (op_e (cp_e rfl t) rfl ((pNe_int _ 1).trans (by rw [decide_eq_false c]; rfl)))), decide_eq_false c]
      rfl) (nbs true fd) .no .no (edge_pts hs)
  have al : (nbs true fd).all (fun q => decide (sgn (cross q.1 q.2 o) = 1)) = decide (0 < mnS fd o) := by
    rw [Bool.eq_iff_iff, List.all_eq_true, decide_eq_true_iff, mn_gt hs.lo]
    constructor
    · intro h q hq; exact of_decide_eq_true (h q hq)
    · intro h q hq; exact decide_eq_true (h q hq)
  rw [al] at lp
  have lp' := (for_lst (b := l1_is_within FTn FEg) (t := dPutT 2 (dPuts1 (dPut 2) (dPuts1 (dPut 3) dPuts0))) (f := dCall FEg (dCons (dV 0) dNil)) (s := ⟨[.val (.tup (fd.map pt)), .val (pt o), .no, .no], fs⟩) (cp_e rfl e)).trans lp
  cases c : decide (0 < mnS fd o) with
  | true =>
    rw [c, if_pos rfl] at lp'
    refine mFn_ret (s := ⟨[.val (.tup (fd.map pt)), .val (pt o), y2, y3], fs⟩) ?_
    show b_is_within FTn FEg ⟨[.val (.tup (fd.map pt)), .val (pt o), .no, .no], fs⟩ = _
    unfold b_is_within
    rw [seq_next lp']
    rfl
  | false =>
    rw [c, if_neg Bool.false_ne_true] at lp'
    refine mFn_ret (s := ⟨[.val (.tup (fd.map pt)), .val (pt o), y2, y3], fs⟩) ?_
    show b_is_within FTn FEg ⟨[.val (.tup (fd.map pt)), .val (pt o), .no, .no], fs⟩ = _
    unfold b_is_within
    exact seq_ret lp'
noncomputable abbrev FAr : DFn := f_in_area FBe
def shD (fd : List Pt) : D := .tup (fd.map pt)
theorem ar_loop {o : Pt} (x0 : Sl) (ho : PtS 700 o) (fs : Option FS) : ∀ (Ss : List (List Pt)) (x2 : Sl), (∀ fd ∈ Ss, ShS fd) → ∃ y2, dForL (dPut 2) (l1_in_area FBe) (Ss.map shD) ⟨[x0, .val (pt o), x2], fs⟩ = if Ss.any (fun fd => decide (0 ≤ mnS fd o)) then some (.ret (.bl true), ⟨[x0, .val (pt o), y2], fs⟩) else some (.next, ⟨[x0, .val (pt o), y2], fs⟩)
  | [], x2, _ => ⟨x2, rfl⟩
  | fd :: r, x2, h => by
    have e := pbelongs (o := o) fs (h fd (List.mem_cons_self ..)) ho
    cases c : decide (0 ≤ mnS fd o) with
    | true =>
      rw [c] at e
      have run : l1_in_area FBe ⟨[x0, .val (pt o), .val (shD fd)], fs⟩ = some (.ret (.bl true), ⟨[x0, .val (pt o), .val (shD fd)], fs⟩) := by
        unfold l1_in_area
        rw [ifS_t (tr_e (cp_e rfl e))]
        rfl
      refine ⟨.val (shD fd), ?_⟩
      rw [List.map_cons, List.any_cons, c, Bool.true_or, if_pos rfl, dForL]
      show (l1_in_area FBe ⟨[x0, .val (pt o), .val (shD fd)], fs⟩).bind _ = _
      rw [run]
      rfl
    | false =>
      rw [c] at e
      have run : l1_in_area FBe ⟨[x0, .val (pt o), .val (shD fd)], fs⟩ = some (.next, ⟨[x0, .val (pt o), .val (shD fd)], fs⟩) := by
        unfold l1_in_area
        exact ret2_e (tr_e (cp_e rfl e))
      obtain ⟨y2, e2⟩ := ar_loop x0 ho fs r (.val (shD fd)) fun z hz => h z (List.mem_cons_of_mem _ hz)
      refine ⟨y2, ?_⟩
      rw [List.map_cons, forL_go (s1 := ⟨[x0, .val (pt o), .val (shD fd)], fs⟩) rfl run, e2, List.any_cons, c, Bool.false_or]
theorem parea {o : Pt} {Ss : List (List Pt)} (fs : Option FS) (hs : ∀ fd ∈ Ss, ShS fd) (ho : PtS 700 o) : FAr [.tup (Ss.map shD), pt o] fs = some (.bl (Ss.any fun fd => decide (0 ≤ mnS fd o)), fs) := by
  obtain ⟨y2, lp⟩ := ar_loop (.val (.tup (Ss.map shD))) ho fs Ss .no hs
  have lp' := (for_tup (b := l1_in_area FBe) (t := dPut 2) (f := dV 0) (s := ⟨[.val (.tup (Ss.map shD)), .val (pt o), .no], fs⟩) (ds := Ss.map shD) rfl).trans lp
  refine mFn_ret (s := ⟨[.val (.tup (Ss.map shD)), .val (pt o), y2], fs⟩) ?_
  show b_in_area FBe ⟨[.val (.tup (Ss.map shD)), .val (pt o), .no], fs⟩ = _
  unfold b_in_area
  cases c : (Ss.any fun fd => decide (0 ≤ mnS fd o)) with
  | true =>
    rw [c, if_pos rfl] at lp'
    exact seq_ret lp'
  | false =>
    rw [c, if_neg Bool.false_ne_true] at lp'
    rw [seq_next lp']
    rfl
theorem comp_sh (fe : DE) (g : List Pt → D) (o : Pt) (fs : Option FS) : ∀ Ss : List (List Pt), (∀ fd ∈ Ss, fe ⟨[.val (shD fd), .val (pt o)], fs⟩ = some (g fd, ⟨[.val (shD fd), .val (pt o)], fs⟩)) → dCompL (fun d => some (.val d :: [.val (pt o)])) dYes fe (Ss.map shD) fs = some (Ss.map g, fs)
  | [], _ => rfl
  | fd :: r, h => by
    have ih := comp_sh fe g o fs r fun z hz => h z (List.mem_cons_of_mem _ hz)
    rw [List.map_cons, dCompL, Option.bind_some, show dYes ⟨[.val (shD fd), .val (pt o)], fs⟩ = some (true, ⟨[.val (shD fd), .val (pt o)], fs⟩) from rfl, Option.bind_some, if_pos rfl, h fd (List.mem_cons_self ..), Option.bind_some, ih]
    rfl
theorem comp_in (p : Int → Int → Bool) (fs : Option FS) : ∀ is : List Int, dCompL (fun d => some (.val d :: [])) dYes (dOp (pCmp p) (dL 0) (dC (.int 0))) (is.map D.int) fs = some (is.map (fun i => D.bl (p i 0)), fs)
  | [] => rfl
  | i :: r => by
    have ih := comp_in p fs r
    rw [List.map_cons, dCompL, Option.bind_some, show dYes ⟨[.val (.int i)], fs⟩ = some (true, ⟨[.val (.int i)], fs⟩) from rfl, Option.bind_some, if_pos rfl]
    show (dCompL _ _ _ (r.map D.int) fs).map _ = _
    rw [ih]
    rfl
theorem bools_ok {α : Type} (l : List α) (g : α → Bool) (hl : l.length ≤ 100) : Ok 1 100 (.lst (l.map fun a => D.bl (g a))) :=
  (Ok.lst (OkL.all (k := 0) (n := 0) (ds := l.map fun a => D.bl (g a)) fun d hd => by
    obtain ⟨a, _, rfl⟩ := List.mem_map.mp hd
    exact Ok.bl _)).mono (by decide) (by rw [List.length_map]; omega)
noncomputable abbrev lL12 : DM := l2_LAWk12 FAr FWi FBe LSd LPs f_law_draw LRo f_law_feed
abbrev s12 (x0 x2 : Sl) (x3 x4 x5 x6 : Sl) (f : FS) : DS := ⟨[x0, .val .feed, x2, x3, x4, x5, x6], some f⟩
theorem max_any (Ss : List (List Pt)) (o : Pt) (h : 0 < Ss.length) : decide (0 ≤ maxL (Ss.map fun fd => mnS fd o)) = Ss.any fun fd => decide (0 ≤ mnS fd o) := by
  obtain ⟨m1, m2⟩ := maxL_ok (l := Ss.map fun fd => mnS fd o) (by rw [List.length_map]; exact h)
  rw [Bool.eq_iff_iff, decide_eq_true_iff, List.any_eq_true]
  constructor
  · intro h0
    obtain ⟨fd, hf, e⟩ := List.mem_map.mp m1
    exact ⟨fd, hf, decide_eq_true (by rw [e]; exact h0)⟩
  · rintro ⟨fd, hf, e⟩
    exact Int.le_trans (of_decide_eq_true e) (m2 _ (List.mem_map.mpr ⟨fd, hf, rfl⟩))
theorem look12 {Ss : List (List Pt)} {o : Pt} (x0 x2 x3 x4 x6 : Sl) (f : FS) (hs : ∀ fd ∈ Ss, ShS fd) (h0 : 0 < Ss.length) (h9 : Ss.length ≤ 9) (ho : PtS 700 o) (h3 : x3 = .own (Ss.map shD) ∨ x3 = .val (.lst (Ss.map shD))) :
    ∃ y6, lL12 (s12 x0 x2 x3 x4 (.val (pt o)) x6 f) = some (.next, s12 x0 x2 (.val (.lst (Ss.map shD))) x4 (.val (pt o)) y6 f) := by
  have hv : ∀ x6, dItems (dV 3) (s12 x0 x2 x3 x4 (.val (pt o)) x6 f) = some (Ss.map shD, s12 x0 x2 (.val (.lst (Ss.map shD))) x4 (.val (pt o)) x6 f) := fun x6 => by rcases h3 with rfl | rfl <;> rfl
  have lz : (Ss.map shD).length ≤ sizeLine := Nat.le_trans (by rw [List.length_map]; exact h9) (show 9 ≤ sizeLine by decide)
  have c1 := comp_sh (dCB (one pMin) (dCons (dCall LSd (dCons (dV 0) (dCons (dV 1) dNil))) dNil)) (fun fd => .int (mnS fd o)) o (some f) Ss (fun fd hf => by
    have e := lsides (o := o) (some f) (hs fd hf) ho
    refine cb1_e (p := pMin) (cp_e rfl e) ?_
    show (intsD ((sdI fd o).map D.int)).bind _ = _
    rw [intsD_map, Option.bind_some, if_pos (by rw [sdI_len]; have := (hs fd hf).lo; omega)]
    rfl)
  have c2 := comp_sh (dCall FBe (dCons (dV 0) (dCons (dV 1) dNil))) (fun fd => .bl (decide (0 ≤ mnS fd o))) o (some f) Ss (fun fd hf => cp_e rfl (pbelongs (some f) (hs fd hf) ho))
  have c3 := comp_sh (dCall FWi (dCons (dV 0) (dCons (dV 1) dNil))) (fun fd => .bl (decide (0 < mnS fd o))) o (some f) Ss (fun fd hf => cp_e rfl (pwithin (some f) (hs fd hf) ho))
  have lm : Ss.map (fun fd => D.int (mnS fd o)) = (Ss.map fun fd => mnS fd o).map D.int := by rw [List.map_map]; rfl
  rw [lm] at c1
  have c4 := comp_in (fun i j => decide (j ≤ i)) (some f) (Ss.map fun fd => mnS fd o)
  have c5 := comp_in (fun i j => decide (j < i)) (some f) (Ss.map fun fd => mnS fd o)
  have l4 : (Ss.map fun fd => mnS fd o).map (fun i => D.bl (decide (0 ≤ i))) = Ss.map fun fd => D.bl (decide (0 ≤ mnS fd o)) := by rw [List.map_map]; rfl
  have l5 : (Ss.map fun fd => mnS fd o).map (fun i => D.bl (decide (0 < i))) = Ss.map fun fd => D.bl (decide (0 < mnS fd o)) := by rw [List.map_map]; rfl
  rw [l4] at c4
  rw [l5] at c5
  have ar := parea (o := o) (some f) hs ho
  have ar0 := parea (Ss := []) (o := o) (some f) (fun fd hf => by cases hf) ho
  have r1 := (bools_ok Ss (fun fd => decide (0 ≤ mnS fd o)) (by omega)).repr
  have r2 := (bools_ok Ss (fun fd => decide (0 < mnS fd o)) (by omega)).repr
  have mx : pMax (.lst ((Ss.map fun fd => mnS fd o).map D.int)) = some (.int (maxL (Ss.map fun fd => mnS fd o))) := by
    show (intsD _).bind _ = _
    rw [intsD_map, Option.bind_some, if_pos (by rw [List.length_map]; exact h0)]
  have ma := max_any Ss o h0
  have r3 := (Ok.bl (Ss.any fun fd => decide (0 ≤ mnS fd o))).repr
  have lz2 : ((Ss.map fun fd => mnS fd o).map D.int).length ≤ sizeLine := Nat.le_trans (by rw [List.length_map, List.length_map]; exact h9) (show 9 ≤ sizeLine by decide)
  generalize hM : (Ss.map fun fd => mnS fd o).map D.int = M at *
  generalize hT : Ss.map shD = TT at *
  refine ⟨.val (.lst M), ?_⟩
  show l2_LAWk12 FAr FWi FBe LSd LPs f_law_draw LRo f_law_feed _ = _
  unfold l2_LAWk12
  have hV : ∀ x6, dItems (dV 3) (s12 x0 x2 (.val (.lst TT)) x4 (.val (pt o)) x6 f) = some (TT, s12 x0 x2 (.val (.lst TT)) x4 (.val (pt o)) x6 f) := fun _ => rfl
  rw [seq_next (s1 := s12 x0 x2 (.val (.lst TT)) x4 (.val (pt o)) (.own M) f) (asgO_e (s1 := s12 x0 x2 (.val (.lst TT)) x4 (.val (pt o)) x6 f) (comp1F_e (idx := [5]) (hv x6) lz c1) (show 6 < 7 by decide)),
    seq_next (s1 := s12 x0 x2 (.val (.lst TT)) x4 (.val (pt o)) (.val (.lst M)) f) (ret2_e (dB_of (op_e (cb1_e (p := pRepr) (newL_e (comp1F_e (idx := [5]) (s1 := s12 x0 x2 (.val (.lst TT)) x4 (.val (pt o)) (.own M) f) (hV _) lz c2)) r1) (cb1_e (p := pRepr) (newL_e (comp1F_e (idx := []) (ds := M) (s1 := s12 x0 x2 (.val (.lst TT)) x4 (.val (pt o)) (.val (.lst M)) f) rfl lz2 c4)) r1) (strNe_self _)))),
    seq_next (s1 := s12 x0 x2 (.val (.lst TT)) x4 (.val (pt o)) (.val (.lst M)) f) (ret2_e (dB_of (op_e (cb1_e (p := pRepr) (newL_e (comp1F_e (idx := [5]) (s1 := s12 x0 x2 (.val (.lst TT)) x4 (.val (pt o)) (.val (.lst M)) f) (hV _) lz c3)) r2) (cb1_e (p := pRepr) (newL_e (comp1F_e (idx := []) (ds := M) (s1 := s12 x0 x2 (.val (.lst TT)) x4 (.val (pt o)) (.val (.lst M)) f) rfl lz2 c5)) r2) (strNe_self _))))]
  refine ret2_e (or_fx (s1 := s12 x0 x2 (.val (.lst TT)) x4 (.val (pt o)) (.val (.lst M)) f) (dB_of (op_e (s1 := s12 x0 x2 (.val (.lst TT)) x4 (.val (pt o)) (.val (.lst M)) f) (cb1_e (p := pRepr) (cp_e (cons_e (cb1_e (p := pTuple) rfl rfl) (cons_e rfl rfl)) ar) r3) (cb1_e (p := pRepr) (op_e (cb1_e (p := pMax) rfl mx) rfl (congrArg (fun b => some (D.bl b)) ma)) r3) (strNe_self _))) (dB_of (op_e (s1 := s12 x0 x2 (.val (.lst TT)) x4 (.val (pt o)) (.val (.lst M)) f) (cp_e (cons_e rfl (cons_e rfl rfl)) ar0) rfl rfl)))
theorem loop12 {Ss : List (List Pt)} (x0 x2 x4 : Sl) (f : FS) (hs : ∀ fd ∈ Ss, ShS fd) (h0 : 0 < Ss.length) (h9 : Ss.length ≤ 9) : ∀ (qs : List Pt) (x3 x5 x6 : Sl), (∀ q ∈ qs, PtS 700 q) → (x3 = .own (Ss.map shD) ∨ x3 = .val (.lst (Ss.map shD))) →
    ∃ y3 y5 y6, dForL (dPut 5) lL12 (qs.map pt) (s12 x0 x2 x3 x4 x5 x6 f) = some (.next, s12 x0 x2 y3 x4 y5 y6 f) ∧ (y3 = .own (Ss.map shD) ∨ y3 = .val (.lst (Ss.map shD)))
  | [], x3, x5, x6, _, h3 => ⟨x3, x5, x6, rfl, h3⟩
  | q :: r, x3, x5, x6, hq, h3 => by
    obtain ⟨y6, e⟩ := look12 x0 x2 x3 x4 x6 f hs h0 h9 (hq q (List.mem_cons_self ..)) h3
    obtain ⟨z3, z5, z6, e2, h3'⟩ := loop12 x0 x2 x4 f hs h0 h9 r (.val (.lst (Ss.map shD))) (.val (pt q)) y6 (fun z hz => hq z (List.mem_cons_of_mem _ hz)) (.inr rfl)
    refine ⟨z3, z5, z6, ?_, h3'⟩
    rw [List.map_cons, forL_go (s1 := s12 x0 x2 x3 x4 (.val (pt q)) x6 f) rfl e, e2]
theorem c_shapes : ∀ (us : List D) {n : Nat} {f : FS}, Fd n f → n + 40 * us.length < 2 ^ 25 → ∃ (Ss : List (List Pt)) (f' : FS), dCompL (fun d => some (.val d :: [.val .feed])) dYes (dCall LRo (dCons (dV 1) dNil)) us (some f) = some (Ss.map shD, some f') ∧ Ss.length = us.length ∧ (∀ fd ∈ Ss, ShS fd) ∧ Fd (n + 40 * us.length) f'
  | [], n, f, h, _ => ⟨[], f, rfl, rfl, (fun fd hf => by cases hf), h⟩
  | d :: r, n, f, h, hn => by
    rw [List.length_cons] at hn
    obtain ⟨fd, f1, e1, s1, h1⟩ := lround h (by omega)
    obtain ⟨Ss, f2, e2, l2, s2, h2⟩ := c_shapes r h1 (by omega)
    refine ⟨fd :: Ss, f2, ?_, by rw [List.length_cons, List.length_cons, l2], fun z hz => ?_, h2.mono (by rw [List.length_cons]; omega)⟩
    · have el : dCall LRo (dCons (dV 1) dNil) ⟨[.val d, .val .feed], some f⟩ = some (shD fd, ⟨[.val d, .val .feed], some f1⟩) := cl_e rfl e1
      rw [dCompL, Option.bind_some, show dYes ⟨[.val d, .val .feed], some f⟩ = some (true, ⟨[.val d, .val .feed], some f⟩) from rfl, Option.bind_some, if_pos rfl, el, Option.bind_some, e2]
      rfl
    · rcases List.mem_cons.mp hz with rfl | hz
      · exact s1
      · exact s2 z hz
theorem shapes_ok {Ss : List (List Pt)} (hs : ∀ fd ∈ Ss, ShS fd) (h9 : Ss.length ≤ 9) : Ok 3 2000 (.lst (Ss.map shD)) :=
  (Ok.lst (OkL.all (k := 2) (n := 164) (ds := Ss.map shD) fun d hd => by
    obtain ⟨fd, hf, rfl⟩ := List.mem_map.mp hd
    have s := hs fd hf
    have := s.hi
    exact (Ok.tup (OkL.all (k := 1) (n := 3) (ds := fd.map pt) fun d hd => by
      obtain ⟨p, hp, rfl⟩ := List.mem_map.mp hd
      exact Ok.pt (s.sz p hp).ps (by decide))).mono (by decide) (by rw [List.length_map]; omega))).mono (by decide) (by rw [List.length_map]; omega)
noncomputable abbrev C12 : DM := l1_LAWk12 FAr FWi FBe LSd LPs f_law_draw LRo f_law_feed
theorem turn12 {n : Nat} {f : FS} (x0 x2 x3 x4 x5 x6 : Sl) (h : Fd n f) (hn : n < 2 ^ 24) : ∃ y3 y4 y5 y6 f', C12 (s12 x0 x2 x3 x4 x5 x6 f) = some (.next, s12 x0 x2 y3 y4 y5 y6 f') ∧ Fd (n + 200) f' := by
  obtain ⟨r, f1, e1, a1, a2, h1⟩ := draw 3 h
  obtain ⟨m, hm⟩ : ∃ m : Nat, 1 + r = (m : Int) := ⟨(1 + r).toNat, by omega⟩
  obtain ⟨Ss, f2, e2, l2, s2, h2⟩ := c_shapes (ups 0 m) h1 (by rw [ups_len]; omega)
  rw [ups_len] at l2 h2
  obtain ⟨A, hA⟩ : ∃ A, Ss[0]? = some A := ⟨_, List.getElem?_eq_getElem (by omega)⟩
  obtain ⟨B, hB⟩ : ∃ B, Ss[Ss.length - 1]? = some B := ⟨_, List.getElem?_eq_getElem (by omega)⟩
  obtain ⟨qa, f3, e3, la, sa, h3⟩ := lplaces (s2 A (List.mem_of_getElem? hA)) h2 (by omega)
  obtain ⟨qb, f4, e4, lb, sb, h4⟩ := lplaces (s2 B (List.mem_of_getElem? hB)) h3 (by omega)
  have iA : pIx (.lst (Ss.map shD)) (.int 0) = some (shD A) := (ixL _ _).trans (by
    rw [atI_ok (by decide) (by rw [List.length_map]; omega)]
    show (Ss.map shD)[0]? = _
    rw [List.getElem?_map, hA]; rfl)
  have iB : pIx (.lst (Ss.map shD)) (.int (-1)) = some (shD B) := (ixL _ _).trans (by
    unfold atI ixN
    rw [if_neg (by decide), if_pos (by rw [List.length_map]; omega)]
    show (Ss.map shD)[_]? = _
    rw [List.length_map, show ((-1 : Int) + Ss.length).toNat = Ss.length - 1 by omega, List.getElem?_map, hB]
    rfl)
  have rp := (shapes_ok s2 (by omega)).repr
  obtain ⟨y3, y5, y6, lp, h3'⟩ := loop12 x0 x2 (.val (.str (D.lst (Ss.map shD)).py.shown)) f4 s2 (by omega) (by omega) (qa ++ qb) (.own (Ss.map shD)) x5 x6 (fun q hq => by
    rcases List.mem_append.mp hq with hq | hq
    · exact sa q hq
    · exact sb q hq) (.inl rfl)
  have rg : dRange (dCons (dOp pAdd (dC (.int 1)) (dCall f_law_draw (dCons (dV 1) (dCons (dC (.int 3)) dNil)))) dNil) (s12 x0 x2 x3 x4 x5 x6 f) = some (ups 0 m, s12 x0 x2 x3 x4 x5 x6 f1) := rng_e (by rw [← hm]; exact cons_e (op_e rfl (cl_e rfl e1) rfl) rfl) (by omega)
  have ad : pAdd (.lst (qa.map pt)) (.lst (qb.map pt)) = some (.lst ((qa ++ qb).map pt)) := by
    rw [List.map_append]
    exact if_pos (Nat.le_trans (by rw [List.length_map, List.length_map]; omega : _ ≤ 12) (by decide))
  refine ⟨y3, .val (.str (D.lst (Ss.map shD)).py.shown), y5, y6, f4, ?_, h4.mono (by omega)⟩
  generalize (D.lst (Ss.map shD)).py.shown = W at *
  generalize Ss.map shD = TT at *
  show l1_LAWk12 FAr FWi FBe LSd LPs f_law_draw LRo f_law_feed _ = _
  unfold l1_LAWk12
  rw [seq_next (s1 := s12 x0 x2 (.own TT) x4 x5 x6 f2) (asgO_e (s1 := s12 x0 x2 x3 x4 x5 x6 f2) (by
      unfold dComp1
      rw [rg, Option.bind_some, if_pos (Nat.le_trans (by rw [ups_len]; omega : _ ≤ 3) (by decide))]
      show (dCompL (fun d => some (.val d :: [.val .feed])) dYes (dCall LRo (dCons (dV 1) dNil)) (ups 0 m) (some f1)).map _ = _
      rw [e2]
      rfl) (show 3 < 7 by decide)),
    seq_next (s1 := s12 x0 x2 (.own TT) (.val (.str W)) x5 x6 f2) (asg_e (cb1_e (p := pRepr) rfl rp) rfl),
    seq_next ((for_lst (ds := (qa ++ qb).map pt) (s1 := s12 x0 x2 (.own TT) (.val (.str W)) x5 x6 f4) (op_e (cl_e (cons_e rfl (cons_e (op_e rfl rfl iA) rfl)) e3) (cl_e (cons_e rfl (cons_e (op_e rfl rfl iB) rfl)) e4) ad)).trans lp)]
  refine ret2_e (dB_of (op_e (s1 := s12 x0 x2 y3 (.val (.str W)) y5 y6 f4) (cb1_e (p := pRepr) (x := .lst TT) ?_ rp) rfl (strNe_self _)))
  rcases h3' with rfl | rfl <;> rfl
theorem math (ns : List Int) (hl : ns.length ≤ 63) : ∃ fs', f_LAWk12 FAr FWi FBe LSd LPs f_law_draw LRo f_law_feed [.scr ns] none = some (.bl true, fs') := by
  have e0 := feed0 ns hl
  obtain ⟨s', lp, x2, x3, x4, x5, x6, f', rfl, I⟩ := forL_inv (t := dPut 2) (b := C12) (fun i s => ∃ x2 x3 x4 x5 x6 f', s = s12 (.val (.scr ns)) x2 x3 x4 x5 x6 f' ∧ Fd (200 * i) f') (ups 0 3) 0 (s12 (.val (.scr ns)) .no .no .no .no .no ⟨ns, 0, 0, 0, 0⟩)
    ⟨.no, .no, .no, .no, .no, _, rfl, Fd.zero ns⟩ (by
      rintro i d s hd ⟨x2, x3, x4, x5, x6, f', rfl, I⟩
      obtain ⟨rfl, hi⟩ := ups_at hd
      rw [Nat.zero_add] at *
      obtain ⟨y3, y4, y5, y6, f'', e, I'⟩ := turn12 (.val (.scr ns)) (.val (.int ((0 : Int) + i))) x3 x4 x5 x6 I (by omega)
      exact ⟨s12 (.val (.scr ns)) (.val (.int ((0 : Int) + i))) x3 x4 x5 x6 f', _, rfl, .inl e, _, y3, y4, y5, y6, f'', rfl, I'.mono (by omega)⟩)
  refine ⟨some f', mFn_ret (s := s12 (.val (.scr ns)) x2 x3 x4 x5 x6 f') ?_⟩
  show b_LAWk12 FAr FWi FBe LSd LPs f_law_draw LRo f_law_feed ⟨[.val (.scr ns), .no, .no, .no, .no, .no, .no], none⟩ = _
  unfold b_LAWk12
  rw [seq_next (s1 := s12 (.val (.scr ns)) .no .no .no .no .no ⟨ns, 0, 0, 0, 0⟩) (asg_e (cl_e rfl e0) rfl),
    seq_next ((forR_of (xs := [.int 3]) (s1 := s12 (.val (.scr ns)) .no .no .no .no .no ⟨ns, 0, 0, 0, 0⟩) rfl (rng8 (n := 3) (by decide))).trans lp)]
  exact ret_of rfl
end T

namespace T
open PySem PySem.Spec L2 DL
def top (i : Nat) : Stmt := PySem.Challenge.pw_widelines_k12_what_belongs.main.body.getD i (.Pass ⟨0, 0, 0, 0⟩)
abbrev s_law_feed : Stmt := top 11
theorem sc_law_feed : FnScope ["_law_script"] ["_law_script"] (defScope s_law_feed) := ⟨rfl, rfl, rfl, by decide +kernel, rfl, by decide +kernel, by decide +kernel⟩
set_option maxHeartbeats 4000000 in
theorem ok_law_feed {P : Program} {w : World} {K : PySem.W.Frag} {mg : Str → Option Value} {base : Heap} {f : Addr} {fd : FuncData} (B : Blt mg) (F : Fun K "_law_feed" "_law_feed" s_law_feed f fd) (hm : mg "_law_feed" = some (.ref f)) (hb : Binds K fd ["_law_script"] []) : Cal P w K mg base 1 "_law_feed" ["_law_script"] (f_law_feed) :=
  cal_of F hm hb sc_law_feed fun cdv A outer s H E g hr =>
    have nd := sc_law_feed.nd
    (ss_one (s_ret (eo_feed (pv 0))))
abbrev s_law_fraction : Stmt := top 13
theorem sc_law_fraction : FnScope ["_law_top", "_law_bottom", "_law_one", "_law_other"] ["_law_top", "_law_bottom"] (defScope s_law_fraction) := ⟨rfl, rfl, rfl, by decide +kernel, rfl, by decide +kernel, by decide +kernel⟩
set_option maxHeartbeats 4000000 in
theorem ok_law_fraction {P : Program} {w : World} {K : PySem.W.Frag} {mg : Str → Option Value} {base : Heap} {f : Addr} {fd : FuncData} (B : Blt mg) (F : Fun K "_law_fraction" "_law_fraction" s_law_fraction f fd) (hm : mg "_law_fraction" = some (.ref f)) (hb : Binds K fd ["_law_top", "_law_bottom"] []) : Cal P w K mg base 1 "_law_fraction" ["_law_top", "_law_bottom"] (f_law_fraction) :=
  cal_of F hm hb sc_law_fraction fun cdv A outer s H E g hr =>
    have nd := sc_law_fraction.nd
    (ss_cons (s_set (i := 2) nd rfl (by first | exact Or.inl rfl | exact Or.inr rfl) (eo_cb call_abs r_abs (by rfl) B.abs boot_abs' (bc (bo_var (pv 0)) bao_nil))) (ss_cons (s_set (i := 3) nd rfl (by first | exact Or.inl rfl | exact Or.inr rfl) (eo_cb call_abs r_abs (by rfl) B.abs boot_abs' (bc (bo_var (pv 1)) bao_nil))) (ss_cons (s_while PassesOwn.never (to_cmp op_gt (r_cmp (fun i j => decide (j < i))) (bo_var (pv 3)) (EO.b eo_int) (nomark _)) (ss_one (s_par (i := 2) (j := 3) rfl nd rfl rfl (by decide) rfl rfl (ac (eo_var (pv 3)) (ac (eo_op op_modN r_mod (bo_var (pv 2)) (bo_var (pv 3))) ao_nil)) rfl))) (ss_cons (s_if (to_cmp op_lt (r_cmp (fun i j => decide (i < j))) (bo_var (pv 1)) (EO.b eo_int) (nomark _)) (ss_one (s_set (i := 2) nd rfl (by first | exact Or.inl rfl | exact Or.inr rfl) (eo_op op_sub r_sub (EO.b eo_int) (bo_var (pv 2))))) ss_nil) (ss_one (s_ret (eo_tup (ac (eo_op op_fdivB r_div (bo_var (pv 0)) (bo_var (pv 2))) (ac (eo_op op_fdivB r_div (bo_var (pv 1)) (bo_var (pv 2))) ao_nil)))))))))
abbrev s_law_lesser : Stmt := top 22
theorem sc_law_lesser : FnScope ["_law_one", "_law_other", "_law_first"] ["_law_one", "_law_other"] (defScope s_law_lesser) := ⟨rfl, rfl, rfl, by decide +kernel, rfl, by decide +kernel, by decide +kernel⟩
set_option maxHeartbeats 4000000 in
theorem ok_law_lesser {P : Program} {w : World} {K : PySem.W.Frag} {mg : Str → Option Value} {base : Heap} {f : Addr} {fd : FuncData} (B : Blt mg) (F : Fun K "_law_lesser" "_law_lesser" s_law_lesser f fd) (hm : mg "_law_lesser" = some (.ref f)) (hb : Binds K fd ["_law_one", "_law_other"] []) : Cal P w K mg base 1 "_law_lesser" ["_law_one", "_law_other"] (f_law_lesser) :=
  cal_of F hm hb sc_law_lesser fun cdv A outer s H E g hr =>
    have nd := sc_law_lesser.nd
    (ss_cons (s_set (i := 2) nd rfl (by first | exact Or.inl rfl | exact Or.inr rfl) (eo_op op_sub r_sub (EO.b (eo_op op_mulD r_mul (EO.b (eo_ix ix_D r_ix (bo_var (pv 0)) (EO.b eo_int) (fun _ _ => rfl))) (EO.b (eo_ix ix_D r_ix (bo_var (pv 1)) (EO.b eo_int) (fun _ _ => rfl))))) (EO.b (eo_op op_mulD r_mul (EO.b (eo_ix ix_D r_ix (bo_var (pv 1)) (EO.b eo_int) (fun _ _ => rfl))) (EO.b (eo_ix ix_D r_ix (bo_var (pv 0)) (EO.b eo_int) (fun _ _ => rfl))))))) (ss_one (s_ret (eo_or (eo_cmp op_lt (r_cmp (fun i j => decide (i < j))) (bo_var (pv 2)) (EO.b eo_int) (nomark _)) (eo_one (eo_and (eo_cmp (op_eqD (u64 hr)) r_eq (bo_var (pv 2)) (EO.b eo_int) (nomark _)) (eo_one (eo_cmp op_lt (r_cmp (fun i j => decide (i < j))) (EO.b (eo_op op_mulD r_mul (EO.b (eo_ix ix_D r_ix (bo_var (pv 0)) (EO.b eo_int) (fun _ _ => rfl))) (EO.b (eo_ix ix_D r_ix (bo_var (pv 1)) (EO.b eo_int) (fun _ _ => rfl))))) (EO.b (eo_op op_mulD r_mul (EO.b (eo_ix ix_D r_ix (bo_var (pv 1)) (EO.b eo_int) (fun _ _ => rfl))) (EO.b (eo_ix ix_D r_ix (bo_var (pv 0)) (EO.b eo_int) (fun _ _ => rfl))))) (nomark _)))))))))
abbrev s_law_turn : Stmt := top 21
theorem sc_law_turn : FnScope ["_law_a", "_law_b", "_law_c", "_law_first", "_law_second"] ["_law_a", "_law_b", "_law_c"] (defScope s_law_turn) := ⟨rfl, rfl, rfl, by decide +kernel, rfl, by decide +kernel, by decide +kernel⟩
set_option maxHeartbeats 4000000 in
theorem ok_law_turn {P : Program} {w : World} {K : PySem.W.Frag} {mg : Str → Option Value} {base : Heap} {f : Addr} {fd : FuncData} (B : Blt mg) (F : Fun K "_law_turn" "_law_turn" s_law_turn f fd) (hm : mg "_law_turn" = some (.ref f)) (hb : Binds K fd ["_law_a", "_law_b", "_law_c"] []) : Cal P w K mg base 1 "_law_turn" ["_law_a", "_law_b", "_law_c"] (f_law_turn) :=
  cal_of F hm hb sc_law_turn fun cdv A outer s H E g hr =>
    have nd := sc_law_turn.nd
    (ss_cons (s_set (i := 3) nd rfl (by first | exact Or.inl rfl | exact Or.inr rfl) (eo_op op_mulD r_mul (EO.b (eo_op op_sub r_sub (EO.b (eo_op op_mulD r_mul (EO.b (eo_ix ix_D r_ix (bo_var (pv 1)) (EO.b eo_int) (fun _ _ => rfl))) (EO.b (eo_ix ix_D r_ix (bo_var (pv 0)) (EO.b eo_int) (fun _ _ => rfl))))) (EO.b (eo_op op_mulD r_mul (EO.b (eo_ix ix_D r_ix (bo_var (pv 0)) (EO.b eo_int) (fun _ _ => rfl))) (EO.b (eo_ix ix_D r_ix (bo_var (pv 1)) (EO.b eo_int) (fun _ _ => rfl))))))) (EO.b (eo_op op_sub r_sub (EO.b (eo_op op_mulD r_mul (EO.b (eo_ix ix_D r_ix (bo_var (pv 2)) (EO.b eo_int) (fun _ _ => rfl))) (EO.b (eo_ix ix_D r_ix (bo_var (pv 0)) (EO.b eo_int) (fun _ _ => rfl))))) (EO.b (eo_op op_mulD r_mul (EO.b (eo_ix ix_D r_ix (bo_var (pv 0)) (EO.b eo_int) (fun _ _ => rfl))) (EO.b (eo_ix ix_D r_ix (bo_var (pv 2)) (EO.b eo_int) (fun _ _ => rfl))))))))) (ss_cons (s_set (i := 4) nd rfl (by first | exact Or.inl rfl | exact Or.inr rfl) (eo_op op_mulD r_mul (EO.b (eo_op op_sub r_sub (EO.b (eo_op op_mulD r_mul (EO.b (eo_ix ix_D r_ix (bo_var (pv 1)) (EO.b eo_int) (fun _ _ => rfl))) (EO.b (eo_ix ix_D r_ix (bo_var (pv 0)) (EO.b eo_int) (fun _ _ => rfl))))) (EO.b (eo_op op_mulD r_mul (EO.b (eo_ix ix_D r_ix (bo_var (pv 0)) (EO.b eo_int) (fun _ _ => rfl))) (EO.b (eo_ix ix_D r_ix (bo_var (pv 1)) (EO.b eo_int) (fun _ _ => rfl))))))) (EO.b (eo_op op_sub r_sub (EO.b (eo_op op_mulD r_mul (EO.b (eo_ix ix_D r_ix (bo_var (pv 2)) (EO.b eo_int) (fun _ _ => rfl))) (EO.b (eo_ix ix_D r_ix (bo_var (pv 0)) (EO.b eo_int) (fun _ _ => rfl))))) (EO.b (eo_op op_mulD r_mul (EO.b (eo_ix ix_D r_ix (bo_var (pv 0)) (EO.b eo_int) (fun _ _ => rfl))) (EO.b (eo_ix ix_D r_ix (bo_var (pv 2)) (EO.b eo_int) (fun _ _ => rfl))))))))) (ss_one (s_ret (eo_op op_sub r_sub (EO.b (eo_cty call_int1 r_toint (by rfl) B.int boot_int' (bc (EO.b (eo_cmp op_gt (r_cmp (fun i j => decide (j < i))) (bo_var (pv 3)) (bo_var (pv 4)) (nomark _))) bao_nil))) (EO.b (eo_cty call_int1 r_toint (by rfl) B.int boot_int' (bc (EO.b (eo_cmp op_lt (r_cmp (fun i j => decide (i < j))) (bo_var (pv 3)) (bo_var (pv 4)) (nomark _))) bao_nil))))))))
abbrev s_law_sum : Stmt := top 14
theorem sc_law_sum : FnScope ["_law_one", "_law_other", "_law_top"] ["_law_one", "_law_other"] (defScope s_law_sum) := ⟨rfl, rfl, rfl, by decide +kernel, rfl, by decide +kernel, by decide +kernel⟩
set_option maxHeartbeats 4000000 in
theorem ok_law_sum {P : Program} {w : World} {K : PySem.W.Frag} {mg : Str → Option Value} {base : Heap} {m_law_fraction : DFn} (C_law_fraction : Cal P w K mg base 1 "_law_fraction" ["_law_top", "_law_bottom"] m_law_fraction) {f : Addr} {fd : FuncData} (B : Blt mg) (F : Fun K "_law_sum" "_law_sum" s_law_sum f fd) (hm : mg "_law_sum" = some (.ref f)) (hb : Binds K fd ["_law_one", "_law_other"] []) : Cal P w K mg base 2 "_law_sum" ["_law_one", "_law_other"] (f_law_sum m_law_fraction) :=
  cal_of F hm hb sc_law_sum fun cdv A outer s H E g hr =>
    have nd := sc_law_sum.nd
    (ss_cons (s_set (i := 2) nd rfl (by first | exact Or.inl rfl | exact Or.inr rfl) (eo_op op_addD r_add (EO.b (eo_op op_mulD r_mul (EO.b (eo_ix ix_D r_ix (bo_var (pv 0)) (EO.b eo_int) (fun _ _ => rfl))) (EO.b (eo_ix ix_D r_ix (bo_var (pv 1)) (EO.b eo_int) (fun _ _ => rfl))))) (EO.b (eo_op op_mulD r_mul (EO.b (eo_ix ix_D r_ix (bo_var (pv 1)) (EO.b eo_int) (fun _ _ => rfl))) (EO.b (eo_ix ix_D r_ix (bo_var (pv 0)) (EO.b eo_int) (fun _ _ => rfl))))))) (ss_one (s_ret (eo_calC C_law_fraction _ hr (by decide) (by rfl) (ac (eo_var (pv 2)) (ac (eo_op op_mulD r_mul (EO.b (eo_ix ix_D r_ix (bo_var (pv 0)) (EO.b eo_int) (fun _ _ => rfl))) (EO.b (eo_ix ix_D r_ix (bo_var (pv 1)) (EO.b eo_int) (fun _ _ => rfl)))) ao_nil)) (dCons_len (dCons_len dNil_len))))))
abbrev s_law_minus : Stmt := top 16
theorem sc_law_minus : FnScope ["_law_one"] ["_law_one"] (defScope s_law_minus) := ⟨rfl, rfl, rfl, by decide +kernel, rfl, by decide +kernel, by decide +kernel⟩
set_option maxHeartbeats 4000000 in
theorem ok_law_minus {P : Program} {w : World} {K : PySem.W.Frag} {mg : Str → Option Value} {base : Heap} {f : Addr} {fd : FuncData} (B : Blt mg) (F : Fun K "_law_minus" "_law_minus" s_law_minus f fd) (hm : mg "_law_minus" = some (.ref f)) (hb : Binds K fd ["_law_one"] []) : Cal P w K mg base 1 "_law_minus" ["_law_one"] (f_law_minus) :=
  cal_of F hm hb sc_law_minus fun cdv A outer s H E g hr =>
    have nd := sc_law_minus.nd
    (ss_one (s_ret (eo_tup (ac (eo_op op_sub r_sub (EO.b eo_int) (EO.b (eo_ix ix_D r_ix (bo_var (pv 0)) (EO.b eo_int) (fun _ _ => rfl)))) (ac (eo_ix ix_D r_ix (bo_var (pv 0)) (EO.b eo_int) (fun _ _ => rfl)) ao_nil)))))
abbrev s_law_product : Stmt := top 15
theorem sc_law_product : FnScope ["_law_one", "_law_other"] ["_law_one", "_law_other"] (defScope s_law_product) := ⟨rfl, rfl, rfl, by decide +kernel, rfl, by decide +kernel, by decide +kernel⟩
set_option maxHeartbeats 4000000 in
theorem ok_law_product {P : Program} {w : World} {K : PySem.W.Frag} {mg : Str → Option Value} {base : Heap} {m_law_fraction : DFn} (C_law_fraction : Cal P w K mg base 1 "_law_fraction" ["_law_top", "_law_bottom"] m_law_fraction) {f : Addr} {fd : FuncData} (B : Blt mg) (F : Fun K "_law_product" "_law_product" s_law_product f fd) (hm : mg "_law_product" = some (.ref f)) (hb : Binds K fd ["_law_one", "_law_other"] []) : Cal P w K mg base 2 "_law_product" ["_law_one", "_law_other"] (f_law_product m_law_fraction) :=
  cal_of F hm hb sc_law_product fun cdv A outer s H E g hr =>
    have nd := sc_law_product.nd
    (ss_one (s_ret (eo_calC C_law_fraction _ hr (by decide) (by rfl) (ac (eo_op op_mulD r_mul (EO.b (eo_ix ix_D r_ix (bo_var (pv 0)) (EO.b eo_int) (fun _ _ => rfl))) (EO.b (eo_ix ix_D r_ix (bo_var (pv 1)) (EO.b eo_int) (fun _ _ => rfl)))) (ac (eo_op op_mulD r_mul (EO.b (eo_ix ix_D r_ix (bo_var (pv 0)) (EO.b eo_int) (fun _ _ => rfl))) (EO.b (eo_ix ix_D r_ix (bo_var (pv 1)) (EO.b eo_int) (fun _ _ => rfl)))) ao_nil)) (dCons_len (dCons_len dNil_len)))))
abbrev s_law_xy : Stmt := top 18
theorem sc_law_xy : FnScope ["_law_one"] ["_law_one"] (defScope s_law_xy) := ⟨rfl, rfl, rfl, by decide +kernel, rfl, by decide +kernel, by decide +kernel⟩
set_option maxHeartbeats 4000000 in
theorem ok_law_xy {P : Program} {w : World} {K : PySem.W.Frag} {mg : Str → Option Value} {base : Heap} {m_law_fraction : DFn} (C_law_fraction : Cal P w K mg base 1 "_law_fraction" ["_law_top", "_law_bottom"] m_law_fraction) {f : Addr} {fd : FuncData} (B : Blt mg) (F : Fun K "_law_xy" "_law_xy" s_law_xy f fd) (hm : mg "_law_xy" = some (.ref f)) (hb : Binds K fd ["_law_one"] []) : Cal P w K mg base 2 "_law_xy" ["_law_one"] (f_law_xy m_law_fraction) :=
  cal_of F hm hb sc_law_xy fun cdv A outer s H E g hr =>
    have nd := sc_law_xy.nd
    (ss_one (s_ret (eo_tup (ac (eo_calC C_law_fraction _ hr (by decide) (by rfl) (ac (eo_ix ix_D r_ix (bo_var (pv 0)) (EO.b eo_int) (fun _ _ => rfl)) (ac (eo_ix ix_D r_ix (bo_var (pv 0)) (EO.b eo_int) (fun _ _ => rfl)) ao_nil)) (dCons_len (dCons_len dNil_len))) (ac (eo_calC C_law_fraction _ hr (by decide) (by rfl) (ac (eo_ix ix_D r_ix (bo_var (pv 0)) (EO.b eo_int) (fun _ _ => rfl)) (ac (eo_ix ix_D r_ix (bo_var (pv 0)) (EO.b eo_int) (fun _ _ => rfl)) ao_nil)) (dCons_len (dCons_len dNil_len))) ao_nil)))))
abbrev s_law_squared : Stmt := top 25
theorem sc_law_squared : FnScope ["_law_a", "_law_b", "_law_x", "_law_y"] ["_law_a", "_law_b"] (defScope s_law_squared) := ⟨rfl, rfl, rfl, by decide +kernel, rfl, by decide +kernel, by decide +kernel⟩
set_option maxHeartbeats 4000000 in
theorem ok_law_squared {P : Program} {w : World} {K : PySem.W.Frag} {mg : Str → Option Value} {base : Heap} {m_law_sum : DFn} {m_law_product : DFn} {m_law_minus : DFn} {m_law_xy : DFn} (C_law_sum : Cal P w K mg base 2 "_law_sum" ["_law_one", "_law_other"] m_law_sum) (C_law_product : Cal P w K mg base 2 "_law_product" ["_law_one", "_law_other"] m_law_product) (C_law_minus : Cal P w K mg base 1 "_law_minus" ["_law_one"] m_law_minus) (C_law_xy : Cal P w K mg base 2 "_law_xy" ["_law_one"] m_law_xy) {f : Addr} {fd : FuncData} (B : Blt mg) (F : Fun K "_law_squared" "_law_squared" s_law_squared f fd) (hm : mg "_law_squared" = some (.ref f)) (hb : Binds K fd ["_law_a", "_law_b"] []) : Cal P w K mg base 3 "_law_squared" ["_law_a", "_law_b"] (f_law_squared m_law_sum m_law_product m_law_minus m_law_xy) :=
  cal_of F hm hb sc_law_squared fun cdv A outer s H E g hr =>
    have nd := sc_law_squared.nd
    (ss_cons (s_set (i := 2) nd rfl (by first | exact Or.inl rfl | exact Or.inr rfl) (eo_calC C_law_sum _ hr (by decide) (by rfl) (ac (eo_ix ix_D r_ix (EO.b (eo_calC C_law_xy _ hr (by decide) (by rfl) (ac (eo_var (pv 1)) ao_nil) (dCons_len dNil_len))) (EO.b eo_int) (fun _ _ => rfl)) (ac (eo_calC C_law_minus _ hr (by decide) (by rfl) (ac (eo_ix ix_D r_ix (EO.b (eo_calC C_law_xy _ hr (by decide) (by rfl) (ac (eo_var (pv 0)) ao_nil) (dCons_len dNil_len))) (EO.b eo_int) (fun _ _ => rfl)) ao_nil) (dCons_len dNil_len)) ao_nil)) (dCons_len (dCons_len dNil_len)))) (ss_cons (s_set (i := 3) nd rfl (by first | exact Or.inl rfl | exact Or.inr rfl) (eo_calC C_law_sum _ hr (by decide) (by rfl) (ac (eo_ix ix_D r_ix (EO.b (eo_calC C_law_xy _ hr (by decide) (by rfl) (ac (eo_var (pv 1)) ao_nil) (dCons_len dNil_len))) (EO.b eo_int) (fun _ _ => rfl)) (ac (eo_calC C_law_minus _ hr (by decide) (by rfl) (ac (eo_ix ix_D r_ix (EO.b (eo_calC C_law_xy _ hr (by decide) (by rfl) (ac (eo_var (pv 0)) ao_nil) (dCons_len dNil_len))) (EO.b eo_int) (fun _ _ => rfl)) ao_nil) (dCons_len dNil_len)) ao_nil)) (dCons_len (dCons_len dNil_len)))) (ss_one (s_ret (eo_calC C_law_sum _ hr (by decide) (by rfl) (ac (eo_calC C_law_product _ hr (by decide) (by rfl) (ac (eo_var (pv 2)) (ac (eo_var (pv 2)) ao_nil)) (dCons_len (dCons_len dNil_len))) (ac (eo_calC C_law_product _ hr (by decide) (by rfl) (ac (eo_var (pv 3)) (ac (eo_var (pv 3)) ao_nil)) (dCons_len (dCons_len dNil_len))) ao_nil)) (dCons_len (dCons_len dNil_len)))))))
abbrev s_law_farther : Stmt := top 26
theorem sc_law_farther : FnScope ["_law_here", "_law_best", "_law_one", "_law_side"] ["_law_here", "_law_best", "_law_one"] (defScope s_law_farther) := ⟨rfl, rfl, rfl, by decide +kernel, rfl, by decide +kernel, by decide +kernel⟩
set_option maxHeartbeats 4000000 in
theorem ok_law_farther {P : Program} {w : World} {K : PySem.W.Frag} {mg : Str → Option Value} {base : Heap} {m_law_sum : DFn} {m_law_minus : DFn} {m_law_squared : DFn} {m_law_turn : DFn} (C_law_sum : Cal P w K mg base 2 "_law_sum" ["_law_one", "_law_other"] m_law_sum) (C_law_minus : Cal P w K mg base 1 "_law_minus" ["_law_one"] m_law_minus) (C_law_squared : Cal P w K mg base 3 "_law_squared" ["_law_a", "_law_b"] m_law_squared) (C_law_turn : Cal P w K mg base 1 "_law_turn" ["_law_a", "_law_b", "_law_c"] m_law_turn) {f : Addr} {fd : FuncData} (B : Blt mg) (F : Fun K "_law_farther" "_law_farther" s_law_farther f fd) (hm : mg "_law_farther" = some (.ref f)) (hb : Binds K fd ["_law_here", "_law_best", "_law_one"] []) : Cal P w K mg base 4 "_law_farther" ["_law_here", "_law_best", "_law_one"] (f_law_farther m_law_sum m_law_minus m_law_squared m_law_turn) :=
  cal_of F hm hb sc_law_farther fun cdv A outer s H E g hr =>
    have nd := sc_law_farther.nd
    (ss_cons (s_set (i := 3) nd rfl (by first | exact Or.inl rfl | exact Or.inr rfl) (eo_calC C_law_turn _ hr (by decide) (by rfl) (ac (eo_var (pv 0)) (ac (eo_var (pv 1)) (ac (eo_var (pv 2)) ao_nil))) (dCons_len (dCons_len (dCons_len dNil_len))))) (ss_cons (s_if (to_cmp (op_neD (u64 hr)) r_ne (bo_var (pv 3)) (EO.b eo_int) (nomark _)) (ss_one (s_ret (eo_cmp op_lt (r_cmp (fun i j => decide (i < j))) (bo_var (pv 3)) (EO.b eo_int) (nomark _)))) ss_nil) (ss_one (s_ret (eo_cmp op_lt (r_cmp (fun i j => decide (i < j))) (EO.b (eo_ix ix_D r_ix (EO.b (eo_calC C_law_sum _ hr (by decide) (by rfl) (ac (eo_calC C_law_squared _ hr (by decide) (by rfl) (ac (eo_var (pv 0)) (ac (eo_var (pv 1)) ao_nil)) (dCons_len (dCons_len dNil_len))) (ac (eo_calC C_law_minus _ hr (by decide) (by rfl) (ac (eo_calC C_law_squared _ hr (by decide) (by rfl) (ac (eo_var (pv 0)) (ac (eo_var (pv 2)) ao_nil)) (dCons_len (dCons_len dNil_len))) ao_nil) (dCons_len dNil_len)) ao_nil)) (dCons_len (dCons_len dNil_len)))) (EO.b eo_int) (fun _ _ => rfl))) (EO.b eo_int) (nomark _))))))
abbrev s_law_hull : Stmt := top 27
theorem sc_law_hull : FnScope ["_law_some", "_law_first", "_law_one", "_law_found", "_law_here", "_law_best"] ["_law_some"] (defScope s_law_hull) := ⟨rfl, rfl, rfl, by decide +kernel, rfl, by decide +kernel, by decide +kernel⟩
set_option maxHeartbeats 4000000 in
theorem ok_law_hull {P : Program} {w : World} {K : PySem.W.Frag} {mg : Str → Option Value} {base : Heap} {m_law_farther : DFn} {m_law_lesser : DFn} (C_law_farther : Cal P w K mg base 4 "_law_farther" ["_law_here", "_law_best", "_law_one"] m_law_farther) (C_law_lesser : Cal P w K mg base 1 "_law_lesser" ["_law_one", "_law_other"] m_law_lesser) {f : Addr} {fd : FuncData} (B : Blt mg) (F : Fun K "_law_hull" "_law_hull" s_law_hull f fd) (hm : mg "_law_hull" = some (.ref f)) (hb : Binds K fd ["_law_some"] []) : Cal P w K mg base 5 "_law_hull" ["_law_some"] (f_law_hull m_law_farther m_law_lesser) :=
  cal_of F hm hb sc_law_hull fun cdv A outer s H E g hr =>
    have nd := sc_law_hull.nd
    (ss_cons (s_set (i := 1) nd rfl (by first | exact Or.inl rfl | exact Or.inr rfl) (eo_ix ix_D r_ix (bo_var (pv 0)) (EO.b eo_int) (fun _ _ => rfl))) (ss_cons (s_for PassesOwn.never rfl (eo_var (pv 0)) (g_name (pg_name (i := 2) nd rfl (by first | exact Or.inl rfl | exact Or.inr rfl))) (ss_one (s_if (to_truth (EO.b (eo_calC C_law_lesser _ hr (by decide) (by rfl) (ac (eo_var (pv 2)) (ac (eo_var (pv 1)) ao_nil)) (dCons_len (dCons_len dNil_len))))) (ss_one (s_set (i := 1) nd rfl (by first | exact Or.inl rfl | exact Or.inr rfl) (eo_var (pv 2)))) ss_nil))) (ss_cons (s_setF (i := 3) nd rfl (by first | exact Or.inl rfl | exact Or.inr rfl) (fo_lst ao_nil)) (ss_cons (s_set (i := 4) nd rfl (by first | exact Or.inl rfl | exact Or.inr rfl) (eo_var (pv 1))) (ss_cons (s_while PassesOwn.never (WO.t (wo_or (to_cmp (op_neD (u64 hr)) r_ne (bo_var (pv 4)) (bo_var (pv 1)) (nomark _)) (wo_or1 (to_cmp (op_eqD (u64 hr)) r_eq (bo_var (pv 3)) (EO.b (FO.v (fo_lst ao_nil))) (nomark _))))) (ss_cons (s_app (pv 3) (eo_var (pv 4))) (ss_cons (s_set (i := 5) nd rfl (by first | exact Or.inl rfl | exact Or.inr rfl) eo_non) (ss_cons (s_for PassesOwn.never rfl (eo_var (pv 0)) (g_name (pg_name (i := 2) nd rfl (by first | exact Or.inl rfl | exact Or.inr rfl))) (ss_one (s_if (WO.t (wo_and (to_cmp (op_neD (u64 hr)) r_ne (bo_var (pv 2)) (bo_var (pv 4)) (nomark _)) (wo_and1 (WO.t (wo_or (to_cmp op_isN r_isN (bo_var (pv 5)) (EO.b eo_non) (nomark _)) (wo_or1 (to_truth (EO.b (eo_calC C_law_farther _ hr (by decide) (by rfl) (ac (eo_var (pv 4)) (ac (eo_var (pv 5)) (ac (eo_var (pv 2)) ao_nil))) (dCons_len (dCons_len (dCons_len dNil_len)))))))))))) (ss_one (s_set (i := 5) nd rfl (by first | exact Or.inl rfl | exact Or.inr rfl) (eo_var (pv 2)))) ss_nil))) (ss_one (s_set (i := 4) nd rfl (by first | exact Or.inl rfl | exact Or.inr rfl) (eo_if (WO.t (wo_or (to_cmp op_isN r_isN (bo_var (pv 5)) (EO.b eo_non) (nomark _)) (wo_or1 (to_cmp op_gt (r_cmp (fun i j => decide (j < i))) (EO.b (eo_cb c_len r_len (by rfl) B.len boot_len' (bc (bo_var (pv 3)) bao_nil))) (EO.b (eo_cb c_len r_len (by rfl) B.len boot_len' (bc (bo_var (pv 0)) bao_nil))) (nomark _))))) (eo_var (pv 1)) (eo_var (pv 5))))))))) (ss_one (s_ret (eo_if (to_cmp op_gt (r_cmp (fun i j => decide (j < i))) (EO.b (eo_cb c_len r_len (by rfl) B.len boot_len' (bc (bo_var (pv 3)) bao_nil))) (EO.b eo_int) (nomark _)) (eo_cty call_tuple_of r_tuple (by rfl) B.tuple boot_tuple' (bc (bo_var (pv 3)) bao_nil)) eo_non))))))))
abbrev s_law_at : Stmt := top 17
theorem sc_law_at : FnScope ["_law_x", "_law_y", "_law_bottom", "_law_top", "_law_other", "_law_part_of_both"] ["_law_x", "_law_y"] (defScope s_law_at) := ⟨rfl, rfl, rfl, by decide +kernel, rfl, by decide +kernel, by decide +kernel⟩
set_option maxHeartbeats 4000000 in
theorem ok_law_at {P : Program} {w : World} {K : PySem.W.Frag} {mg : Str → Option Value} {base : Heap} {m_law_fraction : DFn} (C_law_fraction : Cal P w K mg base 1 "_law_fraction" ["_law_top", "_law_bottom"] m_law_fraction) {f : Addr} {fd : FuncData} (B : Blt mg) (F : Fun K "_law_at" "_law_at" s_law_at f fd) (hm : mg "_law_at" = some (.ref f)) (hb : Binds K fd ["_law_x", "_law_y"] []) : Cal P w K mg base 2 "_law_at" ["_law_x", "_law_y"] (f_law_at m_law_fraction) :=
  cal_of F hm hb sc_law_at fun cdv A outer s H E g hr =>
    have nd := sc_law_at.nd
    (ss_cons (s_set (i := 2) nd rfl (by first | exact Or.inl rfl | exact Or.inr rfl) (eo_op op_mulD r_mul (EO.b (eo_ix ix_D r_ix (bo_var (pv 0)) (EO.b eo_int) (fun _ _ => rfl))) (EO.b (eo_ix ix_D r_ix (bo_var (pv 1)) (EO.b eo_int) (fun _ _ => rfl))))) (ss_cons (s_set (i := 3) nd rfl (by first | exact Or.inl rfl | exact Or.inr rfl) (eo_calC C_law_fraction _ hr (by decide) (by rfl) (ac (eo_op op_mulD r_mul (EO.b (eo_ix ix_D r_ix (bo_var (pv 0)) (EO.b eo_int) (fun _ _ => rfl))) (EO.b (eo_ix ix_D r_ix (bo_var (pv 1)) (EO.b eo_int) (fun _ _ => rfl)))) (ac (eo_var (pv 2)) ao_nil)) (dCons_len (dCons_len dNil_len)))) (ss_cons (s_set (i := 4) nd rfl (by first | exact Or.inl rfl | exact Or.inr rfl) (eo_calC C_law_fraction _ hr (by decide) (by rfl) (ac (eo_op op_mulD r_mul (EO.b (eo_ix ix_D r_ix (bo_var (pv 1)) (EO.b eo_int) (fun _ _ => rfl))) (EO.b (eo_ix ix_D r_ix (bo_var (pv 0)) (EO.b eo_int) (fun _ _ => rfl)))) (ac (eo_var (pv 2)) ao_nil)) (dCons_len (dCons_len dNil_len)))) (ss_cons (s_set (i := 5) nd rfl (by first | exact Or.inl rfl | exact Or.inr rfl) (eo_calC C_law_fraction _ hr (by decide) (by rfl) (ac (eo_ix ix_D r_ix (bo_var (pv 3)) (EO.b eo_int) (fun _ _ => rfl)) (ac (eo_ix ix_D r_ix (bo_var (pv 4)) (EO.b eo_int) (fun _ _ => rfl)) ao_nil)) (dCons_len (dCons_len dNil_len)))) (ss_cons (s_set (i := 2) nd rfl (by first | exact Or.inl rfl | exact Or.inr rfl) (eo_op op_mulD r_mul (EO.b (eo_ix ix_D r_ix (bo_var (pv 3)) (EO.b eo_int) (fun _ _ => rfl))) (EO.b (eo_ix ix_D r_ix (bo_var (pv 5)) (EO.b eo_int) (fun _ _ => rfl))))) (ss_one (s_ret (eo_tup (ac (eo_op op_mulD r_mul (EO.b (eo_ix ix_D r_ix (bo_var (pv 3)) (EO.b eo_int) (fun _ _ => rfl))) (EO.b (eo_op op_fdivB r_div (bo_var (pv 2)) (EO.b (eo_ix ix_D r_ix (bo_var (pv 3)) (EO.b eo_int) (fun _ _ => rfl)))))) (ac (eo_op op_mulD r_mul (EO.b (eo_ix ix_D r_ix (bo_var (pv 4)) (EO.b eo_int) (fun _ _ => rfl))) (EO.b (eo_op op_fdivB r_div (bo_var (pv 2)) (EO.b (eo_ix ix_D r_ix (bo_var (pv 4)) (EO.b eo_int) (fun _ _ => rfl)))))) (ac (eo_var (pv 2)) ao_nil)))))))))))
abbrev s_law_draw : Stmt := top 12
theorem sc_law_draw : FnScope ["_law_feed_here", "_law_many", "_law_count", "_law_digit", "_law_cells", "_law_cell", "_law_mixed"] ["_law_feed_here", "_law_many"] (defScope s_law_draw) := ⟨rfl, rfl, rfl, by decide +kernel, rfl, by decide +kernel, by decide +kernel⟩
set_option maxHeartbeats 4000000 in
theorem ok_law_draw {P : Program} {w : World} {K : PySem.W.Frag} {mg : Str → Option Value} {base : Heap} {f : Addr} {fd : FuncData} (B : Blt mg) (F : Fun K "_law_draw" "_law_draw" s_law_draw f fd) (hm : mg "_law_draw" = some (.ref f)) (hb : Binds K fd ["_law_feed_here", "_law_many"] []) : Cal P w K mg base 1 "_law_draw" ["_law_feed_here", "_law_many"] (f_law_draw) :=
  cal_of F hm hb sc_law_draw fun cdv A outer s H E g hr =>
    have nd := sc_law_draw.nd
    (ss_cons (s_set (i := 2) nd rfl (by first | exact Or.inl rfl | exact Or.inr rfl) (eo_op op_addD r_add (EO.b (eo_fget (hu_of hr) (pv 0))) (EO.b eo_int))) (ss_cons (s_fput (hu_of hr) (pv 0) (eo_var (pv 2))) (ss_cons (s_if (to_cmp op_gt (r_cmp (fun i j => decide (j < i))) (EO.b (eo_fget (hu_of hr) (pv 0))) (EO.b eo_int) (nomark _)) (ss_cons (s_set (i := 3) nd rfl (by first | exact Or.inl rfl | exact Or.inr rfl) (eo_op op_modN r_mod (EO.b (eo_fget (hu_of hr) (pv 0))) (bo_var (pv 1)))) (ss_cons (s_fput (hu_of hr) (pv 0) (eo_op op_fdivB r_div (EO.b (eo_fget (hu_of hr) (pv 0))) (bo_var (pv 1)))) (ss_one (s_ret (eo_var (pv 3)))))) ss_nil) (ss_cons (s_set (i := 4) nd rfl (by first | exact Or.inl rfl | exact Or.inr rfl) (eo_fget (hu_of hr) (pv 0))) (ss_cons (s_set (i := 5) nd rfl (by first | exact Or.inl rfl | exact Or.inr rfl) (eo_if (to_cmp op_gt (r_cmp (fun i j => decide (j < i))) (EO.b (eo_cb c_len r_len (by rfl) B.len boot_len' (bc (bo_var (pv 4)) bao_nil))) (EO.b eo_int) (nomark _)) (eo_ix ix_D r_ix (bo_var (pv 4)) (EO.b (eo_op op_modN r_mod (EO.b (eo_fget (hu_of hr) (pv 0))) (EO.b (eo_cb c_len r_len (by rfl) B.len boot_len' (bc (bo_var (pv 4)) bao_nil))))) (fun _ _ => rfl)) eo_int)) (ss_cons (s_fput (hu_of hr) (pv 0) (eo_op op_addD r_add (EO.b (eo_fget (hu_of hr) (pv 0))) (EO.b eo_int))) (ss_cons (s_if (WO.t (wo_and (to_cmp op_ge (r_cmp (fun i j => decide (j ≤ i))) (bo_var (pv 5)) (EO.b (eo_op op_pow r_pow (EO.b eo_int) (EO.b eo_int))) (nomark _)) (wo_and1 (to_cmp op_le (r_cmp (fun i j => decide (i ≤ j))) (EO.b (eo_fget (hu_of hr) (pv 0))) (EO.b (eo_cb c_len r_len (by rfl) B.len boot_len' (bc (bo_var (pv 4)) bao_nil))) (nomark _))))) (ss_cons (s_fput (hu_of hr) (pv 0) (eo_op op_fdivB r_div (bo_var (pv 5)) (bo_var (pv 1)))) (ss_one (s_ret (eo_op op_modN r_mod (bo_var (pv 5)) (bo_var (pv 1)))))) ss_nil) (ss_cons (s_set (i := 6) nd rfl (by first | exact Or.inl rfl | exact Or.inr rfl) (eo_op op_modN r_mod (EO.b (eo_op op_mulD r_mul (EO.b (eo_op op_addD r_add (EO.b (eo_op op_addD r_add (EO.b (eo_op op_addD r_add (EO.b (eo_op op_modN r_mod (bo_var (pv 5)) (EO.b eo_int))) (EO.b (eo_op op_mulD r_mul (EO.b (eo_op op_mulD r_mul (EO.b eo_int) (bo_var (pv 2)))) (bo_var (pv 2)))))) (EO.b (eo_op op_mulD r_mul (EO.b eo_int) (bo_var (pv 2)))))) (EO.b eo_int))) (EO.b eo_int))) (EO.b eo_int))) (ss_cons (s_set (i := 6) nd rfl (by first | exact Or.inl rfl | exact Or.inr rfl) (eo_op op_modN r_mod (EO.b (eo_op op_addD r_add (EO.b (eo_op op_mulD r_mul (EO.b (eo_op op_fdivB r_div (bo_var (pv 6)) (EO.b eo_int))) (EO.b eo_int))) (EO.b (eo_op op_mulD r_mul (EO.b eo_int) (bo_var (pv 2)))))) (EO.b eo_int))) (ss_one (s_ret (eo_op op_modN r_mod (EO.b (eo_op op_fdivB r_div (bo_var (pv 6)) (EO.b eo_int))) (bo_var (pv 1))))))))))))))
abbrev s_law_number : Stmt := top 23
theorem sc_law_number : FnScope ["_law_feed_here", "_law_top", "_law_bottom"] ["_law_feed_here"] (defScope s_law_number) := ⟨rfl, rfl, rfl, by decide +kernel, rfl, by decide +kernel, by decide +kernel⟩
set_option maxHeartbeats 4000000 in
theorem ok_law_number {P : Program} {w : World} {K : PySem.W.Frag} {mg : Str → Option Value} {base : Heap} {m_law_fraction : DFn} {m_law_draw : DFn} (C_law_fraction : Cal P w K mg base 1 "_law_fraction" ["_law_top", "_law_bottom"] m_law_fraction) (C_law_draw : Cal P w K mg base 1 "_law_draw" ["_law_feed_here", "_law_many"] m_law_draw) {f : Addr} {fd : FuncData} (B : Blt mg) (F : Fun K "_law_number" "_law_number" s_law_number f fd) (hm : mg "_law_number" = some (.ref f)) (hb : Binds K fd ["_law_feed_here"] []) : Cal P w K mg base 2 "_law_number" ["_law_feed_here"] (f_law_number m_law_fraction m_law_draw) :=
  cal_of F hm hb sc_law_number fun cdv A outer s H E g hr =>
    have nd := sc_law_number.nd
    (ss_cons (s_set (i := 1) nd rfl (by first | exact Or.inl rfl | exact Or.inr rfl) (eo_calC C_law_draw _ hr (by decide) (by rfl) (ac (eo_var (pv 0)) (ac (eo_ix ix_D r_ix (EO.b (FO.v (fo_lst (ac eo_int (ac eo_int (ac eo_int ao_nil)))))) (EO.b (eo_calC C_law_draw _ hr (by decide) (by rfl) (ac (eo_var (pv 0)) (ac eo_int ao_nil)) (dCons_len (dCons_len dNil_len)))) (fun _ _ => rfl)) ao_nil)) (dCons_len (dCons_len dNil_len)))) (ss_cons (s_set (i := 2) nd rfl (by first | exact Or.inl rfl | exact Or.inr rfl) (eo_ix ix_D r_ix (EO.b (FO.v (fo_lst (ac eo_int (ac eo_int (ac eo_int (ac eo_int (ac eo_int (ac eo_int ao_nil))))))))) (EO.b (eo_calC C_law_draw _ hr (by decide) (by rfl) (ac (eo_var (pv 0)) (ac eo_int ao_nil)) (dCons_len (dCons_len dNil_len)))) (fun _ _ => rfl))) (ss_one (s_ret (eo_calC C_law_fraction _ hr (by decide) (by rfl) (ac (eo_op op_mulD r_mul (bo_var (pv 1)) (EO.b (eo_op op_sub r_sub (EO.b eo_int) (EO.b (eo_op op_mulD r_mul (EO.b eo_int) (EO.b (eo_calC C_law_draw _ hr (by decide) (by rfl) (ac (eo_var (pv 0)) (ac eo_int ao_nil)) (dCons_len (dCons_len dNil_len))))))))) (ac (eo_var (pv 2)) ao_nil)) (dCons_len (dCons_len dNil_len)))))))
abbrev s_law_place : Stmt := top 24
theorem sc_law_place : FnScope ["_law_feed_here"] ["_law_feed_here"] (defScope s_law_place) := ⟨rfl, rfl, rfl, by decide +kernel, rfl, by decide +kernel, by decide +kernel⟩
set_option maxHeartbeats 4000000 in
theorem ok_law_place {P : Program} {w : World} {K : PySem.W.Frag} {mg : Str → Option Value} {base : Heap} {m_law_at : DFn} {m_law_number : DFn} (C_law_at : Cal P w K mg base 2 "_law_at" ["_law_x", "_law_y"] m_law_at) (C_law_number : Cal P w K mg base 2 "_law_number" ["_law_feed_here"] m_law_number) {f : Addr} {fd : FuncData} (B : Blt mg) (F : Fun K "_law_place" "_law_place" s_law_place f fd) (hm : mg "_law_place" = some (.ref f)) (hb : Binds K fd ["_law_feed_here"] []) : Cal P w K mg base 3 "_law_place" ["_law_feed_here"] (f_law_place m_law_at m_law_number) :=
  cal_of F hm hb sc_law_place fun cdv A outer s H E g hr =>
    have nd := sc_law_place.nd
    (ss_one (s_ret (eo_calC C_law_at _ hr (by decide) (by rfl) (ac (eo_calC C_law_number _ hr (by decide) (by rfl) (ac (eo_var (pv 0)) ao_nil) (dCons_len dNil_len)) (ac (eo_calC C_law_number _ hr (by decide) (by rfl) (ac (eo_var (pv 0)) ao_nil) (dCons_len dNil_len)) ao_nil)) (dCons_len (dCons_len dNil_len)))))
abbrev s_law_gone : Stmt := top 19
theorem sc_law_gone : FnScope ["_law_one", "_law_x", "_law_y", "_law_first", "_law_second"] ["_law_one", "_law_x", "_law_y"] (defScope s_law_gone) := ⟨rfl, rfl, rfl, by decide +kernel, rfl, by decide +kernel, by decide +kernel⟩
set_option maxHeartbeats 4000000 in
theorem ok_law_gone {P : Program} {w : World} {K : PySem.W.Frag} {mg : Str → Option Value} {base : Heap} {m_law_at : DFn} {m_law_sum : DFn} {m_law_xy : DFn} (C_law_at : Cal P w K mg base 2 "_law_at" ["_law_x", "_law_y"] m_law_at) (C_law_sum : Cal P w K mg base 2 "_law_sum" ["_law_one", "_law_other"] m_law_sum) (C_law_xy : Cal P w K mg base 2 "_law_xy" ["_law_one"] m_law_xy) {f : Addr} {fd : FuncData} (B : Blt mg) (F : Fun K "_law_gone" "_law_gone" s_law_gone f fd) (hm : mg "_law_gone" = some (.ref f)) (hb : Binds K fd ["_law_one", "_law_x", "_law_y"] []) : Cal P w K mg base 3 "_law_gone" ["_law_one", "_law_x", "_law_y"] (f_law_gone m_law_at m_law_sum m_law_xy) :=
  cal_of F hm hb sc_law_gone fun cdv A outer s H E g hr =>
    have nd := sc_law_gone.nd
    (ss_cons (s_asg (eo_calC C_law_xy _ hr (by decide) (by rfl) (ac (eo_var (pv 0)) ao_nil) (dCons_len dNil_len)) (g_tup rfl (gs_cons (g_name (pg_name (i := 3) nd rfl (by first | exact Or.inl rfl | exact Or.inr rfl))) (gs_cons (g_name (pg_name (i := 4) nd rfl (by first | exact Or.inl rfl | exact Or.inr rfl))) gs_nil)))) (ss_one (s_ret (eo_calC C_law_at _ hr (by decide) (by rfl) (ac (eo_calC C_law_sum _ hr (by decide) (by rfl) (ac (eo_var (pv 3)) (ac (eo_var (pv 1)) ao_nil)) (dCons_len (dCons_len dNil_len))) (ac (eo_calC C_law_sum _ hr (by decide) (by rfl) (ac (eo_var (pv 4)) (ac (eo_var (pv 2)) ao_nil)) (dCons_len (dCons_len dNil_len))) ao_nil)) (dCons_len (dCons_len dNil_len))))))
abbrev s_law_round_shape : Stmt := top 28
theorem sc_law_round_shape : FnScope ["_law_feed_here", "_law_some", "_law_ways", "_law_kept", "_law_share", "_law_here", "_law_found", "_law_x", "_law_y"] ["_law_feed_here"] (defScope s_law_round_shape) := ⟨rfl, rfl, rfl, by decide +kernel, rfl, by decide +kernel, by decide +kernel⟩
set_option maxHeartbeats 4000000 in
theorem ok_law_round_shape {P : Program} {w : World} {K : PySem.W.Frag} {mg : Str → Option Value} {base : Heap} {m_law_hull : DFn} {m_law_gone : DFn} {m_law_product : DFn} {m_law_fraction : DFn} {m_law_draw : DFn} {m_law_turn : DFn} {m_law_place : DFn} (C_law_hull : Cal P w K mg base 5 "_law_hull" ["_law_some"] m_law_hull) (C_law_gone : Cal P w K mg base 3 "_law_gone" ["_law_one", "_law_x", "_law_y"] m_law_gone) (C_law_product : Cal P w K mg base 2 "_law_product" ["_law_one", "_law_other"] m_law_product) (C_law_fraction : Cal P w K mg base 1 "_law_fraction" ["_law_top", "_law_bottom"] m_law_fraction) (C_law_draw : Cal P w K mg base 1 "_law_draw" ["_law_feed_here", "_law_many"] m_law_draw) (C_law_turn : Cal P w K mg base 1 "_law_turn" ["_law_a", "_law_b", "_law_c"] m_law_turn) (C_law_place : Cal P w K mg base 3 "_law_place" ["_law_feed_here"] m_law_place) {f : Addr} {fd : FuncData} (B : Blt mg) (F : Fun K "_law_round_shape" "_law_round_shape" s_law_round_shape f fd) (hm : mg "_law_round_shape" = some (.ref f)) (hb : Binds K fd ["_law_feed_here"] []) : Cal P w K mg base 6 "_law_round_shape" ["_law_feed_here"] (f_law_round_shape m_law_hull m_law_gone m_law_product m_law_fraction m_law_draw m_law_turn m_law_place) :=
  cal_of F hm hb sc_law_round_shape fun cdv A outer s H E g hr =>
    have nd := sc_law_round_shape.nd
    (ss_cons (s_setC (i := 1) nd rfl (by first | exact Or.inl rfl | exact Or.inr rfl) (co_comp1 (N' := ["_law_k", "_law_feed_here"]) (idx := [0]) rfl (compOk1 (by rfl) (.cons rfl .nil) (by decide +kernel) rfl (by decide +kernel) (by rfl) (.cons rfl (by first | exact Or.inl rfl | exact Or.inr rfl) (by first | exact Or.inl rfl | exact Or.inr rfl) .nil)) (io_range1 (by rfl) B.range eo_int) (fun _ _ _ _ => pg_name (i := 0) (show List.Nodup (["_law_k", "_law_feed_here"] : List Str) by decide +kernel) rfl (Or.inl rfl)) (fun _ _ _ _ _ => ifs_nil) (fun _ _ _ _ _ => (eo_calC C_law_place _ hr (by decide) (by rfl) (ac (eo_var (pv 1)) ao_nil) (dCons_len dNil_len))))) (ss_cons (s_if (WO.t (wo_and (to_cmp (op_eqD (u64 hr)) r_eq (EO.b (eo_calC C_law_draw _ hr (by decide) (by rfl) (ac (eo_var (pv 0)) (ac eo_int ao_nil)) (dCons_len (dCons_len dNil_len)))) (EO.b eo_int) (nomark _)) (wo_and1 (to_cmp (op_neD (u64 hr)) r_ne (EO.b (eo_calC C_law_turn _ hr (by decide) (by rfl) (ac (eo_ix ix_D r_ix (bo_var (pv 1)) (EO.b eo_int) (fun _ _ => rfl)) (ac (eo_ix ix_D r_ix (bo_var (pv 1)) (EO.b eo_int) (fun _ _ => rfl)) (ac (eo_ix ix_D r_ix (bo_var (pv 1)) (EO.b eo_int) (fun _ _ => rfl)) ao_nil))) (dCons_len (dCons_len (dCons_len dNil_len))))) (EO.b eo_int) (nomark _))))) (ss_one (s_ret (eo_calC C_law_hull _ hr (by decide) (by rfl) (ac (eo_var (pv 1)) ao_nil) (dCons_len dNil_len)))) ss_nil) (ss_cons (s_setF (i := 2) nd rfl (by first | exact Or.inl rfl | exact Or.inr rfl) (fo_lst (ac (eo_tup (ac eo_int (ac eo_int ao_nil))) (ac (eo_tup (ac eo_int (ac eo_int ao_nil))) (ac (eo_tup (ac eo_int (ac eo_int ao_nil))) (ac (eo_tup (ac eo_int (ac eo_int ao_nil))) (ac (eo_tup (ac eo_int (ac eo_int ao_nil))) (ac (eo_tup (ac (eo_un un_neg r_neg (EO.b eo_int)) (ac eo_int ao_nil))) (ac (eo_tup (ac (eo_un un_neg r_neg (EO.b eo_int)) (ac eo_int ao_nil))) (ac (eo_tup (ac (eo_un un_neg r_neg (EO.b eo_int)) (ac eo_int ao_nil))) ao_nil)))))))))) (ss_cons (s_setC (i := 3) nd rfl (by first | exact Or.inl rfl | exact Or.inr rfl) (co_comp1 (N' := ["_law_pair", "_law_feed_here"]) (idx := [0]) rfl (compOk1 (by rfl) (.cons rfl .nil) (by decide +kernel) rfl (by decide +kernel) (by rfl) (.cons rfl (by first | exact Or.inl rfl | exact Or.inr rfl) (by first | exact Or.inl rfl | exact Or.inr rfl) .nil)) (io_seq (eo_var (pv 2))) (fun _ _ _ _ => pg_name (i := 0) (show List.Nodup (["_law_pair", "_law_feed_here"] : List Str) by decide +kernel) rfl (Or.inl rfl)) (fun _ _ _ _ _ => (ifs_one (to_cmp (op_eqD (u64 hr)) r_eq (EO.b (eo_calC C_law_draw _ hr (by decide) (by rfl) (ac (eo_var (pv 1)) (ac eo_int ao_nil)) (dCons_len (dCons_len dNil_len)))) (EO.b eo_int) (nomark _)))) (fun _ _ _ _ _ => (eo_var (pv 0))))) (ss_cons (s_set (i := 3) nd rfl (by first | exact Or.inl rfl | exact Or.inr rfl) (eo_if (to_cmp op_gt (r_cmp (fun i j => decide (j < i))) (EO.b (eo_cb c_len r_len (by rfl) B.len boot_len' (bc (bo_var (pv 3)) bao_nil))) (EO.b eo_int) (nomark _)) (eo_var (pv 3)) (FO.v (fo_lst (ac (eo_ix ix_D r_ix (bo_var (pv 2)) (EO.b eo_int) (fun _ _ => rfl)) (ac (eo_ix ix_D r_ix (bo_var (pv 2)) (EO.b (eo_op op_addD r_add (EO.b eo_int) (EO.b (eo_calC C_law_draw _ hr (by decide) (by rfl) (ac (eo_var (pv 0)) (ac eo_int ao_nil)) (dCons_len (dCons_len dNil_len)))))) (fun _ _ => rfl)) ao_nil)))))) (ss_cons (s_set (i := 4) nd rfl (by first | exact Or.inl rfl | exact Or.inr rfl) (eo_calC C_law_fraction _ hr (by decide) (by rfl) (ac (eo_op op_addD r_add (EO.b eo_int) (EO.b (eo_calC C_law_draw _ hr (by decide) (by rfl) (ac (eo_var (pv 0)) (ac eo_int ao_nil)) (dCons_len (dCons_len dNil_len))))) (ac (eo_op op_addD r_add (EO.b eo_int) (EO.b (eo_calC C_law_draw _ hr (by decide) (by rfl) (ac (eo_var (pv 0)) (ac eo_int ao_nil)) (dCons_len (dCons_len dNil_len))))) ao_nil)) (dCons_len (dCons_len dNil_len)))) (ss_cons (s_set (i := 5) nd rfl (by first | exact Or.inl rfl | exact Or.inr rfl) (eo_ix ix_D r_ix (bo_var (pv 1)) (EO.b eo_int) (fun _ _ => rfl))) (ss_cons (s_setF (i := 6) nd rfl (by first | exact Or.inl rfl | exact Or.inr rfl) (fo_lst ao_nil)) (ss_cons (s_for PassesOwn.never rfl (FO.v (fo_op op_cat r_addF (bo_var (pv 3)) (EO.b (FO.v (fo_comp2n (caps := []) (idx := []) rfl (compOk2 (by rfl) .nil (by decide +kernel) rfl (by decide +kernel) (by rfl) .nil) (io_seq (eo_var (pv 3))) (show List.Nodup (["_law_x", "_law_y"] : List Str) by decide +kernel) (fun _ _ _ _ => rfl) (fun _ _ _ _ => rfl) (fun _ _ _ _ _ => ifs_nil) (fun _ _ _ _ _ => (eo_tup (ac (eo_op op_sub r_sub (EO.b eo_int) (bo_var (pv 0))) (ac (eo_op op_sub r_sub (EO.b eo_int) (bo_var (pv 1))) ao_nil))))))))) (g_tup rfl (gs_cons (g_name (pg_name (i := 7) nd rfl (by first | exact Or.inl rfl | exact Or.inr rfl))) (gs_cons (g_name (pg_name (i := 8) nd rfl (by first | exact Or.inl rfl | exact Or.inr rfl))) gs_nil))) (ss_cons (s_app (pv 6) (eo_var (pv 5))) (ss_one (s_set (i := 5) nd rfl (by first | exact Or.inl rfl | exact Or.inr rfl) (eo_calC C_law_gone _ hr (by decide) (by rfl) (ac (eo_var (pv 5)) (ac (eo_calC C_law_product _ hr (by decide) (by rfl) (ac (eo_tup (ac (eo_var (pv 7)) (ac eo_int ao_nil))) (ac (eo_var (pv 4)) ao_nil)) (dCons_len (dCons_len dNil_len))) (ac (eo_calC C_law_product _ hr (by decide) (by rfl) (ac (eo_tup (ac (eo_var (pv 8)) (ac eo_int ao_nil))) (ac (eo_var (pv 4)) ao_nil)) (dCons_len (dCons_len dNil_len))) ao_nil))) (dCons_len (dCons_len (dCons_len dNil_len)))))))) (ss_one (s_ret (eo_calC C_law_hull _ hr (by decide) (by rfl) (ac (eo_var (pv 6)) ao_nil) (dCons_len dNil_len)))))))))))))
abbrev s_law_half_way : Stmt := top 20
theorem sc_law_half_way : FnScope ["_law_a", "_law_b", "_law_x", "_law_y", "_law_far_x", "_law_far_y"] ["_law_a", "_law_b"] (defScope s_law_half_way) := ⟨rfl, rfl, rfl, by decide +kernel, rfl, by decide +kernel, by decide +kernel⟩
set_option maxHeartbeats 4000000 in
theorem ok_law_half_way {P : Program} {w : World} {K : PySem.W.Frag} {mg : Str → Option Value} {base : Heap} {m_law_at : DFn} {m_law_product : DFn} {m_law_sum : DFn} {m_law_xy : DFn} (C_law_at : Cal P w K mg base 2 "_law_at" ["_law_x", "_law_y"] m_law_at) (C_law_product : Cal P w K mg base 2 "_law_product" ["_law_one", "_law_other"] m_law_product) (C_law_sum : Cal P w K mg base 2 "_law_sum" ["_law_one", "_law_other"] m_law_sum) (C_law_xy : Cal P w K mg base 2 "_law_xy" ["_law_one"] m_law_xy) {f : Addr} {fd : FuncData} (B : Blt mg) (F : Fun K "_law_half_way" "_law_half_way" s_law_half_way f fd) (hm : mg "_law_half_way" = some (.ref f)) (hb : Binds K fd ["_law_a", "_law_b"] []) : Cal P w K mg base 3 "_law_half_way" ["_law_a", "_law_b"] (f_law_half_way m_law_at m_law_product m_law_sum m_law_xy) :=
  cal_of F hm hb sc_law_half_way fun cdv A outer s H E g hr =>
    have nd := sc_law_half_way.nd
    (ss_cons (s_asg (eo_calC C_law_xy _ hr (by decide) (by rfl) (ac (eo_var (pv 0)) ao_nil) (dCons_len dNil_len)) (g_tup rfl (gs_cons (g_name (pg_name (i := 2) nd rfl (by first | exact Or.inl rfl | exact Or.inr rfl))) (gs_cons (g_name (pg_name (i := 3) nd rfl (by first | exact Or.inl rfl | exact Or.inr rfl))) gs_nil)))) (ss_cons (s_asg (eo_calC C_law_xy _ hr (by decide) (by rfl) (ac (eo_var (pv 1)) ao_nil) (dCons_len dNil_len)) (g_tup rfl (gs_cons (g_name (pg_name (i := 4) nd rfl (by first | exact Or.inl rfl | exact Or.inr rfl))) (gs_cons (g_name (pg_name (i := 5) nd rfl (by first | exact Or.inl rfl | exact Or.inr rfl))) gs_nil)))) (ss_cons (s_par (i := 2) (j := 3) rfl nd rfl rfl (by decide) rfl rfl (ac (eo_calC C_law_sum _ hr (by decide) (by rfl) (ac (eo_var (pv 2)) (ac (eo_var (pv 4)) ao_nil)) (dCons_len (dCons_len dNil_len))) (ac (eo_calC C_law_sum _ hr (by decide) (by rfl) (ac (eo_var (pv 3)) (ac (eo_var (pv 5)) ao_nil)) (dCons_len (dCons_len dNil_len))) ao_nil)) rfl) (ss_one (s_ret (eo_calC C_law_at _ hr (by decide) (by rfl) (ac (eo_calC C_law_product _ hr (by decide) (by rfl) (ac (eo_var (pv 2)) (ac (eo_tup (ac eo_int (ac eo_int ao_nil))) ao_nil)) (dCons_len (dCons_len dNil_len))) (ac (eo_calC C_law_product _ hr (by decide) (by rfl) (ac (eo_var (pv 3)) (ac (eo_tup (ac eo_int (ac eo_int ao_nil))) ao_nil)) (dCons_len (dCons_len dNil_len))) ao_nil)) (dCons_len (dCons_len dNil_len))))))))
abbrev s_law_places : Stmt := top 29
theorem sc_law_places : FnScope ["_law_feed_here", "_law_shape", "_law_at_here", "_law_other", "_law_a", "_law_b", "_law_c", "_law_found", "_law_one", "_law_end"] ["_law_feed_here", "_law_shape"] (defScope s_law_places) := ⟨rfl, rfl, rfl, by decide +kernel, rfl, by decide +kernel, by decide +kernel⟩
set_option maxHeartbeats 4000000 in
theorem ok_law_places {P : Program} {w : World} {K : PySem.W.Frag} {mg : Str → Option Value} {base : Heap} {m_law_gone : DFn} {m_law_fraction : DFn} {m_law_draw : DFn} {m_law_half_way : DFn} {m_law_place : DFn} (C_law_gone : Cal P w K mg base 3 "_law_gone" ["_law_one", "_law_x", "_law_y"] m_law_gone) (C_law_fraction : Cal P w K mg base 1 "_law_fraction" ["_law_top", "_law_bottom"] m_law_fraction) (C_law_draw : Cal P w K mg base 1 "_law_draw" ["_law_feed_here", "_law_many"] m_law_draw) (C_law_half_way : Cal P w K mg base 3 "_law_half_way" ["_law_a", "_law_b"] m_law_half_way) (C_law_place : Cal P w K mg base 3 "_law_place" ["_law_feed_here"] m_law_place) {f : Addr} {fd : FuncData} (B : Blt mg) (F : Fun K "_law_places" "_law_places" s_law_places f fd) (hm : mg "_law_places" = some (.ref f)) (hb : Binds K fd ["_law_feed_here", "_law_shape"] []) : Cal P w K mg base 4 "_law_places" ["_law_feed_here", "_law_shape"] (f_law_places m_law_gone m_law_fraction m_law_draw m_law_half_way m_law_place) :=
  cal_of F hm hb sc_law_places fun cdv A outer s H E g hr =>
    have nd := sc_law_places.nd
    (ss_cons (s_set (i := 2) nd rfl (by first | exact Or.inl rfl | exact Or.inr rfl) (eo_calC C_law_draw _ hr (by decide) (by rfl) (ac (eo_var (pv 0)) (ac (eo_cb c_len r_len (by rfl) B.len boot_len' (bc (bo_var (pv 1)) bao_nil)) ao_nil)) (dCons_len (dCons_len dNil_len)))) (ss_cons (s_set (i := 3) nd rfl (by first | exact Or.inl rfl | exact Or.inr rfl) (eo_calC C_law_draw _ hr (by decide) (by rfl) (ac (eo_var (pv 0)) (ac (eo_cb c_len r_len (by rfl) B.len boot_len' (bc (bo_var (pv 1)) bao_nil)) ao_nil)) (dCons_len (dCons_len dNil_len)))) (ss_cons (s_par3 (i := 4) (j := 5) (k := 6) rfl nd rfl rfl rfl (by decide) (by decide) (by decide) rfl rfl rfl (ac (eo_ix ix_D r_ix (bo_var (pv 1)) (EO.b (eo_op op_sub r_sub (bo_var (pv 2)) (EO.b eo_int))) (fun _ _ => rfl)) (ac (eo_ix ix_D r_ix (bo_var (pv 1)) (bo_var (pv 2)) (fun _ _ => rfl)) (ac (eo_ix ix_D r_ix (bo_var (pv 1)) (bo_var (pv 3)) (fun _ _ => rfl)) ao_nil))) rfl) (ss_cons (s_setF (i := 7) nd rfl (by first | exact Or.inl rfl | exact Or.inr rfl) (fo_lst (ac (eo_var (pv 4)) (ac (eo_calC C_law_place _ hr (by decide) (by rfl) (ac (eo_var (pv 0)) ao_nil) (dCons_len dNil_len)) ao_nil)))) (ss_cons (s_for PassesOwn.never rfl (FO.v (fo_lst (ac (eo_tup (ac (eo_var (pv 4)) (ac (eo_var (pv 5)) ao_nil))) (ac (eo_tup (ac (eo_var (pv 4)) (ac (eo_var (pv 6)) ao_nil))) ao_nil)))) (g_tup rfl (gs_cons (g_name (pg_name (i := 8) nd rfl (by first | exact Or.inl rfl | exact Or.inr rfl))) (gs_cons (g_name (pg_name (i := 9) nd rfl (by first | exact Or.inl rfl | exact Or.inr rfl))) gs_nil))) (ss_cons (s_app (pv 7) (eo_calC C_law_half_way _ hr (by decide) (by rfl) (ac (eo_var (pv 8)) (ac (eo_var (pv 9)) ao_nil)) (dCons_len (dCons_len dNil_len)))) (ss_one (s_app (pv 7) (eo_calC C_law_gone _ hr (by decide) (by rfl) (ac (eo_ix ix_D r_ix (bo_var (pv 7)) (EO.b (eo_un un_neg r_neg (EO.b eo_int))) (fun _ _ => rfl)) (ac (eo_calC C_law_fraction _ hr (by decide) (by rfl) (ac (eo_op op_sub r_sub (EO.b (eo_calC C_law_draw _ hr (by decide) (by rfl) (ac (eo_var (pv 0)) (ac eo_int ao_nil)) (dCons_len (dCons_len dNil_len)))) (EO.b eo_int)) (ac eo_int ao_nil)) (dCons_len (dCons_len dNil_len))) (ac (eo_calC C_law_fraction _ hr (by decide) (by rfl) (ac eo_int (ac eo_int ao_nil)) (dCons_len (dCons_len dNil_len))) ao_nil))) (dCons_len (dCons_len (dCons_len dNil_len)))))))) (ss_one (s_ret (eo_var (pv 7)))))))))
abbrev s_law_sides : Stmt := top 30
theorem sc_law_sides : FnScope ["_law_shape", "_law_one"] ["_law_shape", "_law_one"] (defScope s_law_sides) := ⟨rfl, rfl, rfl, by decide +kernel, rfl, by decide +kernel, by decide +kernel⟩
set_option maxHeartbeats 4000000 in
theorem ok_law_sides {P : Program} {w : World} {K : PySem.W.Frag} {mg : Str → Option Value} {base : Heap} {m_law_turn : DFn} (C_law_turn : Cal P w K mg base 1 "_law_turn" ["_law_a", "_law_b", "_law_c"] m_law_turn) {f : Addr} {fd : FuncData} (B : Blt mg) (F : Fun K "_law_sides" "_law_sides" s_law_sides f fd) (hm : mg "_law_sides" = some (.ref f)) (hb : Binds K fd ["_law_shape", "_law_one"] []) : Cal P w K mg base 2 "_law_sides" ["_law_shape", "_law_one"] (f_law_sides m_law_turn) :=
  cal_of F hm hb sc_law_sides fun cdv A outer s H E g hr =>
    have nd := sc_law_sides.nd
    (ss_one (s_ret (FO.v (fo_comp1 (N' := ["_law_k", "_law_one", "_law_shape"]) (idx := [1, 0]) rfl (compOk1 (by rfl) (.cons rfl (.cons rfl .nil)) (by decide +kernel) rfl (by decide +kernel) (by rfl) (.cons rfl (by first | exact Or.inl rfl | exact Or.inr rfl) (by first | exact Or.inl rfl | exact Or.inr rfl) (.cons rfl (by first | exact Or.inl rfl | exact Or.inr rfl) (by first | exact Or.inl rfl | exact Or.inr rfl) .nil))) (io_range1 (by rfl) B.range (eo_cb c_len r_len (by rfl) B.len boot_len' (bc (bo_var (pv 0)) bao_nil))) (fun _ _ _ _ => pg_name (i := 0) (show List.Nodup (["_law_k", "_law_one", "_law_shape"] : List Str) by decide +kernel) rfl (Or.inl rfl)) (fun _ _ _ _ _ => ifs_nil) (fun _ _ _ _ _ => (eo_calC C_law_turn _ hr (by decide) (by rfl) (ac (eo_ix ix_D r_ix (bo_var (pv 2)) (EO.b (eo_op op_sub r_sub (bo_var (pv 0)) (EO.b eo_int))) (fun _ _ => rfl)) (ac (eo_ix ix_D r_ix (bo_var (pv 2)) (bo_var (pv 0)) (fun _ _ => rfl)) (ac (eo_var (pv 1)) ao_nil))) (dCons_len (dCons_len (dCons_len dNil_len)))))))))
abbrev s_neighbours : Stmt := top 4
theorem sc_neighbours : FnScope ["row", "closed"] ["row", "closed"] (defScope s_neighbours) := ⟨rfl, rfl, rfl, by decide +kernel, rfl, by decide +kernel, by decide +kernel⟩
set_option maxHeartbeats 4000000 in
theorem ok_neighbours {P : Program} {w : World} {K : PySem.W.Frag} {mg : Str → Option Value} {base : Heap} {f : Addr} {fd : FuncData} (B : Blt mg) (F : Fun K "neighbours" "neighbours" s_neighbours f fd) (hm : mg "neighbours" = some (.ref f)) (hb : Binds K fd ["row", "closed"] []) : Cal P w K mg base 1 "neighbours" ["row", "closed"] (f_neighbours) :=
  cal_of F hm hb sc_neighbours fun cdv A outer s H E g hr =>
    have nd := sc_neighbours.nd
    (ss_cons (s_if (to_truth (bo_var (pv 1))) (ss_one (s_ret (FO.v (fo_lzip rfl (by rfl) B.list (by rfl) B.zip (bc (bo_var (pv 0)) (bc (EO.b (eo_op op_addD r_add (EO.b (eo_slice (bo_var (pv 0)) (oo_some (EO.b eo_int)) oo_none)) (EO.b (eo_slice (bo_var (pv 0)) oo_none (oo_some (EO.b eo_int)))))) bao_nil)))))) ss_nil) (ss_one (s_ret (FO.v (fo_lzip rfl (by rfl) B.list (by rfl) B.zip (bc (bo_var (pv 0)) (bc (EO.b (eo_slice (bo_var (pv 0)) (oo_some (EO.b eo_int)) oo_none)) bao_nil)))))))
abbrev s_edges : Stmt := top 5
theorem sc_edges : FnScope ["corners"] ["corners"] (defScope s_edges) := ⟨rfl, rfl, rfl, by decide +kernel, rfl, by decide +kernel, by decide +kernel⟩
set_option maxHeartbeats 4000000 in
theorem ok_edges {P : Program} {w : World} {K : PySem.W.Frag} {mg : Str → Option Value} {base : Heap} {m_neighbours : DFn} (C_neighbours : Cal P w K mg base 1 "neighbours" ["row", "closed"] m_neighbours) {f : Addr} {fd : FuncData} (B : Blt mg) (F : Fun K "edges" "edges" s_edges f fd) (hm : mg "edges" = some (.ref f)) (hb : Binds K fd ["corners"] []) : Cal P w K mg base 2 "edges" ["corners"] (f_edges m_neighbours) :=
  cal_of F hm hb sc_edges fun cdv A outer s H E g hr =>
    have nd := sc_edges.nd
    (ss_one (s_ret (eo_calC C_neighbours _ hr (by decide) (by rfl) (ac (eo_var (pv 0)) (ac eo_bl ao_nil)) (dCons_len (dCons_len dNil_len)))))
abbrev s_sign : Stmt := top 1
theorem sc_sign : FnScope ["number"] ["number"] (defScope s_sign) := ⟨rfl, rfl, rfl, by decide +kernel, rfl, by decide +kernel, by decide +kernel⟩
set_option maxHeartbeats 4000000 in
theorem ok_sign {P : Program} {w : World} {K : PySem.W.Frag} {mg : Str → Option Value} {base : Heap} {f : Addr} {fd : FuncData} (B : Blt mg) (F : Fun K "sign" "sign" s_sign f fd) (hm : mg "sign" = some (.ref f)) (hb : Binds K fd ["number"] []) : Cal P w K mg base 1 "sign" ["number"] (f_sign) :=
  cal_of F hm hb sc_sign fun cdv A outer s H E g hr =>
    have nd := sc_sign.nd
    (ss_cons (s_if (to_cmp op_gt (r_cmp (fun i j => decide (j < i))) (bo_var (pv 0)) (EO.b eo_int) (nomark _)) (ss_one (s_ret eo_int)) ss_nil) (ss_cons (s_if (to_cmp op_lt (r_cmp (fun i j => decide (i < j))) (bo_var (pv 0)) (EO.b eo_int) (nomark _)) (ss_one (s_ret (eo_un un_neg r_neg (EO.b eo_int)))) ss_nil) (ss_one (s_ret eo_int))))
abbrev s_turn : Stmt := top 2
theorem sc_turn : FnScope ["a", "b", "c", "spread"] ["a", "b", "c"] (defScope s_turn) := ⟨rfl, rfl, rfl, by decide +kernel, rfl, by decide +kernel, by decide +kernel⟩
set_option maxHeartbeats 4000000 in
theorem ok_turn {P : Program} {w : World} {K : PySem.W.Frag} {mg : Str → Option Value} {base : Heap} {m_sign : DFn} (C_sign : Cal P w K mg base 1 "sign" ["number"] m_sign) {f : Addr} {fd : FuncData} (B : Blt mg) (F : Fun K "turn" "turn" s_turn f fd) (hm : mg "turn" = some (.ref f)) (hb : Binds K fd ["a", "b", "c"] []) : Cal P w K mg base 2 "turn" ["a", "b", "c"] (f_turn m_sign) :=
  cal_of F hm hb sc_turn fun cdv A outer s H E g hr =>
    have nd := sc_turn.nd
    (ss_cons (s_set (i := 3) nd rfl (by first | exact Or.inl rfl | exact Or.inr rfl) (eo_op op_mulD r_mul (EO.b (eo_ix ix_D r_ix (bo_var (pv 0)) (EO.b eo_int) (fun _ _ => rfl))) (EO.b (eo_op op_sub r_sub (EO.b (eo_op op_mulD r_mul (EO.b (eo_ix ix_D r_ix (bo_var (pv 1)) (EO.b eo_int) (fun _ _ => rfl))) (EO.b (eo_ix ix_D r_ix (bo_var (pv 2)) (EO.b eo_int) (fun _ _ => rfl))))) (EO.b (eo_op op_mulD r_mul (EO.b (eo_ix ix_D r_ix (bo_var (pv 2)) (EO.b eo_int) (fun _ _ => rfl))) (EO.b (eo_ix ix_D r_ix (bo_var (pv 1)) (EO.b eo_int) (fun _ _ => rfl))))))))) (ss_cons (s_set (i := 3) nd rfl (by first | exact Or.inl rfl | exact Or.inr rfl) (eo_op op_sub r_sub (bo_var (pv 3)) (EO.b (eo_op op_mulD r_mul (EO.b (eo_ix ix_D r_ix (bo_var (pv 0)) (EO.b eo_int) (fun _ _ => rfl))) (EO.b (eo_op op_sub r_sub (EO.b (eo_op op_mulD r_mul (EO.b (eo_ix ix_D r_ix (bo_var (pv 1)) (EO.b eo_int) (fun _ _ => rfl))) (EO.b (eo_ix ix_D r_ix (bo_var (pv 2)) (EO.b eo_int) (fun _ _ => rfl))))) (EO.b (eo_op op_mulD r_mul (EO.b (eo_ix ix_D r_ix (bo_var (pv 2)) (EO.b eo_int) (fun _ _ => rfl))) (EO.b (eo_ix ix_D r_ix (bo_var (pv 1)) (EO.b eo_int) (fun _ _ => rfl))))))))))) (ss_cons (s_set (i := 3) nd rfl (by first | exact Or.inl rfl | exact Or.inr rfl) (eo_op op_addD r_add (bo_var (pv 3)) (EO.b (eo_op op_mulD r_mul (EO.b (eo_ix ix_D r_ix (bo_var (pv 0)) (EO.b eo_int) (fun _ _ => rfl))) (EO.b (eo_op op_sub r_sub (EO.b (eo_op op_mulD r_mul (EO.b (eo_ix ix_D r_ix (bo_var (pv 1)) (EO.b eo_int) (fun _ _ => rfl))) (EO.b (eo_ix ix_D r_ix (bo_var (pv 2)) (EO.b eo_int) (fun _ _ => rfl))))) (EO.b (eo_op op_mulD r_mul (EO.b (eo_ix ix_D r_ix (bo_var (pv 2)) (EO.b eo_int) (fun _ _ => rfl))) (EO.b (eo_ix ix_D r_ix (bo_var (pv 1)) (EO.b eo_int) (fun _ _ => rfl))))))))))) (ss_one (s_ret (eo_calC C_sign _ hr (by decide) (by rfl) (ac (eo_var (pv 3)) ao_nil) (dCons_len dNil_len)))))))
abbrev s_belongs : Stmt := top 7
theorem sc_belongs : FnScope ["shape", "one", "a", "b"] ["shape", "one"] (defScope s_belongs) := ⟨rfl, rfl, rfl, by decide +kernel, rfl, by decide +kernel, by decide +kernel⟩
set_option maxHeartbeats 4000000 in
theorem ok_belongs {P : Program} {w : World} {K : PySem.W.Frag} {mg : Str → Option Value} {base : Heap} {m_turn : DFn} {m_edges : DFn} (C_turn : Cal P w K mg base 2 "turn" ["a", "b", "c"] m_turn) (C_edges : Cal P w K mg base 2 "edges" ["corners"] m_edges) {f : Addr} {fd : FuncData} (B : Blt mg) (F : Fun K "belongs" "belongs" s_belongs f fd) (hm : mg "belongs" = some (.ref f)) (hb : Binds K fd ["shape", "one"] []) : Cal P w K mg base 3 "belongs" ["shape", "one"] (f_belongs m_turn m_edges) :=
  cal_of F hm hb sc_belongs fun cdv A outer s H E g hr =>
    have nd := sc_belongs.nd
    (ss_cons (s_for PassesOwn.never rfl (eo_calC C_edges _ hr (by decide) (by rfl) (ac (eo_var (pv 0)) ao_nil) (dCons_len dNil_len)) (g_tup rfl (gs_cons (g_name (pg_name (i := 2) nd rfl (by first | exact Or.inl rfl | exact Or.inr rfl))) (gs_cons (g_name (pg_name (i := 3) nd rfl (by first | exact Or.inl rfl | exact Or.inr rfl))) gs_nil))) (ss_one (s_if (to_cmp (op_eqD (u64 hr)) r_eq (EO.b (eo_calC C_turn _ hr (by decide) (by rfl) (ac (eo_var (pv 2)) (ac (eo_var (pv 3)) (ac (eo_var (pv 1)) ao_nil))) (dCons_len (dCons_len (dCons_len dNil_len))))) (EO.b (eo_un un_neg r_neg (EO.b eo_int))) (nomark _)) (ss_one (s_ret eo_bl)) ss_nil))) (ss_one (s_ret eo_bl)))
abbrev s_in_area : Stmt := top 9
theorem sc_in_area : FnScope ["shapes", "one", "shape"] ["shapes", "one"] (defScope s_in_area) := ⟨rfl, rfl, rfl, by decide +kernel, rfl, by decide +kernel, by decide +kernel⟩
set_option maxHeartbeats 4000000 in
theorem ok_in_area {P : Program} {w : World} {K : PySem.W.Frag} {mg : Str → Option Value} {base : Heap} {m_belongs : DFn} (C_belongs : Cal P w K mg base 3 "belongs" ["shape", "one"] m_belongs) {f : Addr} {fd : FuncData} (B : Blt mg) (F : Fun K "in_area" "in_area" s_in_area f fd) (hm : mg "in_area" = some (.ref f)) (hb : Binds K fd ["shapes", "one"] []) : Cal P w K mg base 4 "in_area" ["shapes", "one"] (f_in_area m_belongs) :=
  cal_of F hm hb sc_in_area fun cdv A outer s H E g hr =>
    have nd := sc_in_area.nd
    (ss_cons (s_for PassesOwn.never rfl (eo_var (pv 0)) (g_name (pg_name (i := 2) nd rfl (by first | exact Or.inl rfl | exact Or.inr rfl))) (ss_one (s_if (to_truth (EO.b (eo_calC C_belongs _ hr (by decide) (by rfl) (ac (eo_var (pv 2)) (ac (eo_var (pv 1)) ao_nil)) (dCons_len (dCons_len dNil_len))))) (ss_one (s_ret eo_bl)) ss_nil))) (ss_one (s_ret eo_bl)))
abbrev s_is_within : Stmt := top 8
theorem sc_is_within : FnScope ["shape", "one", "a", "b"] ["shape", "one"] (defScope s_is_within) := ⟨rfl, rfl, rfl, by decide +kernel, rfl, by decide +kernel, by decide +kernel⟩
set_option maxHeartbeats 4000000 in
theorem ok_is_within {P : Program} {w : World} {K : PySem.W.Frag} {mg : Str → Option Value} {base : Heap} {m_turn : DFn} {m_edges : DFn} (C_turn : Cal P w K mg base 2 "turn" ["a", "b", "c"] m_turn) (C_edges : Cal P w K mg base 2 "edges" ["corners"] m_edges) {f : Addr} {fd : FuncData} (B : Blt mg) (F : Fun K "is_within" "is_within" s_is_within f fd) (hm : mg "is_within" = some (.ref f)) (hb : Binds K fd ["shape", "one"] []) : Cal P w K mg base 3 "is_within" ["shape", "one"] (f_is_within m_turn m_edges) :=
  cal_of F hm hb sc_is_within fun cdv A outer s H E g hr =>
    have nd := sc_is_within.nd
    (ss_cons (s_for PassesOwn.never rfl (eo_calC C_edges _ hr (by decide) (by rfl) (ac (eo_var (pv 0)) ao_nil) (dCons_len dNil_len)) (g_tup rfl (gs_cons (g_name (pg_name (i := 2) nd rfl (by first | exact Or.inl rfl | exact Or.inr rfl))) (gs_cons (g_name (pg_name (i := 3) nd rfl (by first | exact Or.inl rfl | exact Or.inr rfl))) gs_nil))) (ss_one (s_if (to_cmp (op_neD (u64 hr)) r_ne (EO.b (eo_calC C_turn _ hr (by decide) (by rfl) (ac (eo_var (pv 2)) (ac (eo_var (pv 3)) (ac (eo_var (pv 1)) ao_nil))) (dCons_len (dCons_len (dCons_len dNil_len))))) (EO.b eo_int) (nomark _)) (ss_one (s_ret eo_bl)) ss_nil))) (ss_one (s_ret eo_bl)))
abbrev s_law : Stmt := top 31
theorem sc_law : FnScope ["_law_script", "_law_feed_here", "_law_k", "_law_shapes", "_law_kept", "_law_one", "_law_least"] ["_law_script"] (defScope s_law) := ⟨rfl, rfl, rfl, by decide +kernel, rfl, by decide +kernel, by decide +kernel⟩
set_option maxHeartbeats 4000000 in
theorem okf_law {P : Program} {w : World} {K : PySem.W.Frag} {mg : Str → Option Value} {base : Heap} {m_in_area : DFn} {m_is_within : DFn} {m_belongs : DFn} {m_law_sides : DFn} {m_law_places : DFn} {m_law_draw : DFn} {m_law_round_shape : DFn} {m_law_feed : DFn} (C_in_area : Cal P w K mg base 4 "in_area" ["shapes", "one"] m_in_area) (C_is_within : Cal P w K mg base 3 "is_within" ["shape", "one"] m_is_within) (C_belongs : Cal P w K mg base 3 "belongs" ["shape", "one"] m_belongs) (C_law_sides : Cal P w K mg base 2 "_law_sides" ["_law_shape", "_law_one"] m_law_sides) (C_law_places : Cal P w K mg base 4 "_law_places" ["_law_feed_here", "_law_shape"] m_law_places) (C_law_draw : Cal P w K mg base 1 "_law_draw" ["_law_feed_here", "_law_many"] m_law_draw) (C_law_round_shape : Cal P w K mg base 6 "_law_round_shape" ["_law_feed_here"] m_law_round_shape) (C_law_feed : Cal P w K mg base 1 "_law_feed" ["_law_script"] m_law_feed) {f : Addr} {fd : FuncData} (B : Blt mg) (F : Fun K "law" "law" s_law f fd) : FnD P w K mg base 7 f fd ["_law_script"] (f_LAWk12 m_in_area m_is_within m_belongs m_law_sides m_law_places m_law_draw m_law_round_shape m_law_feed) :=
  fn_D F sc_law fun cdv A outer s H E g hr =>
    have nd := sc_law.nd
    (ss_cons (s_set (i := 1) nd rfl (by first | exact Or.inl rfl | exact Or.inr rfl) (eo_calC C_law_feed _ hr (by decide) (by rfl) (ac (eo_var (pv 0)) ao_nil) (dCons_len dNil_len))) (ss_cons (s_for1 PassesOwn.never rfl (by rfl) B.range eo_int (g_name (pg_name (i := 2) nd rfl (by first | exact Or.inl rfl | exact Or.inr rfl))) (ss_cons (s_setC (i := 3) nd rfl (by first | exact Or.inl rfl | exact Or.inr rfl) (co_comp1 (N' := ["_law_j", "_law_feed_here"]) (idx := [1]) rfl (compOk1 (by rfl) (.cons rfl .nil) (by decide +kernel) rfl (by decide +kernel) (by rfl) (.cons rfl (by first | exact Or.inl rfl | exact Or.inr rfl) (by first | exact Or.inl rfl | exact Or.inr rfl) .nil)) (io_range1 (by rfl) B.range (eo_op op_addD r_add (EO.b eo_int) (EO.b (eo_calC C_law_draw _ hr (by decide) (by rfl) (ac (eo_var (pv 1)) (ac eo_int ao_nil)) (dCons_len (dCons_len dNil_len)))))) (fun _ _ _ _ => pg_name (i := 0) (show List.Nodup (["_law_j", "_law_feed_here"] : List Str) by decide +kernel) rfl (Or.inl rfl)) (fun _ _ _ _ _ => ifs_nil) (fun _ _ _ _ _ => (eo_calC C_law_round_shape _ hr (by decide) (by rfl) (ac (eo_var (pv 1)) ao_nil) (dCons_len dNil_len))))) (ss_cons (s_set (i := 4) nd rfl (by first | exact Or.inl rfl | exact Or.inr rfl) (eo_cb (c_repr (u66 hr) hr.gd) r_repr (by rfl) B.repr boot_repr' (bc (bo_var (pv 3)) bao_nil))) (ss_cons (s_for PassesOwn.never rfl (eo_op op_addD r_add (EO.b (eo_calC C_law_places _ hr (by decide) (by rfl) (ac (eo_var (pv 1)) (ac (eo_ix ix_D r_ix (bo_var (pv 3)) (EO.b eo_int) (fun _ _ => rfl)) ao_nil)) (dCons_len (dCons_len dNil_len)))) (EO.b (eo_calC C_law_places _ hr (by decide) (by rfl) (ac (eo_var (pv 1)) (ac (eo_ix ix_D r_ix (bo_var (pv 3)) (EO.b (eo_un un_neg r_neg (EO.b eo_int))) (fun _ _ => rfl)) ao_nil)) (dCons_len (dCons_len dNil_len))))) (g_name (pg_name (i := 5) nd rfl (by first | exact Or.inl rfl | exact Or.inr rfl))) (ss_cons (s_setC (i := 6) nd rfl (by first | exact Or.inl rfl | exact Or.inr rfl) (co_comp1 (N' := ["_law_shape", "_law_one"]) (idx := [5]) rfl (compOk1 (by rfl) (.cons rfl .nil) (by decide +kernel) rfl (by decide +kernel) (by rfl) (.cons rfl (by first | exact Or.inl rfl | exact Or.inr rfl) (by first | exact Or.inl rfl | exact Or.inr rfl) .nil)) (io_seq (eo_var (pv 3))) (fun _ _ _ _ => pg_name (i := 0) (show List.Nodup (["_law_shape", "_law_one"] : List Str) by decide +kernel) rfl (Or.inl rfl)) (fun _ _ _ _ _ => ifs_nil) (fun _ _ _ _ _ => (eo_cb (c_min rfl) r_min (by rfl) B.min boot_min' (bc (EO.b (eo_calC C_law_sides _ hr (by decide) (by rfl) (ac (eo_var (pv 0)) (ac (eo_var (pv 1)) ao_nil)) (dCons_len (dCons_len dNil_len)))) bao_nil))))) (ss_cons (s_if (to_cmp (op_neD (u64 hr)) r_ne (EO.b (eo_cb (c_repr (u66 hr) hr.gd) r_repr (by rfl) B.repr boot_repr' (bc (EO.b (FO.v (fo_comp1 (N' := ["_law_shape", "_law_one"]) (idx := [5]) rfl (compOk1 (by rfl) (.cons rfl .nil) (by decide +kernel) rfl (by decide +kernel) (by rfl) (.cons rfl (by first | exact Or.inl rfl | exact Or.inr rfl) (by first | exact Or.inl rfl | exact Or.inr rfl) .nil)) (io_seq (eo_var (pv 3))) (fun _ _ _ _ => pg_name (i := 0) (show List.Nodup (["_law_shape", "_law_one"] : List Str) by decide +kernel) rfl (Or.inl rfl)) (fun _ _ _ _ _ => ifs_nil) (fun _ _ _ _ _ => (eo_calC C_belongs _ hr (by decide) (by rfl) (ac (eo_var (pv 0)) (ac (eo_var (pv 1)) ao_nil)) (dCons_len (dCons_len dNil_len))))))) bao_nil))) (EO.b (eo_cb (c_repr (u66 hr) hr.gd) r_repr (by rfl) B.repr boot_repr' (bc (EO.b (FO.v (fo_comp1 (N' := ["_law_side"]) (idx := []) rfl (compOk1 (by rfl) .nil (by decide +kernel) rfl (by decide +kernel) (by rfl) .nil) (io_seq (eo_var (pv 6))) (fun _ _ _ _ => pg_name (i := 0) (show List.Nodup (["_law_side"] : List Str) by decide +kernel) rfl (Or.inl rfl)) (fun _ _ _ _ _ => ifs_nil) (fun _ _ _ _ _ => (eo_cmp op_ge (r_cmp (fun i j => decide (j ≤ i))) (bo_var (pv 0)) (EO.b eo_int) (nomark _)))))) bao_nil))) (nomark _)) (ss_one (s_ret eo_bl)) ss_nil) (ss_cons (s_if (to_cmp (op_neD (u64 hr)) r_ne (EO.b (eo_cb (c_repr (u66 hr) hr.gd) r_repr (by rfl) B.repr boot_repr' (bc (EO.b (FO.v (fo_comp1 (N' := ["_law_shape", "_law_one"]) (idx := [5]) rfl (compOk1 (by rfl) (.cons rfl .nil) (by decide +kernel) rfl (by decide +kernel) (by rfl) (.cons rfl (by first | exact Or.inl rfl | exact Or.inr rfl) (by first | exact Or.inl rfl | exact Or.inr rfl) .nil)) (io_seq (eo_var (pv 3))) (fun _ _ _ _ => pg_name (i := 0) (show List.Nodup (["_law_shape", "_law_one"] : List Str) by decide +kernel) rfl (Or.inl rfl)) (fun _ _ _ _ _ => ifs_nil) (fun _ _ _ _ _ => (eo_calC C_is_within _ hr (by decide) (by rfl) (ac (eo_var (pv 0)) (ac (eo_var (pv 1)) ao_nil)) (dCons_len (dCons_len dNil_len))))))) bao_nil))) (EO.b (eo_cb (c_repr (u66 hr) hr.gd) r_repr (by rfl) B.repr boot_repr' (bc (EO.b (FO.v (fo_comp1 (N' := ["_law_side"]) (idx := []) rfl (compOk1 (by rfl) .nil (by decide +kernel) rfl (by decide +kernel) (by rfl) .nil) (io_seq (eo_var (pv 6))) (fun _ _ _ _ => pg_name (i := 0) (show List.Nodup (["_law_side"] : List Str) by decide +kernel) rfl (Or.inl rfl)) (fun _ _ _ _ _ => ifs_nil) (fun _ _ _ _ _ => (eo_cmp op_gt (r_cmp (fun i j => decide (j < i))) (bo_var (pv 0)) (EO.b eo_int) (nomark _)))))) bao_nil))) (nomark _)) (ss_one (s_ret eo_bl)) ss_nil) (ss_one (s_if (WO.t (wo_or (to_cmp (op_neD (u64 hr)) r_ne (EO.b (eo_cb (c_repr (u66 hr) hr.gd) r_repr (by rfl) B.repr boot_repr' (bc (EO.b (eo_calC C_in_area _ hr (by decide) (by rfl) (ac (eo_cty call_tuple_of r_tuple (by rfl) B.tuple boot_tuple' (bc (bo_var (pv 3)) bao_nil)) (ac (eo_var (pv 5)) ao_nil)) (dCons_len (dCons_len dNil_len)))) bao_nil))) (EO.b (eo_cb (c_repr (u66 hr) hr.gd) r_repr (by rfl) B.repr boot_repr' (bc (EO.b (eo_cmp op_ge (r_cmp (fun i j => decide (j ≤ i))) (EO.b (eo_cb (c_max rfl) r_max (by rfl) B.max boot_max' (bc (bo_var (pv 6)) bao_nil))) (EO.b eo_int) (nomark _))) bao_nil))) (nomark _)) (wo_or1 (to_cmp op_notB r_isNotB (EO.b (eo_calC C_in_area _ hr (by decide) (by rfl) (ac (eo_tup ao_nil) (ac (eo_var (pv 5)) ao_nil)) (dCons_len (dCons_len dNil_len)))) (EO.b eo_bl) (nomark _))))) (ss_one (s_ret eo_bl)) ss_nil)))))) (ss_one (s_if (to_cmp (op_neD (u64 hr)) r_ne (EO.b (eo_cb (c_repr (u66 hr) hr.gd) r_repr (by rfl) B.repr boot_repr' (bc (bo_var (pv 3)) bao_nil))) (bo_var (pv 4)) (nomark _)) (ss_one (s_ret eo_bl)) ss_nil)))))) (ss_one (s_ret eo_bl))))
end T

namespace T
open PySem PySem.Spec L2 DL
noncomputable abbrev whole : DFn := (f_LAWk12 (f_in_area (f_belongs (f_turn f_sign) (f_edges f_neighbours))) (f_is_within (f_turn f_sign) (f_edges f_neighbours)) (f_belongs (f_turn f_sign) (f_edges f_neighbours)) (f_law_sides f_law_turn) (f_law_places (f_law_gone (f_law_at f_law_fraction) (f_law_sum f_law_fraction) (f_law_xy f_law_fraction)) f_law_fraction f_law_draw (f_law_half_way (f_law_at f_law_fraction) (f_law_product f_law_fraction) (f_law_sum f_law_fraction) (f_law_xy f_law_fraction)) (f_law_place (f_law_at f_law_fraction) (f_law_number f_law_fraction f_law_draw))) f_law_draw (f_law_round_shape (f_law_hull (f_law_farther (f_law_sum f_law_fraction) f_law_minus (f_law_squared (f_law_sum f_law_fraction) (f_law_product f_law_fraction) f_law_minus (f_law_xy f_law_fraction)) f_law_turn) f_law_lesser) (f_law_gone (f_law_at f_law_fraction) (f_law_sum f_law_fraction) (f_law_xy f_law_fraction)) (f_law_product f_law_fraction) f_law_fraction f_law_draw f_law_turn (f_law_place (f_law_at f_law_fraction) (f_law_number f_law_fraction f_law_draw))) f_law_feed)
theorem on1 {α : Type _} {P : List α → Prop} (h : ∀ a1 : α, P [a1]) : ∀ us : List α, us.length = 1 → P us := by
  intro us e
  match us, e with | [a1], _ => exact h a1
theorem on2 {α : Type _} {P : List α → Prop} (h : ∀ a1 a2 : α, P [a1, a2]) : ∀ us : List α, us.length = 2 → P us := by
  intro us e
  match us, e with | [a1, a2], _ => exact h a1 a2
theorem on3 {α : Type _} {P : List α → Prop} (h : ∀ a1 a2 a3 : α, P [a1, a2, a3]) : ∀ us : List α, us.length = 3 → P us := by
  intro us e
  match us, e with | [a1, a2, a3], _ => exact h a1 a2 a3
set_option maxHeartbeats 4000000 in
theorem all_mk {l : PySem.W.OpenLaw} {w : World} {K : PySem.W.Frag} {h : Heap} {mg : Str → Option Value} {fa : Addr} (X : K.In h) (G : h.Ns mainGlobals mg) (hfa : mg "law" = some (.ref fa)) {f1 f2 f3 f4 f5 f6 f7 f8 f9 f10 f11 f12 f13 f14 f15 f16 f17 f18 f19 f20 f21 f22 f23 f24 f25 f26 f27 f28 : Addr} {od1 an1 od2 an2 od3 an3 od4 an4 od5 an5 od6 an6 od7 an7 od8 an8 od9 an9 od10 an10 od11 an11 od12 an12 od13 an13 od14 an14 od15 an15 od16 an16 od17 an17 od18 an18 od19 an19 od20 an20 od21 an21 od22 an22 od23 an23 od24 an24 od25 an25 od26 an26 od27 an27 od28 an28 : Option Addr} {sl1 sl2 sl3 sl4 sl5 sl6 sl7 sl8 sl9 sl10 sl11 sl12 sl13 sl14 sl15 sl16 sl17 sl18 sl19 sl20 sl21 sl22 sl23 sl24 sl25 sl26 sl27 sl28 : Array (Option Value)} {oc1 kV1 dc1 pm1 cd1 ct1 oc2 kV2 dc2 pm2 cd2 ct2 oc3 kV3 dc3 pm3 cd3 ct3 oc4 kV4 dc4 pm4 cd4 ct4 oc5 kV5 dc5 pm5 cd5 ct5 oc6 kV6 dc6 pm6 cd6 ct6 oc7 kV7 dc7 pm7 cd7 ct7 oc8 kV8 dc8 pm8 cd8 ct8 oc9 kV9 dc9 pm9 cd9 ct9 oc10 kV10 dc10 pm10 cd10 ct10 oc11 kV11 dc11 pm11 cd11 ct11 oc12 kV12 dc12 pm12 cd12 ct12 oc13 kV13 dc13 pm13 cd13 ct13 oc14 kV14 dc14 pm14 cd14 ct14 oc15 kV15 dc15 pm15 cd15 ct15 oc16 kV16 dc16 pm16 cd16 ct16 oc17 kV17 dc17 pm17 cd17 ct17 oc18 kV18 dc18 pm18 cd18 ct18 oc19 kV19 dc19 pm19 cd19 ct19 oc20 kV20 dc20 pm20 cd20 ct20 oc21 kV21 dc21 pm21 cd21 ct21 oc22 kV22 dc22 pm22 cd22 ct22 oc23 kV23 dc23 pm23 cd23 ct23 oc24 kV24 dc24 pm24 cd24 ct24 oc25 kV25 dc25 pm25 cd25 ct25 oc26 kV26 dc26 pm26 cd26 ct26 oc27 kV27 dc27 pm27 cd27 ct27 oc28 kV28 dc28 pm28 cd28 ct28 : Value} 
    (a1 : PySem.W.nsIn K mainGlobals "_law_feed" = some (some (.ref f1))) (l1 : K.lookup f1 = some ⟨oc1, od1, .func (PySem.W.fnOf "_law_feed" "_law_feed" (defArgs s_law_feed) (defBody s_law_feed) (defScope s_law_feed) .none kV1 dc1 pm1 an1 cd1 ct1), sl1⟩) (c1 : PySem.W.codeIn K cd1 "_law_feed" = true) (k1 : PySem.W.keepIn K (.ref f1) = true)
    (a2 : PySem.W.nsIn K mainGlobals "_law_fraction" = some (some (.ref f2))) (l2 : K.lookup f2 = some ⟨oc2, od2, .func (PySem.W.fnOf "_law_fraction" "_law_fraction" (defArgs s_law_fraction) (defBody s_law_fraction) (defScope s_law_fraction) .none kV2 dc2 pm2 an2 cd2 ct2), sl2⟩) (c2 : PySem.W.codeIn K cd2 "_law_fraction" = true) (k2 : PySem.W.keepIn K (.ref f2) = true)
    (a3 : PySem.W.nsIn K mainGlobals "_law_lesser" = some (some (.ref f3))) (l3 : K.lookup f3 = some ⟨oc3, od3, .func (PySem.W.fnOf "_law_lesser" "_law_lesser" (defArgs s_law_lesser) (defBody s_law_lesser) (defScope s_law_lesser) .none kV3 dc3 pm3 an3 cd3 ct3), sl3⟩) (c3 : PySem.W.codeIn K cd3 "_law_lesser" = true) (k3 : PySem.W.keepIn K (.ref f3) = true)
    (a4 : PySem.W.nsIn K mainGlobals "_law_turn" = some (some (.ref f4))) (l4 : K.lookup f4 = some ⟨oc4, od4, .func (PySem.W.fnOf "_law_turn" "_law_turn" (defArgs s_law_turn) (defBody s_law_turn) (defScope s_law_turn) .none kV4 dc4 pm4 an4 cd4 ct4), sl4⟩) (c4 : PySem.W.codeIn K cd4 "_law_turn" = true) (k4 : PySem.W.keepIn K (.ref f4) = true)
    (a5 : PySem.W.nsIn K mainGlobals "_law_sum" = some (some (.ref f5))) (l5 : K.lookup f5 = some ⟨oc5, od5, .func (PySem.W.fnOf "_law_sum" "_law_sum" (defArgs s_law_sum) (defBody s_law_sum) (defScope s_law_sum) .none kV5 dc5 pm5 an5 cd5 ct5), sl5⟩) (c5 : PySem.W.codeIn K cd5 "_law_sum" = true) (k5 : PySem.W.keepIn K (.ref f5) = true)
    (a6 : PySem.W.nsIn K mainGlobals "_law_minus" = some (some (.ref f6))) (l6 : K.lookup f6 = some ⟨oc6, od6, .func (PySem.W.fnOf "_law_minus" "_law_minus" (defArgs s_law_minus) (defBody s_law_minus) (defScope s_law_minus) .none kV6 dc6 pm6 an6 cd6 ct6), sl6⟩) (c6 : PySem.W.codeIn K cd6 "_law_minus" = true) (k6 : PySem.W.keepIn K (.ref f6) = true)
    (a7 : PySem.W.nsIn K mainGlobals "_law_product" = some (some (.ref f7))) (l7 : K.lookup f7 = some ⟨oc7, od7, .func (PySem.W.fnOf "_law_product" "_law_product" (defArgs s_law_product) (defBody s_law_product) (defScope s_law_product) .none kV7 dc7 pm7 an7 cd7 ct7), sl7⟩) (c7 : PySem.W.codeIn K cd7 "_law_product" = true) (k7 : PySem.W.keepIn K (.ref f7) = true)
    (a8 : PySem.W.nsIn K mainGlobals "_law_xy" = some (some (.ref f8))) (l8 : K.lookup f8 = some ⟨oc8, od8, .func (PySem.W.fnOf "_law_xy" "_law_xy" (defArgs s_law_xy) (defBody s_law_xy) (defScope s_law_xy) .none kV8 dc8 pm8 an8 cd8 ct8), sl8⟩) (c8 : PySem.W.codeIn K cd8 "_law_xy" = true) (k8 : PySem.W.keepIn K (.ref f8) = true)
    (a9 : PySem.W.nsIn K mainGlobals "_law_squared" = some (some (.ref f9))) (l9 : K.lookup f9 = some ⟨oc9, od9, .func (PySem.W.fnOf "_law_squared" "_law_squared" (defArgs s_law_squared) (defBody s_law_squared) (defScope s_law_squared) .none kV9 dc9 pm9 an9 cd9 ct9), sl9⟩) (c9 : PySem.W.codeIn K cd9 "_law_squared" = true) (k9 : PySem.W.keepIn K (.ref f9) = true)
    (a10 : PySem.W.nsIn K mainGlobals "_law_farther" = some (some (.ref f10))) (l10 : K.lookup f10 = some ⟨oc10, od10, .func (PySem.W.fnOf "_law_farther" "_law_farther" (defArgs s_law_farther) (defBody s_law_farther) (defScope s_law_farther) .none kV10 dc10 pm10 an10 cd10 ct10), sl10⟩) (c10 : PySem.W.codeIn K cd10 "_law_farther" = true) (k10 : PySem.W.keepIn K (.ref f10) = true)
    (a11 : PySem.W.nsIn K mainGlobals "_law_hull" = some (some (.ref f11))) (l11 : K.lookup f11 = some ⟨oc11, od11, .func (PySem.W.fnOf "_law_hull" "_law_hull" (defArgs s_law_hull) (defBody s_law_hull) (defScope s_law_hull) .none kV11 dc11 pm11 an11 cd11 ct11), sl11⟩) (c11 : PySem.W.codeIn K cd11 "_law_hull" = true) (k11 : PySem.W.keepIn K (.ref f11) = true)
    (a12 : PySem.W.nsIn K mainGlobals "_law_at" = some (some (.ref f12))) (l12 : K.lookup f12 = some ⟨oc12, od12, .func (PySem.W.fnOf "_law_at" "_law_at" (defArgs s_law_at) (defBody s_law_at) (defScope s_law_at) .none kV12 dc12 pm12 an12 cd12 ct12), sl12⟩) (c12 : PySem.W.codeIn K cd12 "_law_at" = true) (k12 : PySem.W.keepIn K (.ref f12) = true)
    (a13 : PySem.W.nsIn K mainGlobals "_law_draw" = some (some (.ref f13))) (l13 : K.lookup f13 = some ⟨oc13, od13, .func (PySem.W.fnOf "_law_draw" "_law_draw" (defArgs s_law_draw) (defBody s_law_draw) (defScope s_law_draw) .none kV13 dc13 pm13 an13 cd13 ct13), sl13⟩) (c13 : PySem.W.codeIn K cd13 "_law_draw" = true) (k13 : PySem.W.keepIn K (.ref f13) = true)
    (a14 : PySem.W.nsIn K mainGlobals "_law_number" = some (some (.ref f14))) (l14 : K.lookup f14 = some ⟨oc14, od14, .func (PySem.W.fnOf "_law_number" "_law_number" (defArgs s_law_number) (defBody s_law_number) (defScope s_law_number) .none kV14 dc14 pm14 an14 cd14 ct14), sl14⟩) (c14 : PySem.W.codeIn K cd14 "_law_number" = true) (k14 : PySem.W.keepIn K (.ref f14) = true)
    (a15 : PySem.W.nsIn K mainGlobals "_law_place" = some (some (.ref f15))) (l15 : K.lookup f15 = some ⟨oc15, od15, .func (PySem.W.fnOf "_law_place" "_law_place" (defArgs s_law_place) (defBody s_law_place) (defScope s_law_place) .none kV15 dc15 pm15 an15 cd15 ct15), sl15⟩) (c15 : PySem.W.codeIn K cd15 "_law_place" = true) (k15 : PySem.W.keepIn K (.ref f15) = true)
    (a16 : PySem.W.nsIn K mainGlobals "_law_gone" = some (some (.ref f16))) (l16 : K.lookup f16 = some ⟨oc16, od16, .func (PySem.W.fnOf "_law_gone" "_law_gone" (defArgs s_law_gone) (defBody s_law_gone) (defScope s_law_gone) .none kV16 dc16 pm16 an16 cd16 ct16), sl16⟩) (c16 : PySem.W.codeIn K cd16 "_law_gone" = true) (k16 : PySem.W.keepIn K (.ref f16) = true)
    (a17 : PySem.W.nsIn K mainGlobals "_law_round_shape" = some (some (.ref f17))) (l17 : K.lookup f17 = some ⟨oc17, od17, .func (PySem.W.fnOf "_law_round_shape" "_law_round_shape" (defArgs s_law_round_shape) (defBody s_law_round_shape) (defScope s_law_round_shape) .none kV17 dc17 pm17 an17 cd17 ct17), sl17⟩) (c17 : PySem.W.codeIn K cd17 "_law_round_shape" = true) (k17 : PySem.W.keepIn K (.ref f17) = true)
    (a18 : PySem.W.nsIn K mainGlobals "_law_half_way" = some (some (.ref f18))) (l18 : K.lookup f18 = some ⟨oc18, od18, .func (PySem.W.fnOf "_law_half_way" "_law_half_way" (defArgs s_law_half_way) (defBody s_law_half_way) (defScope s_law_half_way) .none kV18 dc18 pm18 an18 cd18 ct18), sl18⟩) (c18 : PySem.W.codeIn K cd18 "_law_half_way" = true) (k18 : PySem.W.keepIn K (.ref f18) = true)
    (a19 : PySem.W.nsIn K mainGlobals "_law_places" = some (some (.ref f19))) (l19 : K.lookup f19 = some ⟨oc19, od19, .func (PySem.W.fnOf "_law_places" "_law_places" (defArgs s_law_places) (defBody s_law_places) (defScope s_law_places) .none kV19 dc19 pm19 an19 cd19 ct19), sl19⟩) (c19 : PySem.W.codeIn K cd19 "_law_places" = true) (k19 : PySem.W.keepIn K (.ref f19) = true)
    (a20 : PySem.W.nsIn K mainGlobals "_law_sides" = some (some (.ref f20))) (l20 : K.lookup f20 = some ⟨oc20, od20, .func (PySem.W.fnOf "_law_sides" "_law_sides" (defArgs s_law_sides) (defBody s_law_sides) (defScope s_law_sides) .none kV20 dc20 pm20 an20 cd20 ct20), sl20⟩) (c20 : PySem.W.codeIn K cd20 "_law_sides" = true) (k20 : PySem.W.keepIn K (.ref f20) = true)
    (a21 : PySem.W.nsIn K mainGlobals "neighbours" = some (some (.ref f21))) (l21 : K.lookup f21 = some ⟨oc21, od21, .func (PySem.W.fnOf "neighbours" "neighbours" (defArgs s_neighbours) (defBody s_neighbours) (defScope s_neighbours) .none kV21 dc21 pm21 an21 cd21 ct21), sl21⟩) (c21 : PySem.W.codeIn K cd21 "neighbours" = true) (k21 : PySem.W.keepIn K (.ref f21) = true)
    (a22 : PySem.W.nsIn K mainGlobals "edges" = some (some (.ref f22))) (l22 : K.lookup f22 = some ⟨oc22, od22, .func (PySem.W.fnOf "edges" "edges" (defArgs s_edges) (defBody s_edges) (defScope s_edges) .none kV22 dc22 pm22 an22 cd22 ct22), sl22⟩) (c22 : PySem.W.codeIn K cd22 "edges" = true) (k22 : PySem.W.keepIn K (.ref f22) = true)
    (a23 : PySem.W.nsIn K mainGlobals "sign" = some (some (.ref f23))) (l23 : K.lookup f23 = some ⟨oc23, od23, .func (PySem.W.fnOf "sign" "sign" (defArgs s_sign) (defBody s_sign) (defScope s_sign) .none kV23 dc23 pm23 an23 cd23 ct23), sl23⟩) (c23 : PySem.W.codeIn K cd23 "sign" = true) (k23 : PySem.W.keepIn K (.ref f23) = true)
    (a24 : PySem.W.nsIn K mainGlobals "turn" = some (some (.ref f24))) (l24 : K.lookup f24 = some ⟨oc24, od24, .func (PySem.W.fnOf "turn" "turn" (defArgs s_turn) (defBody s_turn) (defScope s_turn) .none kV24 dc24 pm24 an24 cd24 ct24), sl24⟩) (c24 : PySem.W.codeIn K cd24 "turn" = true) (k24 : PySem.W.keepIn K (.ref f24) = true)
    (a25 : PySem.W.nsIn K mainGlobals "belongs" = some (some (.ref f25))) (l25 : K.lookup f25 = some ⟨oc25, od25, .func (PySem.W.fnOf "belongs" "belongs" (defArgs s_belongs) (defBody s_belongs) (defScope s_belongs) .none kV25 dc25 pm25 an25 cd25 ct25), sl25⟩) (c25 : PySem.W.codeIn K cd25 "belongs" = true) (k25 : PySem.W.keepIn K (.ref f25) = true)
    (a26 : PySem.W.nsIn K mainGlobals "in_area" = some (some (.ref f26))) (l26 : K.lookup f26 = some ⟨oc26, od26, .func (PySem.W.fnOf "in_area" "in_area" (defArgs s_in_area) (defBody s_in_area) (defScope s_in_area) .none kV26 dc26 pm26 an26 cd26 ct26), sl26⟩) (c26 : PySem.W.codeIn K cd26 "in_area" = true) (k26 : PySem.W.keepIn K (.ref f26) = true)
    (a27 : PySem.W.nsIn K mainGlobals "is_within" = some (some (.ref f27))) (l27 : K.lookup f27 = some ⟨oc27, od27, .func (PySem.W.fnOf "is_within" "is_within" (defArgs s_is_within) (defBody s_is_within) (defScope s_is_within) .none kV27 dc27 pm27 an27 cd27 ct27), sl27⟩) (c27 : PySem.W.codeIn K cd27 "is_within" = true) (k27 : PySem.W.keepIn K (.ref f27) = true)
    (a28 : PySem.W.nsIn K mainGlobals "law" = some (some (.ref f28))) (l28 : K.lookup f28 = some ⟨oc28, od28, .func (PySem.W.fnOf "law" "law" (defArgs s_law) (defBody s_law) (defScope s_law) .none kV28 dc28 pm28 an28 cd28 ct28), sl28⟩) (c28 : PySem.W.codeIn K cd28 "law" = true) (k28 : PySem.W.keepIn K (.ref f28) = true)
    (z_len : PySem.W.nsIn K mainGlobals "len" = some none)
    (z_range : PySem.W.nsIn K mainGlobals "range" = some none)
    (z_abs : PySem.W.nsIn K mainGlobals "abs" = some none)
    (z_tuple : PySem.W.nsIn K mainGlobals "tuple" = some none)
    (z_list : PySem.W.nsIn K mainGlobals "list" = some none)
    (z_int : PySem.W.nsIn K mainGlobals "int" = some none)
    (z_bool : PySem.W.nsIn K mainGlobals "bool" = some none)
    (z_str : PySem.W.nsIn K mainGlobals "str" = some none)
    (z_repr : PySem.W.nsIn K mainGlobals "repr" = some none)
    (z_all : PySem.W.nsIn K mainGlobals "all" = some none)
    (z_isinstance : PySem.W.nsIn K mainGlobals "isinstance" = some none)
    (z_zip : PySem.W.nsIn K mainGlobals "zip" = some none)
    (z_enumerate : PySem.W.nsIn K mainGlobals "enumerate" = some none)
    (z_min : PySem.W.nsIn K mainGlobals "min" = some none)
    (z_max : PySem.W.nsIn K mainGlobals "max" = some none)
    (z_reversed : PySem.W.nsIn K mainGlobals "reversed" = some none)
    (z_any : PySem.W.nsIn K mainGlobals "any" = some none)
    (z_sum : PySem.W.nsIn K mainGlobals "sum" = some none)
    (z_sorted : PySem.W.nsIn K mainGlobals "sorted" = some none) :
    ∃ fd : FuncData, (∀ (s : Shared) (v : Value), BindsTo s fd ⟨[v], []⟩ [("_law_script", v)]) ∧ ∀ base : Heap, K.In base → base.Ns mainGlobals mg → FnOk l.prog w K mg base CX0 7 fa fd ["_law_script"] (spD K 1 whole) := by
  have e := hfa.symm.trans (PySem.W.mg_of X G a28)
  cases e
  have B : Blt mg := ⟨PySem.W.mg_none_of X G z_len, PySem.W.mg_none_of X G z_range, PySem.W.mg_none_of X G z_abs, PySem.W.mg_none_of X G z_tuple, PySem.W.mg_none_of X G z_list, PySem.W.mg_none_of X G z_int, PySem.W.mg_none_of X G z_bool, PySem.W.mg_none_of X G z_str, PySem.W.mg_none_of X G z_repr, PySem.W.mg_none_of X G z_all, PySem.W.mg_none_of X G z_isinstance, PySem.W.mg_none_of X G z_zip, PySem.W.mg_none_of X G z_enumerate, PySem.W.mg_none_of X G z_min, PySem.W.mg_none_of X G z_max, PySem.W.mg_none_of X G z_reversed, PySem.W.mg_none_of X G z_any, PySem.W.mg_none_of X G z_sum, PySem.W.mg_none_of X G z_sorted⟩
  have F1 := fun_mk (st := s_law_feed) l1 c1 k1
  have b1 := F1.binds (ps := ["_law_script"]) fun _ _ _ _ _ _ => on1 fun _ => rfl
  have F2 := fun_mk (st := s_law_fraction) l2 c2 k2
  have b2 := F2.binds (ps := ["_law_top", "_law_bottom"]) fun _ _ _ _ _ _ => on2 fun _ _ => rfl
  have F3 := fun_mk (st := s_law_lesser) l3 c3 k3
  have b3 := F3.binds (ps := ["_law_one", "_law_other"]) fun _ _ _ _ _ _ => on2 fun _ _ => rfl
  have F4 := fun_mk (st := s_law_turn) l4 c4 k4
  have b4 := F4.binds (ps := ["_law_a", "_law_b", "_law_c"]) fun _ _ _ _ _ _ => on3 fun _ _ _ => rfl
  have F5 := fun_mk (st := s_law_sum) l5 c5 k5
  have b5 := F5.binds (ps := ["_law_one", "_law_other"]) fun _ _ _ _ _ _ => on2 fun _ _ => rfl
  have F6 := fun_mk (st := s_law_minus) l6 c6 k6
  have b6 := F6.binds (ps := ["_law_one"]) fun _ _ _ _ _ _ => on1 fun _ => rfl
  have F7 := fun_mk (st := s_law_product) l7 c7 k7
  have b7 := F7.binds (ps := ["_law_one", "_law_other"]) fun _ _ _ _ _ _ => on2 fun _ _ => rfl
  have F8 := fun_mk (st := s_law_xy) l8 c8 k8
  have b8 := F8.binds (ps := ["_law_one"]) fun _ _ _ _ _ _ => on1 fun _ => rfl
  have F9 := fun_mk (st := s_law_squared) l9 c9 k9
  have b9 := F9.binds (ps := ["_law_a", "_law_b"]) fun _ _ _ _ _ _ => on2 fun _ _ => rfl
  have F10 := fun_mk (st := s_law_farther) l10 c10 k10
  have b10 := F10.binds (ps := ["_law_here", "_law_best", "_law_one"]) fun _ _ _ _ _ _ => on3 fun _ _ _ => rfl
  have F11 := fun_mk (st := s_law_hull) l11 c11 k11
  have b11 := F11.binds (ps := ["_law_some"]) fun _ _ _ _ _ _ => on1 fun _ => rfl
  have F12 := fun_mk (st := s_law_at) l12 c12 k12
  have b12 := F12.binds (ps := ["_law_x", "_law_y"]) fun _ _ _ _ _ _ => on2 fun _ _ => rfl
  have F13 := fun_mk (st := s_law_draw) l13 c13 k13
  have b13 := F13.binds (ps := ["_law_feed_here", "_law_many"]) fun _ _ _ _ _ _ => on2 fun _ _ => rfl
  have F14 := fun_mk (st := s_law_number) l14 c14 k14
  have b14 := F14.binds (ps := ["_law_feed_here"]) fun _ _ _ _ _ _ => on1 fun _ => rfl
  have F15 := fun_mk (st := s_law_place) l15 c15 k15
  have b15 := F15.binds (ps := ["_law_feed_here"]) fun _ _ _ _ _ _ => on1 fun _ => rfl
  have F16 := fun_mk (st := s_law_gone) l16 c16 k16
  have b16 := F16.binds (ps := ["_law_one", "_law_x", "_law_y"]) fun _ _ _ _ _ _ => on3 fun _ _ _ => rfl
  have F17 := fun_mk (st := s_law_round_shape) l17 c17 k17
  have b17 := F17.binds (ps := ["_law_feed_here"]) fun _ _ _ _ _ _ => on1 fun _ => rfl
  have F18 := fun_mk (st := s_law_half_way) l18 c18 k18
  have b18 := F18.binds (ps := ["_law_a", "_law_b"]) fun _ _ _ _ _ _ => on2 fun _ _ => rfl
  have F19 := fun_mk (st := s_law_places) l19 c19 k19
  have b19 := F19.binds (ps := ["_law_feed_here", "_law_shape"]) fun _ _ _ _ _ _ => on2 fun _ _ => rfl
  have F20 := fun_mk (st := s_law_sides) l20 c20 k20
  have b20 := F20.binds (ps := ["_law_shape", "_law_one"]) fun _ _ _ _ _ _ => on2 fun _ _ => rfl
  have F21 := fun_mk (st := s_neighbours) l21 c21 k21
  have b21 := F21.binds (ps := ["row", "closed"]) fun _ _ _ _ _ _ => on2 fun _ _ => rfl
  have F22 := fun_mk (st := s_edges) l22 c22 k22
  have b22 := F22.binds (ps := ["corners"]) fun _ _ _ _ _ _ => on1 fun _ => rfl
  have F23 := fun_mk (st := s_sign) l23 c23 k23
  have b23 := F23.binds (ps := ["number"]) fun _ _ _ _ _ _ => on1 fun _ => rfl
  have F24 := fun_mk (st := s_turn) l24 c24 k24
  have b24 := F24.binds (ps := ["a", "b", "c"]) fun _ _ _ _ _ _ => on3 fun _ _ _ => rfl
  have F25 := fun_mk (st := s_belongs) l25 c25 k25
  have b25 := F25.binds (ps := ["shape", "one"]) fun _ _ _ _ _ _ => on2 fun _ _ => rfl
  have F26 := fun_mk (st := s_in_area) l26 c26 k26
  have b26 := F26.binds (ps := ["shapes", "one"]) fun _ _ _ _ _ _ => on2 fun _ _ => rfl
  have F27 := fun_mk (st := s_is_within) l27 c27 k27
  have b27 := F27.binds (ps := ["shape", "one"]) fun _ _ _ _ _ _ => on2 fun _ _ => rfl
  have F28 := fun_mk (st := s_law) l28 c28 k28
  refine ⟨PySem.W.fnOf "law" "law" (defArgs s_law) (defBody s_law) (defScope s_law) .none kV28 dc28 pm28 an28 cd28 ct28, fun s v => .of_eq rfl, fun base _ _ => ?_⟩
  have C_law_feed := ok_law_feed (P := l.prog) (w := w) (base := base) B F1 (PySem.W.mg_of X G a1) b1
  have C_law_fraction := ok_law_fraction (P := l.prog) (w := w) (base := base) B F2 (PySem.W.mg_of X G a2) b2
  have C_law_lesser := ok_law_lesser (P := l.prog) (w := w) (base := base) B F3 (PySem.W.mg_of X G a3) b3
  have C_law_turn := ok_law_turn (P := l.prog) (w := w) (base := base) B F4 (PySem.W.mg_of X G a4) b4
  have C_law_sum := ok_law_sum (P := l.prog) (w := w) (base := base) C_law_fraction B F5 (PySem.W.mg_of X G a5) b5
  have C_law_minus := ok_law_minus (P := l.prog) (w := w) (base := base) B F6 (PySem.W.mg_of X G a6) b6
  have C_law_product := ok_law_product (P := l.prog) (w := w) (base := base) C_law_fraction B F7 (PySem.W.mg_of X G a7) b7
  have C_law_xy := ok_law_xy (P := l.prog) (w := w) (base := base) C_law_fraction B F8 (PySem.W.mg_of X G a8) b8
  have C_law_squared := ok_law_squared (P := l.prog) (w := w) (base := base) C_law_sum C_law_product C_law_minus C_law_xy B F9 (PySem.W.mg_of X G a9) b9
  have C_law_farther := ok_law_farther (P := l.prog) (w := w) (base := base) C_law_sum C_law_minus C_law_squared C_law_turn B F10 (PySem.W.mg_of X G a10) b10
  have C_law_hull := ok_law_hull (P := l.prog) (w := w) (base := base) C_law_farther C_law_lesser B F11 (PySem.W.mg_of X G a11) b11
  have C_law_at := ok_law_at (P := l.prog) (w := w) (base := base) C_law_fraction B F12 (PySem.W.mg_of X G a12) b12
  have C_law_draw := ok_law_draw (P := l.prog) (w := w) (base := base) B F13 (PySem.W.mg_of X G a13) b13
  have C_law_number := ok_law_number (P := l.prog) (w := w) (base := base) C_law_fraction C_law_draw B F14 (PySem.W.mg_of X G a14) b14
  have C_law_place := ok_law_place (P := l.prog) (w := w) (base := base) C_law_at C_law_number B F15 (PySem.W.mg_of X G a15) b15
  have C_law_gone := ok_law_gone (P := l.prog) (w := w) (base := base) C_law_at C_law_sum C_law_xy B F16 (PySem.W.mg_of X G a16) b16
  have C_law_round_shape := ok_law_round_shape (P := l.prog) (w := w) (base := base) C_law_hull C_law_gone C_law_product C_law_fraction C_law_draw C_law_turn C_law_place B F17 (PySem.W.mg_of X G a17) b17
  have C_law_half_way := ok_law_half_way (P := l.prog) (w := w) (base := base) C_law_at C_law_product C_law_sum C_law_xy B F18 (PySem.W.mg_of X G a18) b18
  have C_law_places := ok_law_places (P := l.prog) (w := w) (base := base) C_law_gone C_law_fraction C_law_draw C_law_half_way C_law_place B F19 (PySem.W.mg_of X G a19) b19
  have C_law_sides := ok_law_sides (P := l.prog) (w := w) (base := base) C_law_turn B F20 (PySem.W.mg_of X G a20) b20
  have C_neighbours := ok_neighbours (P := l.prog) (w := w) (base := base) B F21 (PySem.W.mg_of X G a21) b21
  have C_edges := ok_edges (P := l.prog) (w := w) (base := base) C_neighbours B F22 (PySem.W.mg_of X G a22) b22
  have C_sign := ok_sign (P := l.prog) (w := w) (base := base) B F23 (PySem.W.mg_of X G a23) b23
  have C_turn := ok_turn (P := l.prog) (w := w) (base := base) C_sign B F24 (PySem.W.mg_of X G a24) b24
  have C_belongs := ok_belongs (P := l.prog) (w := w) (base := base) C_turn C_edges B F25 (PySem.W.mg_of X G a25) b25
  have C_in_area := ok_in_area (P := l.prog) (w := w) (base := base) C_belongs B F26 (PySem.W.mg_of X G a26) b26
  have C_is_within := ok_is_within (P := l.prog) (w := w) (base := base) C_turn C_edges B F27 (PySem.W.mg_of X G a27) b27
  exact okf_law C_in_area C_is_within C_belongs C_law_sides C_law_places C_law_draw C_law_round_shape C_law_feed B F28
end T
open PySem PySem.W PyProof.Rows
set_option maxRecDepth 100000 in
set_option maxHeartbeats 0 in
theorem PySem.Challenge.cw_widelines_k12_what_belongs_holds : PySem.Challenge.rw_widelines_k12_what_belongs.Holds := by
  w_on; o_law; k_head; (case hw => w_witness2)
  k_fill
  refine DL.walkD (l := PySem.Challenge.rw_widelines_k12_what_belongs) (m := T.whole) (k := 7) rfl rfl ⟨rfl, by decide, by decide, rfl⟩ (fun w h Y => PySem.W.kIn_of Y) ?F T.math
  case F =>
    intro w mg fa h KX G hmg
    refine' T.all_mk KX G hmg ?a1 ?l1 ?c1 ?k1 ?a2 ?l2 ?c2 ?k2 ?a3 ?l3 ?c3 ?k3 ?a4 ?l4 ?c4 ?k4 ?a5 ?l5 ?c5 ?k5 ?a6 ?l6 ?c6 ?k6 ?a7 ?l7 ?c7 ?k7 ?a8 ?l8 ?c8 ?k8 ?a9 ?l9 ?c9 ?k9 ?a10 ?l10 ?c10 ?k10 ?a11 ?l11 ?c11 ?k11 ?a12 ?l12 ?c12 ?k12 ?a13 ?l13 ?c13 ?k13 ?a14 ?l14 ?c14 ?k14 ?a15 ?l15 ?c15 ?k15 ?a16 ?l16 ?c16 ?k16 ?a17 ?l17 ?c17 ?k17 ?a18 ?l18 ?c18 ?k18 ?a19 ?l19 ?c19 ?k19 ?a20 ?l20 ?c20 ?k20 ?a21 ?l21 ?c21 ?k21 ?a22 ?l22 ?c22 ?k22 ?a23 ?l23 ?c23 ?k23 ?a24 ?l24 ?c24 ?k24 ?a25 ?l25 ?c25 ?k25 ?a26 ?l26 ?c26 ?k26 ?a27 ?l27 ?c27 ?k27 ?a28 ?l28 ?c28 ?k28 ?z_len ?z_range ?z_abs ?z_tuple ?z_list ?z_int ?z_bool ?z_str ?z_repr ?z_all ?z_isinstance ?z_zip ?z_enumerate ?z_min ?z_max ?z_reversed ?z_any ?z_sum ?z_sorted
    (case a1 => k_is)
    (case l1 => k_is)
    (case c1 => k_is)
    (case k1 => k_is)
    (case a2 => k_is)
    (case l2 => k_is)
    (case c2 => k_is)
    (case k2 => k_is)
    (case a3 => k_is)
    (case l3 => k_is)
    (case c3 => k_is)
    (case k3 => k_is)
    (case a4 => k_is)
    (case l4 => k_is)
    (case c4 => k_is)
    (case k4 => k_is)
    (case a5 => k_is)
    (case l5 => k_is)
    (case c5 => k_is)
    (case k5 => k_is)
    (case a6 => k_is)
    (case l6 => k_is)
    (case c6 => k_is)
    (case k6 => k_is)
    (case a7 => k_is)
    (case l7 => k_is)
    (case c7 => k_is)
    (case k7 => k_is)
    (case a8 => k_is)
    (case l8 => k_is)
    (case c8 => k_is)
    (case k8 => k_is)
    (case a9 => k_is)
    (case l9 => k_is)
    (case c9 => k_is)
    (case k9 => k_is)
    (case a10 => k_is)
    (case l10 => k_is)
    (case c10 => k_is)
    (case k10 => k_is)
    (case a11 => k_is)
    (case l11 => k_is)
    (case c11 => k_is)
    (case k11 => k_is)
    (case a12 => k_is)
    (case l12 => k_is)
    (case c12 => k_is)
    (case k12 => k_is)
    (case a13 => k_is)
    (case l13 => k_is)
    (case c13 => k_is)
    (case k13 => k_is)
    (case a14 => k_is)
    (case l14 => k_is)
    (case c14 => k_is)
    (case k14 => k_is)
    (case a15 => k_is)
    (case l15 => k_is)
    (case c15 => k_is)
    (case k15 => k_is)
    (case a16 => k_is)
    (case l16 => k_is)
    (case c16 => k_is)
    (case k16 => k_is)
    (case a17 => k_is)
    (case l17 => k_is)
    (case c17 => k_is)
    (case k17 => k_is)
    (case a18 => k_is)
    (case l18 => k_is)
    (case c18 => k_is)
    (case k18 => k_is)
    (case a19 => k_is)
    (case l19 => k_is)
    (case c19 => k_is)
    (case k19 => k_is)
    (case a20 => k_is)
    (case l20 => k_is)
    (case c20 => k_is)
    (case k20 => k_is)
    (case a21 => k_is)
    (case l21 => k_is)
    (case c21 => k_is)
    (case k21 => k_is)
    (case a22 => k_is)
    (case l22 => k_is)
    (case c22 => k_is)
    (case k22 => k_is)
    (case a23 => k_is)
    (case l23 => k_is)
    (case c23 => k_is)
    (case k23 => k_is)
    (case a24 => k_is)
    (case l24 => k_is)
    (case c24 => k_is)
    (case k24 => k_is)
    (case a25 => k_is)
    (case l25 => k_is)
    (case c25 => k_is)
    (case k25 => k_is)
    (case a26 => k_is)
    (case l26 => k_is)
    (case c26 => k_is)
    (case k26 => k_is)
    (case a27 => k_is)
    (case l27 => k_is)
    (case c27 => k_is)
    (case k27 => k_is)
    (case a28 => k_is)
    (case l28 => k_is)
    (case c28 => k_is)
    (case k28 => k_is)
    (case z_len => k_is)
    (case z_range => k_is)
    (case z_abs => k_is)
    (case z_tuple => k_is)
    (case z_list => k_is)
    (case z_int => k_is)
    (case z_bool => k_is)
    (case z_str => k_is)
    (case z_repr => k_is)
    (case z_all => k_is)
    (case z_isinstance => k_is)
    (case z_zip => k_is)
    (case z_enumerate => k_is)
    (case z_min => k_is)
    (case z_max => k_is)
    (case z_reversed => k_is)
    (case z_any => k_is)
    (case z_sum => k_is)
    (case z_sorted => k_is)



