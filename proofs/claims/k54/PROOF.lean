import PyProof.Rows.All
import Wide.All
import OpenK.AllK
import Wide.FinOn
import Lean
import PyProof.EqAt
import PyProof.EqKinds
import PyProof.TupleCall
import PySem.Challenge.RW_widelines_k54_what_pieces_have_in_common
set_option Elab.async false
set_option linter.all false
set_option maxRecDepth 100000
set_option bootstrap.genMatcherCode false
set_option genSizeOf false
namespace L2
open PySem PySem.Spec PyProof.Rows

/-- a key: an int or a str -/
abbrev Key := Sum Int Str
def keyIs : Key → Value → Bool
  | .inl k, v => Value.isInt k v
  | .inr x, v => Value.isStrOf x v
def keyH (w : World) : Key → Int
  | .inl k => hashInt k
  | .inr x => hashStr w x
theorem keyIs_shape : ∀ {k : Key} {v : Value}, keyIs k v = true → (∃ i t, k = Sum.inl i ∧ v = Value.int i t) ∨ (∃ x t, k = Sum.inr x ∧ v = Value.str x t)
  | .inl i, v, h => by
    obtain ⟨t, e⟩ := Value.isInt_shape (k := i) (v := v) h
    exact .inl ⟨i, t, rfl, e⟩
  | .inr x, v, h => by
    obtain ⟨t, e⟩ := Value.isStrOf_shape (x := x) (v := v) h
    exact .inr ⟨x, t, rfl, e⟩
theorem key_ll (a b : Int) : decide ((Sum.inl a : Key) = Sum.inl b) = (a == b) := by
  by_cases e : a = b
  · subst e; simp
  · have h : ¬ (Sum.inl a : Key) = Sum.inl b := fun q => e (Sum.inl.inj q)
    rw [decide_eq_false h]
    exact (beq_eq_false_iff_ne.mpr e).symm
theorem key_rr (a b : Str) : decide ((Sum.inr a : Key) = Sum.inr b) = decide (a = b) := by
  by_cases e : a = b
  · subst e; simp
  · have h : ¬ (Sum.inr a : Key) = Sum.inr b := fun q => e (Sum.inr.inj q)
    rw [decide_eq_false h, decide_eq_false e]
theorem key_lr (a : Int) (b : Str) : decide ((Sum.inl a : Key) = Sum.inr b) = false := decide_eq_false (fun q => nomatch q)
theorem key_rl (a : Str) (b : Int) : decide ((Sum.inr a : Key) = Sum.inl b) = false := decide_eq_false (fun q => nomatch q)

def mixKind (prog : Program) (w : World) : PySem.KeyKind prog w Key where
  is := keyIs
  hash := keyH w
  inj := fun v a b ha hb => by
    rcases keyIs_shape ha with ⟨i, t, rfl, rfl⟩ | ⟨x, t, rfl, rfl⟩
    · rcases keyIs_shape hb with ⟨j, u, rfl, e⟩ | ⟨y, u, rfl, e⟩
      · injection e with e1 _; rw [e1]
      · exact nomatch e
    · rcases keyIs_shape hb with ⟨j, u, rfl, e⟩ | ⟨y, u, rfl, e⟩
      · exact nomatch e
      · injection e with e1 _; rw [e1]
  byValue := fun k v h => by
    rcases keyIs_shape h with ⟨i, t, rfl, rfl⟩ | ⟨x, t, rfl, rfl⟩ <;> rfl
  pyHash := fun hv h => by
    rcases keyIs_shape hv with ⟨i, t, rfl, rfl⟩ | ⟨x, t, rfl, rfl⟩
    · exact wpAny_pyHash_int h
    · exact wpAny_pyHash_str h
  eqBool := fun hu hv h => by
    rcases keyIs_shape hu with ⟨i, t, rfl, rfl⟩ | ⟨x, t, rfl, rfl⟩
    · rcases keyIs_shape hv with ⟨j, u, rfl, rfl⟩ | ⟨y, u, rfl, rfl⟩
      · rw [key_ll] at h; exact wpAny_eqBool_int h
      · rw [key_lr] at h; exact SeqAt.EqAt.int_str i t y u _ _ _ _ h
    · rcases keyIs_shape hv with ⟨j, u, rfl, rfl⟩ | ⟨y, u, rfl, rfl⟩
      · rw [key_rl] at h; exact SeqAt.EqAt.str_int x t j u _ _ _ _ h
      · rw [key_rr] at h; exact wpAny_eqBool_str h
  «strs» := fun k x t v h => by
    rcases keyIs_shape h with ⟨i, u, rfl, e⟩ | ⟨y, u, rfl, e⟩
    · exact nomatch e
    · injection e with e1 _
      subst e1
      cases v <;> rfl

end L2

namespace L2
open PySem PySem.Spec PyProof.Rows

/-- a value, without the heap -/
inductive V where
  | non | bl (b : Bool) | int (i : Int) | str (x : Str) | byt (b : Array UInt8) | flt (b : UInt64) | ref (a : Addr) | ty (n : String)
  deriving DecidableEq

def RelV : V → Value → Prop
  | .non, u => u = Value.none
  | .bl b, u => u = Value.bool b
  | .int i, u => ∃ t, u = Value.int i t
  | .str x, u => ∃ t, u = Value.str x t
  | .byt b, u => ∃ t, u = Value.bytes b t
  | .flt b, u => ∃ t, u = Value.float b t
  | .ref a, u => u = Value.ref a
  | .ty n, u => u = Value.type n

abbrev Vals : List V → List Value → Prop := Paired RelV
theorem Vals.length {xs : List V} {us : List Value} (r : Vals xs us) : xs.length = us.length := Paired.length r
theorem Vals.get : ∀ {xs : List V} {us : List Value} {i : Nat} {x : V}, Vals xs us → xs[i]? = some x → ∃ u, us[i]? = some u ∧ RelV x u
  | _, _, _, _, .nil, e => by simp at e
  | _, _, 0, _, .cons r _, e => by simp at e; subst e; exact ⟨_, rfl, r⟩
  | _, _, i + 1, x, .cons _ t, e => by
    obtain ⟨u, h1, h2⟩ := Vals.get (i := i) (x := x) t (by simpa using e)
    exact ⟨u, by simpa using h1, h2⟩
theorem Vals.set {x : V} {u : Value} (r : RelV x u) : ∀ {xs : List V} {us : List Value} (i : Nat), Vals xs us → Vals (xs.set i x) (us.set i u)
  | _, _, _, .nil => .nil
  | _, _, 0, .cons _ t => .cons r t
  | _, _, i + 1, .cons q t => .cons q (Vals.set r i t)
theorem Vals.append : ∀ {xs ys : List V} {us ws : List Value}, Vals xs us → Vals ys ws → Vals (xs ++ ys) (us ++ ws) := by
  intro xs ys us ws h s
  induction h with
  | nil => exact s
  | cons r t ih => exact .cons r ih
theorem Vals.take : ∀ {xs : List V} {us : List Value} (n : Nat), Vals xs us → Vals (xs.take n) (us.take n)
  | _, _, 0, _ => .nil
  | _, _, _ + 1, .nil => .nil
  | _, _, n + 1, .cons r t => .cons r (Vals.take n t)
theorem Vals.drop : ∀ {xs : List V} {us : List Value} (n : Nat), Vals xs us → Vals (xs.drop n) (us.drop n)
  | _, _, 0, r => r
  | _, _, _ + 1, .nil => .nil
  | _, _, n + 1, .cons _ t => Vals.drop n t
def RelO : Option V → Option Value → Prop
  | some v, some u => RelV v u
  | none, none => True
  | _, _ => False
def KV {κ : Type} : List (κ × V) → List (κ × Value) → Prop := Paired fun (p : κ × V) (q : κ × Value) => p.1 = q.1 ∧ RelV p.2 q.2

/-- a key of a dict (00_mix): an int or a text -/
def kV : Key → V
  | .inl i => .int i
  | .inr x => .str x

/-- what stands at a tracked address -/
inductive HO where
  /-- a list -/
  | lst (xs : List V)
  /-- a tuple (never changes) -/
  | tup (xs : List V)
  /-- a dict whose keys are ints and texts; one whose keys are tuples of ints and texts (the empty one is both) -/
  | dK (kvs : List (Key × V)) | dT (kvs : List (List Key × V))
  /-- a set of ints: its members, its size -/
  | set (S : Int → Bool) (n : Nat)
  /-- an instance of the class at C, its dict at dx, its attributes -/
  | ins (C dx : Addr) (fs : List (Str × V))
  /-- the dict of the instance at x -/
  | own (x : Addr)
  /-- the dict of an exception -/
  | xd (fs : List (Str × V))
  /-- a bound method, f of x -/
  | met (f x : Addr)
  /-- a range object lo, lo + 1, .. below hi -/
  | rng (lo hi : Int)
  /-- a thing that is known to the object (the script; a dict while a loop walks it): read, never written while it is so -/
  | frz (o : Obj) (u : HO)
  /-- a code object's table -/
  | tbl (ps : Array Value)
  /-- any other thing, by what is true of its one object (a def of one's own: SetO a S n := HO.ext fun h => ..) -/
  | ext (φ : Heap → Prop)

abbrev Hp := Addr → Option HO
def upd (H : Hp) (a : Addr) (o : HO) : Hp := fun b => if b = a then some o else H b
theorem upd_same {H : Hp} {a : Addr} {o : HO} : upd H a o a = some o := by unfold upd; rw [if_pos rfl]
theorem upd_ne {H : Hp} {a b : Addr} {o : HO} (h : b ≠ a) : upd H a o b = H b := by unfold upd; rw [if_neg h]
theorem ne_of_none {H : Hp} {a b : Addr} {o : HO} (h : H a = some o) (h' : H b = none) : a ≠ b := by
  intro e; subst e; rw [h] at h'; cases h'

section
variable (P : Program) (w : World)
def ObjOk (H : Hp) (h : Heap) (a : Addr) : HO → Prop
  | .lst xs => xs.length ≤ sizeLine ∧ ∃ (its : List Value) (n : Nat), Vals xs its ∧ h.get? a = some { cls := .type "list", data := .seq its.toArray n }
  | .tup xs => xs.length ≤ sizeLine ∧ ∃ its : List Value, Vals xs its ∧ IsTup h a its.toArray
  | .dK kvs => kvs.length ≤ sizeLine ∧ (a == sysModules) = false ∧ ∃ vs, KV kvs vs ∧ h.DictOf (mixKind P w) a vs
  | .dT kvs => kvs.length ≤ sizeLine ∧ (a == sysModules) = false ∧ ∃ xs : List (List Key × Addr × Value),
      Paired (fun (p : List Key × V) (q : List Key × Addr × Value) => p.1 = q.1 ∧ H q.2.1 = some (.tup (p.1.map kV)) ∧ RelV p.2 q.2.2) kvs xs ∧
      ∃ o es ep, h.get? a = some o ∧ o.ExactDict ∧ o.data = .dict es ep ∧ es.toList = xs.map (entryOfKey (tupleKind (mixKind P w))) ∧ (xs.map (·.1)).Nodup
  | .set S n => h.SetOf (intKind P w) a S n
  | .ins C dx fs => H dx = some (.own a) ∧ fs.length ≤ 1000 ∧ dx ≠ a ∧ h.get? a = some (PySem.W.instObj C dx) ∧
      ∃ mA, h.Ns1 dx mA ∧ (∀ f, RelO (fs.lookup f) (mA f)) ∧ PySem.Within mA (fs.map (·.1))
  | .own _ => ∃ o, h.get? a = some o
  | .xd fs => ∃ mA, h.Ns1 a mA ∧ ∀ f, RelO (fs.lookup f) (mA f)
  | .rng lo hi => ∃ t u v, h.get? a = some { cls := .type "range", data := .fields #[.int lo t, .int hi u, .int 1 v] }
  | .frz o u => h.get? a = some o ∧ ObjOk H h a u
  | .tbl ps => h.get? a = some { cls := .none, data := .fields ps }
  | .met f x => h.get? a = some (PySem.W.methodObj (.ref f) (.ref x))
  | .ext φ => φ h ∧ (∃ o, h.get? a = some o) ∧ ∀ h1 h2 : Heap, φ h1 → (∀ o, h1.get? a = some o → h2.get? a = some o) → φ h2
/-- the abstract heap is held -/
def HOk (H : Hp) (h : Heap) : Prop := ∀ a o, H a = some o → ObjOk P w H h a o
end

section
variable {P : Program} {w : World} {H H' : Hp} {h h' : Heap} {a : Addr} {o : HO}
theorem ObjOk.lt (x : ObjOk P w H h a o) : a < h.objs.size := by
  cases o with
  | lst xs => obtain ⟨_, _, _, _, e⟩ := x; exact Heap.lt_size e
  | tup xs => obtain ⟨_, _, _, p⟩ := x; exact p.lt
  | dK kvs => obtain ⟨_, _, _, _, o, _, _, e, _⟩ := x; exact Heap.lt_size e
  | dT kvs => obtain ⟨_, _, _, _, o, _, _, e, _⟩ := x; exact Heap.lt_size e
  | set S n => obtain ⟨o, _, _, _, e, _⟩ := x; exact Heap.lt_size e
  | ins C dx fs => obtain ⟨_, _, _, e, _⟩ := x; exact Heap.lt_size e
  | own y => obtain ⟨_, e⟩ := x; exact Heap.lt_size e
  | xd fs => obtain ⟨_, ⟨_, _, _, e, _⟩, _⟩ := x; exact Heap.lt_size e
  | rng lo hi => obtain ⟨_, _, _, e⟩ := x; exact Heap.lt_size e
  | frz ob u => obtain ⟨e, _⟩ := x; exact Heap.lt_size e
  | tbl ps => exact Heap.lt_size (show h.get? a = some _ from x)
  | met f y => exact Heap.lt_size (show h.get? a = some _ from x)
  | ext φ => obtain ⟨_, ⟨_, e⟩, _⟩ := x; exact Heap.lt_size e
theorem Paired.mapP {α β : Type} {F G : α → β → Prop} : ∀ {l₁ : List α} {l₂ : List β}, Paired F l₁ l₂ → (∀ a b, F a b → G a b) → Paired G l₁ l₂ := by
  intro l₁ l₂ h f
  induction h with
  | nil => exact .nil
  | cons r t ih => exact .cons (f _ _ r) ih
/-- what an object's description leans on: its own object, its own dict, the tuples -/
theorem ObjOk.stay (x : ObjOk P w H h a o) (k : ∀ b u, (b = a ∨ H b = some (.own a)) → h.get? b = some u → h'.get? b = some u)
    (ho : ∀ b, H b = some (.own a) → H' b = some (.own a)) (ht : ∀ b xs, H b = some (.tup xs) → H' b = some (.tup xs)) : ObjOk P w H' h' a o := by
  induction o with
  | lst xs => obtain ⟨z, its, n, r, e⟩ := x; exact ⟨z, its, n, r, k _ _ (.inl rfl) e⟩
  | tup xs => obtain ⟨z, its, r, ob, e, c⟩ := x; exact ⟨z, its, r, ob, k _ _ (.inl rfl) e, c⟩
  | dK kvs => obtain ⟨z, y, vs, r, ob, es, ep, e, c⟩ := x; exact ⟨z, y, vs, r, ob, es, ep, k _ _ (.inl rfl) e, c⟩
  | dT kvs =>
    obtain ⟨z, y, xs, r, ob, es, ep, e, c⟩ := x
    exact ⟨z, y, xs, Paired.mapP r fun p q z => ⟨z.1, ht _ _ z.2.1, z.2.2⟩, ob, es, ep, k _ _ (.inl rfl) e, c⟩
  | set S n => obtain ⟨ob, es, ep, t, e, c⟩ := x; exact ⟨ob, es, ep, t, k _ _ (.inl rfl) e, c⟩
  | ins C dx fs =>
    obtain ⟨d, z, ne, e, mA, ⟨od, es, ep, e2, c⟩, r⟩ := x
    exact ⟨ho _ d, z, ne, k _ _ (.inl rfl) e, mA, ⟨od, es, ep, k _ _ (.inr d) e2, c⟩, r⟩
  | own y => obtain ⟨ob, e⟩ := x; exact ⟨ob, k _ _ (.inl rfl) e⟩
  | xd fs => obtain ⟨mA, ⟨od, es, ep, e, c⟩, r⟩ := x; exact ⟨mA, ⟨od, es, ep, k _ _ (.inl rfl) e, c⟩, r⟩
  | rng lo hi => obtain ⟨t, u, v, e⟩ := x; exact ⟨t, u, v, k _ _ (.inl rfl) e⟩
  | frz ob u ih => obtain ⟨e, q⟩ := x; exact ⟨k _ _ (.inl rfl) e, ih q⟩
  | tbl ps =>
    have e : h.get? a = some { cls := .none, data := .fields ps } := x
    show h'.get? a = some { cls := .none, data := .fields ps }
    exact k a _ (.inl rfl) e
  | met f y =>
    have e : h.get? a = some (PySem.W.methodObj (.ref f) (.ref y)) := x
    show h'.get? a = some (PySem.W.methodObj (.ref f) (.ref y))
    exact k a _ (.inl rfl) e
  | ext φ => obtain ⟨p, ⟨o, e⟩, st⟩ := x; exact ⟨st _ _ p fun o q => k _ _ (.inl rfl) q, ⟨o, k _ _ (.inl rfl) e⟩, st⟩
theorem HOk.lt (x : HOk P w H h) (e : H a = some o) : a < h.objs.size := (x a o e).lt
theorem HOk.fresh (x : HOk P w H h) (e : h.objs.size ≤ a) : H a = none := by
  cases q : H a with
  | none => rfl
  | some u => exact absurd (Nat.lt_of_lt_of_le (x.lt q) e) (Nat.lt_irrefl _)
/-- every object of the heap is kept -/
theorem HOk.kept (x : HOk P w H h) (k : ∀ b u, h.get? b = some u → h'.get? b = some u) : HOk P w H h' := fun a o e =>
  (x a o e).stay (fun b u _ q => k b u q) (fun _ q => q) fun _ _ q => q
/-- a new object is laid and tracked -/
theorem HOk.laid (x : HOk P w H h) (k : ∀ b u, h.get? b = some u → h'.get? b = some u) (hp : h.objs.size ≤ a) (new : ObjOk P w (upd H a o) h' a o) : HOk P w (upd H a o) h' := fun b u e => by
  have hn := x.fresh hp
  by_cases hb : b = a
  · subst hb; rw [upd_same] at e; cases e; exact new
  · rw [upd_ne hb] at e
    exact (x b u e).stay (fun c v _ q => k c v q) (fun c q => by rw [upd_ne (ne_of_none q hn)]; exact q) fun c xs q => by rw [upd_ne (ne_of_none q hn)]; exact q
end

/-- what may be read as u: it is u, or a known u -/
def Rd (H : Hp) (a : Addr) (u : HO) : Prop := H a = some u ∨ ∃ o, H a = some (.frz o u)
theorem Rd.of {H : Hp} {a : Addr} {u : HO} (h : H a = some u) : Rd H a u := .inl h
theorem Rd.ok {P : Program} {w : World} {H : Hp} {h : Heap} {a : Addr} {u : HO} (r : Rd H a u) (x : HOk P w H h) : ObjOk P w H h a u := by
  rcases r with r | ⟨o, r⟩
  · exact x a u r
  · obtain ⟨_, q⟩ := x a _ r
    exact q
/-- what may be written -/
def Mut : Option HO → Prop
  | some (.lst _) => True
  | some (.dK _) => True
  | some (.dT _) => True
  | some (.set _ _) => True
  | some (.ins _ _ _) => True
  | some (.ext _) => True
  | _ => False
section
variable {P : Program} {w : World} {H : Hp} {h h' : Heap} {x e : Addr} {o' : HO}
/-- the object at e is changed: x itself, or the dict of the instance x -/
theorem HOk.write (ok : HOk P w H h) (mu : Mut (H x)) (he : e = x ∨ H e = some (.own x)) (k : ∀ b u, b ≠ e → h.get? b = some u → h'.get? b = some u) (heo : ∃ u, h'.get? e = some u)
    (new : ObjOk P w (upd H x o') h' x o') : HOk P w (upd H x o') h' := fun b u q => by
  have nown : ∀ c y, H c = some (.own y) → c ≠ x := fun c y r z => by subst z; rw [r] at mu; exact mu
  have ntup : ∀ c xs, H c = some (.tup xs) → c ≠ x := fun c xs r z => by subst z; rw [r] at mu; exact mu
  by_cases hb : b = x
  · subst hb; rw [upd_same] at q; cases q; exact new
  · rw [upd_ne hb] at q
    by_cases hbe : b = e
    · have q' : H b = some (.own x) := by
        rcases he with z | z
        · exact absurd (hbe.trans z) hb
        · rw [hbe]; exact z
      rw [q] at q'; cases q'
      obtain ⟨v, hv⟩ := heo
      exact ⟨v, by rw [hbe]; exact hv⟩
    · refine (ok b u q).stay (fun c v hc r => k c v ?_ r) (fun c r => by rw [upd_ne (nown c b r)]; exact r) fun c xs r => by rw [upd_ne (ntup c xs r)]; exact r
      rcases hc with rfl | hc
      · exact hbe
      · rintro rfl
        rcases he with z | z
        · exact nown c b hc z
        · rw [hc] at z; cases z; exact hb rfl
end

structure Un (fs ex : List Addr) (H H' : Hp) (h h' : Heap) : Prop where
  keep : ∀ b o, h.get? b = some o → H b = none → b ∉ fs → b ∉ ex → h'.get? b = some o
  slot : ∀ b o, h.get? b = some o → H b = none → b ∈ fs → b ∉ ex → ∃ sl, h'.get? b = some { o with slots := sl }
  free : ∀ b o, h.get? b = some o → H b = none → b ∉ ex → H' b = none
  there : ∀ b o, h.get? b = some o → b ∉ ex → ∃ o', h'.get? b = some o'
  tups : ∀ b xs, H b = some (.tup xs) → H' b = some (.tup xs)
  frzs : ∀ b o u, H b = some (.frz o u) → H' b = some (.frz o u)
  tbls : ∀ b ps, H b = some (.tbl ps) → ∃ more, H' b = some (.tbl (ps ++ more))
section
variable {fs fs' ex ex' : List Addr} {H H1 H2 : Hp} {h h1 h2 h' : Heap} {a x e : Addr} {o : HO}
theorem Un.any (u : Un fs ex H H1 h h1) {b : Addr} {ob : Obj} (q : h.get? b = some ob) (n : H b = none) (hx : b ∉ ex) : ∃ sl, h1.get? b = some { ob with slots := sl } := by
  by_cases hb : b ∈ fs
  · exact u.slot b ob q n hb hx
  · exact ⟨ob.slots, u.keep b ob q n hb hx⟩
theorem Un.trans (a : Un fs ex H H1 h h1) (b : Un fs ex H1 H2 h1 h2) : Un fs ex H H2 h h2 where
  keep := fun c ob q n hc hx => b.keep c ob (a.keep c ob q n hc hx) (a.free c ob q n hx) hc hx
  slot := fun c ob q n hc hx => by
    obtain ⟨sl, e1⟩ := a.slot c ob q n hc hx
    obtain ⟨sl', e2⟩ := b.slot c _ e1 (a.free c ob q n hx) hc hx
    exact ⟨sl', e2⟩
  free := fun c ob q n hx => by
    obtain ⟨o', e1⟩ := a.there c ob q hx
    exact b.free c o' e1 (a.free c ob q n hx) hx
  there := fun c ob q hx => by
    obtain ⟨o', e1⟩ := a.there c ob q hx
    exact b.there c o' e1 hx
  tups := fun c xs q => b.tups c xs (a.tups c xs q)
  frzs := fun c ob xs q => b.frzs c ob xs (a.frzs c ob xs q)
  tbls := fun c ps q => by
    obtain ⟨m1, e1⟩ := a.tbls c ps q
    obtain ⟨m2, e2⟩ := b.tbls c _ e1
    exact ⟨m1 ++ m2, by rw [e2, Array.append_assoc]⟩
theorem Un.kept (k : ∀ b u, h.get? b = some u → h'.get? b = some u) : Un fs ex H H h h' :=
  ⟨fun b ob q _ _ _ => k b ob q, fun b ob q _ _ _ => ⟨ob.slots, k b ob q⟩, fun _ _ _ n _ => n, fun b ob q _ => ⟨ob, k b ob q⟩, fun _ _ q => q, fun _ _ _ q => q, fun _ ps q => ⟨#[], by rw [q]; simp⟩⟩
theorem Un.refl : Un fs ex H H h h := Un.kept fun _ _ q => q
theorem Un.laid (k : ∀ b u, h.get? b = some u → h'.get? b = some u) (hp : h.objs.size ≤ a) (hn : H a = none) : Un fs ex H (upd H a o) h h' where
  keep := fun b u q _ _ _ => k b u q
  slot := fun b u q _ _ _ => ⟨u.slots, k b u q⟩
  free := fun b u q n _ => by rw [upd_ne (Nat.ne_of_lt (Nat.lt_of_lt_of_le (Heap.lt_size q) hp))]; exact n
  there := fun b u q _ => ⟨u, k b u q⟩
  tups := fun b xs q => by rw [upd_ne (ne_of_none q hn)]; exact q
  frzs := fun b u xs q => by rw [upd_ne (ne_of_none q hn)]; exact q
  tbls := fun b ps q => ⟨#[], by rw [upd_ne (ne_of_none q hn), q]; simp⟩
theorem Un.write (mu : Mut (H x)) (he : e = x ∨ H e = some (.own x)) (k : ∀ b u, b ≠ e → h.get? b = some u → h'.get? b = some u) (heo : ∃ u, h'.get? e = some u) : Un fs ex H (upd H x o) h h' := by
  have hx : ∀ b, H b = none → b ≠ x := fun b n z => by subst z; rw [n] at mu; exact mu
  have hb : ∀ b, H b = none → b ≠ e := fun b n z => by
    subst z
    rcases he with r | r
    · exact hx b n r
    · rw [n] at r; cases r
  have hm : ∀ b u, H b = some u → ¬ Mut (some u) → b ≠ x := fun b u q nm z => by subst z; rw [q] at mu; exact nm mu
  refine ⟨fun b u q n _ _ => k b u (hb b n) q, fun b u q n _ _ => ⟨u.slots, k b u (hb b n) q⟩, fun b u q n _ => by rw [upd_ne (hx b n)]; exact n, fun b u q _ => ?_,
    fun b xs q => by rw [upd_ne (hm b _ q fun z => z)]; exact q, fun b u xs q => by rw [upd_ne (hm b _ q fun z => z)]; exact q, fun b ps q => ⟨#[], by rw [upd_ne (hm b _ q fun z => z), q]; simp⟩⟩
  by_cases hbe : b = e
  · subst hbe; exact heo
  · exact ⟨u, k b u hbe q⟩
theorem Un.mono (u : Un fs ex H H1 h h1) (hs : ∀ b ∈ fs, b ∈ fs') (hx : ∀ b ∈ ex, b ∈ ex') : Un fs' ex' H H1 h h1 :=
  ⟨fun b ob q n hb he => u.keep b ob q n (fun z => hb (hs b z)) fun z => he (hx b z), fun _ _ q n _ he => u.any q n fun z => he (hx _ z), fun b ob q n he => u.free b ob q n fun z => he (hx b z), fun b ob q he => u.there b ob q fun z => he (hx b z), u.tups, u.frzs, u.tbls⟩
end

def trk (h : Heap) (H : Hp) : List Addr := (List.range h.objs.size).filter fun a => (H a).isSome
def hidT (h : Heap) (H : Hp) : Heap := PySem.W.hideAll h (trk h H)
theorem hidT_size (h : Heap) (H : Hp) : (hidT h H).objs.size = h.objs.size := PySem.W.hideAll_size _ _
theorem hidT_get {h : Heap} {H : Hp} {b : Addr} {o : Obj} (e : h.get? b = some o) (n : H b = none) : (hidT h H).get? b = some o :=
  PySem.W.hideAll_get _ e fun hm => by
    have q : (H b).isSome = true := (List.mem_filter.mp hm).2
    rw [n] at q; simp at q
theorem of_hidT {h : Heap} {H : Hp} {b : Addr} {o : Obj} (e : (hidT h H).get? b = some o) : h.get? b = some o ∧ H b = none := by
  have e' : h.get? b = some o := PySem.W.of_hideAll (trk h H) e
  refine ⟨e', ?_⟩
  cases q : H b with
  | none => rfl
  | some x =>
    have hm : b ∈ trk h H := List.mem_filter.mpr ⟨List.mem_range.mpr (Heap.lt_size e'), by simp [q]⟩
    have z : (hidT h H).get? b = none := PySem.W.hideAll_none (trk h H) hm
    rw [z] at e; cases e

def allNews (g h : Heap) (L : Addr) : List (Addr × Obj) := (List.range h.objs.size).filterMap fun a => if a = L ∨ (g.get? a).isSome = true then none else (h.get? a).map fun o => (a, o)
def rest (g h : Heap) (L d : Addr) : List (Addr × Obj) := (allNews g h L).filter fun p => decide (p.1 ≠ d)
end L2

namespace L2
open PySem PySem.Spec PyProof.Rows

/-- the module's facts, over the base: the heap at the law's entry without what is tracked there -/
structure Mod (K : PySem.W.Frag) (mg : Str → Option Value) (base : Heap) : Prop where
  kin : K.In base
  glob : base.Ns mainGlobals mg
  blt : ∃ mb, base.Ns builtinsNs mb ∧ ∀ x : Str, x ≠ "__name__" → mb x = bootBuiltins x
  nolimit : base.NoLimit

/-- the context: a def's body (or a comprehension's block) running. base: fixed through the whole law; s₀, H₀: the entry; outer: the frames whose slots others may change (a def's callers); stack: all frames that run;
   ex: iterators that were made ahead of the entry and are walked here (a comprehension's); fn: the names whose cells were made at the entry (a def: all; a comprehension's block: its own); calm: not within an except suite; pn: pins that every state bears; xe: what is wanted of an exception that leaves the code -/
structure Cx where
  prog : Program
  w : World
  K : PySem.W.Frag
  mg : Str → Option Value
  base : Heap
  A : Around
  N : List Str
  s₀ : Shared
  H₀ : Hp
  env : Env
  outer : List Env
  stack : List Env
  ex : List Addr
  fn : Str → Bool
  calm : Bool
  pn : List (Addr × Obj)
  xe : Value → Shared → Prop
/-- the callers' frames -/
def frs (l : List Env) : List Addr := l.filterMap (·.frame)
abbrev Cx.fs (X : Cx) : List Addr := frs X.outer

def Vis (sc : Scope) (x : Str) : Prop := sc.names.lookup x = some .local ∨ sc.names.lookup x = some .cell ∨ sc.names.lookup x = some .free
def Loc (sc : Scope) (x : Str) : Prop := sc.names.lookup x = some .local ∨ sc.names.lookup x = some .cell
def Look (env : Env) (h : Heap) (m : Str → Option Value) (x : Str) (u : Value) : Prop :=
  (env.kindOf x = some .local ∧ m x = some u) ∨ ((env.kindOf x = some .cell ∨ env.kindOf x = some .free) ∧ ∃ c, env.cells.lookup x = some c ∧ h.IsCell c (some u))

structure Cx.Ok (X : Cx) : Prop where
  mod : Mod X.K X.mg X.base
  kind : X.env.scope.kind = .function
  glob : X.env.globals = mainGlobals
  blt : X.env.builtins = builtinsNs
  above : X.s₀.heap.objs.size ≤ X.env.locals
  inj : ∀ x y c, X.env.cells.lookup x = some c → X.env.cells.lookup y = some c → x = y
  has : ∀ x, (X.env.kindOf x = some .cell ∨ X.env.kindOf x = some .free) → ∃ c, X.env.cells.lookup x = some c
  cab : ∀ x c, X.fn x = true → X.env.cells.lookup x = some c → X.s₀.heap.objs.size ≤ c
  hd : X.calm = true → X.A.handled = none
  frames : X.A.frames = some X.stack
  stk : X.stack = X.outer ∨ (X.stack = X.env :: X.outer ∧ X.env.frame = some X.env.locals)
  exf : ∀ b ∈ X.ex, b ≠ X.env.locals ∧ ∀ x c, X.env.cells.lookup x = some c → c ≠ b
  bs : ∀ b o, X.base.get? b = some o → X.s₀.heap.get? b = some o ∧ X.H₀ b = none
  bsz : X.base.objs.size ≤ X.s₀.heap.objs.size
  noex : ∀ b o, X.base.get? b = some o → b ∉ X.ex
  exfs : ∀ b ∈ X.ex, b ∉ X.fs
  funs : X.s₀.heap.FunFrames X.base X.outer
  frf : ∀ b ∈ X.fs, X.H₀ b = none

structure Inv (X : Cx) (pins : List (Addr × Obj)) (σ : List (Option V)) (H : Hp) (s : Shared) : Prop where
  ok : X.Ok
  os : s.os = X.s₀.os
  bare : AllBare s.gens
  base : Un X.fs X.ex X.H₀ H X.s₀.heap s.heap
  loc : ∃ m, s.heap.Ns X.env.locals m ∧ ∀ (i : Nat) (x : Str) (v : V), X.N[i]? = some x → σ[i]? = some (some v) → Vis X.env.scope x → ∃ u, RelV v u ∧ Look X.env s.heap m x u
  cell : ∀ x c, X.env.cells.lookup x = some c → ∃ v, s.heap.IsCell c v
  free : H X.env.locals = none
  freeC : ∀ x c, X.env.cells.lookup x = some c → H c = none
  pin : ∀ p ∈ X.pn ++ pins, s.heap.get? p.1 = some p.2 ∧ H p.1 = none ∧ p.1 ≠ X.env.locals ∧ p.1 ∉ X.fs ∧ ∀ v, p.2.data ≠ .cell v
  hok : HOk X.prog X.w H s.heap
  len : σ.length = X.N.length

section
variable {X : Cx} {pins : List (Addr × Obj)} {σ : List (Option V)} {H H' : Hp} {s : Shared} {h' : Heap}

theorem Cx.Ok.nofr (ok : X.Ok) {b : Addr} {o : Obj} (e : X.base.get? b = some o) : b ∉ X.fs := fun hb => by
  have := (ok.funs.mem hb).1
  rw [e] at this; cases this
theorem Inv.bs (I : Inv X pins σ H s) : ∀ b o, X.base.get? b = some o → s.heap.get? b = some o ∧ H b = none := fun b o e =>
  ⟨I.base.keep b o (I.ok.bs b o e).1 (I.ok.bs b o e).2 (I.ok.nofr e) (I.ok.noex b o e), I.base.free b o (I.ok.bs b o e).1 (I.ok.bs b o e).2 (I.ok.noex b o e)⟩
theorem Inv.bk (I : Inv X pins σ H s) : ∀ b o, X.base.get? b = some o → s.heap.get? b = some o := fun b o e => (I.bs b o e).1
theorem Inv.mod (I : Inv X pins σ H s) : Mod X.K X.mg X.base := I.ok.mod
theorem Inv.kIn (I : Inv X pins σ H s) : X.K.In s.heap := I.ok.mod.kin.keeps I.bk
theorem Inv.nolimit (I : Inv X pins σ H s) : s.heap.NoLimit := I.ok.mod.nolimit.keeps I.bk
/-- the frame over the base: for OpenK's rules (K.In X.base is I.mod.kin) -/
theorem Inv.fr (I : Inv X pins σ H s) : ∃ m, Fr X.base X.env.locals s.heap m :=
  let ⟨m, hn, _⟩ := I.loc
  ⟨m, hn, I.bk, Nat.le_trans I.ok.bsz I.ok.above⟩
theorem Inv.lt (I : Inv X pins σ H s) : X.env.locals < s.heap.objs.size := let ⟨_, hn, _⟩ := I.loc; hn.lt
theorem Inv.sz (I : Inv X pins σ H s) : X.s₀.heap.objs.size ≤ s.heap.objs.size := Nat.le_trans I.ok.above (Nat.le_of_lt I.lt)
theorem Inv.nofs (I : Inv X pins σ H s) {a : Addr} (h : s.heap.objs.size ≤ a) : a ∉ X.fs := fun hb => by
  obtain ⟨_, o, ho, _⟩ := I.ok.funs.mem hb
  exact absurd (Nat.lt_of_lt_of_le (Heap.lt_size ho) (Nat.le_trans I.sz h)) (Nat.lt_irrefl _)
theorem Inv.cne (I : Inv X pins σ H s) : ∀ x c, X.env.cells.lookup x = some c → c ≠ X.env.locals := fun x c e z => by
  obtain ⟨v, o, ho, hd⟩ := I.cell x c e
  obtain ⟨m, ⟨o', es, ep, ho', hd', _⟩, _⟩ := I.loc
  rw [z, ho'] at ho; cases ho; rw [hd'] at hd; cases hd
theorem Inv.funs (I : Inv X pins σ H s) : s.heap.FunFrames X.base X.outer := by
  have all : ∀ (l : List Env), (∀ b ∈ frs l, b ∈ X.fs) → X.s₀.heap.FunFrames X.base l → s.heap.FunFrames X.base l := by
    intro l
    induction l with
    | nil => intro _ _; trivial
    | cons env r ih =>
      intro hs hl
      obtain ⟨hk, ⟨L, o, hf, hn, ho, hd⟩, hr⟩ := hl
      have hL : L ∈ X.fs := hs L (by unfold frs; rw [List.filterMap_cons, hf]; exact List.mem_cons_self)
      obtain ⟨sl, e⟩ := I.base.slot L o ho (I.ok.frf L hL) hL fun z => I.ok.exfs L z hL
      exact ⟨hk, ⟨L, _, hf, hn, e, hd⟩, ih (fun b hb => hs b (by unfold frs; rw [List.filterMap_cons, hf]; exact List.mem_cons_of_mem _ hb)) hr⟩
  exact all X.outer (fun _ hb => hb) I.ok.funs

/-- the frames that run, for a call -/
theorem Inv.stack (I : Inv X pins σ H s) : s.heap.FunFrames X.base X.stack := by
  rcases I.ok.stk with e | ⟨e, hf⟩
  · rw [e]; exact I.funs
  · rw [e]
    obtain ⟨m, hn, _⟩ := I.loc
    refine .cons (by rw [I.ok.kind]; decide) hf hn ?_ I.funs
    exact Heap.get?_none_of_le (Nat.le_trans I.ok.bsz I.ok.above)
theorem Inv.stkSub (I : Inv X pins σ H s) : ∀ b ∈ frs X.stack, b ∈ X.env.locals :: X.fs := fun b hb => by
  rcases I.ok.stk with e | ⟨e, hf⟩
  · rw [e] at hb; exact List.mem_cons_of_mem _ hb
  · rw [e] at hb
    unfold frs at hb
    rw [List.filterMap_cons, hf] at hb
    exact hb
theorem Inv.stkFree (I : Inv X pins σ H s) : ∀ b ∈ frs X.stack, H b = none := fun b hb => by
  rcases List.mem_cons.mp (I.stkSub b hb) with e | hb
  · rw [e]; exact I.free
  · obtain ⟨_, o, ho, _⟩ := I.ok.funs.mem hb
    exact I.base.free b o ho (I.ok.frf b hb) fun z => I.ok.exfs b z hb

/-- THE STEP: the untracked objects but the frame and the records at ch are kept (the callers' frames up to slots), the frame's map is kept, the new abstract heap is held -/
theorem Inv.step {g' : Array GenState} {t' : Nat} {d' : Drawn} {ch : List Addr} (I : Inv X pins σ H s)
    (hch : ∀ b ∈ ch, (b ∈ X.ex ∨ X.s₀.heap.objs.size ≤ b) ∧ b ≠ X.env.locals ∧ (∀ x c, X.env.cells.lookup x = some c → c ≠ b) ∧ ∀ p ∈ X.pn ++ pins, p.1 ≠ b)
    (keep : ∀ b o, b ≠ X.env.locals → b ∉ X.fs → b ∉ ch → s.heap.get? b = some o → H b = none → h'.get? b = some o)
    (slot : ∀ b o, b ≠ X.env.locals → b ∈ X.fs → b ∉ ch → s.heap.get? b = some o → H b = none → ∃ sl, h'.get? b = some { o with slots := sl }) (free : ∀ b o, b ∉ ch → s.heap.get? b = some o → H b = none → H' b = none)
    (there : ∀ b o, b ∉ ch → s.heap.get? b = some o → ∃ o', h'.get? b = some o')
    (tups : ∀ b xs, H b = some (.tup xs) → H' b = some (.tup xs)) (frzs : ∀ b o u, H b = some (.frz o u) → H' b = some (.frz o u)) (tbls : ∀ b ps, H b = some (.tbl ps) → ∃ more, H' b = some (.tbl (ps ++ more)))
    (ns : ∀ m, s.heap.Ns X.env.locals m → h'.Ns X.env.locals m) (hok : HOk X.prog X.w H' h') (hg : AllBare g') :
    Inv X pins σ H' { s with heap := h', gens := g', drawn := d', toks := t' } := by
  have neL : ∀ b o, X.s₀.heap.get? b = some o → b ≠ X.env.locals := fun b o e => Nat.ne_of_lt (Nat.lt_of_lt_of_le (Heap.lt_size e) I.ok.above)
  have neC : ∀ b o, X.s₀.heap.get? b = some o → b ∉ X.ex → b ∉ ch := fun b o e hx hb => by
    rcases (hch b hb).1 with z | z
    · exact hx z
    · exact absurd (Nat.lt_of_lt_of_le (Heap.lt_size e) z) (Nat.lt_irrefl _)
  have cellK : ∀ x c, X.env.cells.lookup x = some c → ∀ v, s.heap.IsCell c v → h'.IsCell c v := fun x c e v ⟨o, ho, hd⟩ => by
    have nch : c ∉ ch := fun z => (hch c z).2.2.1 x c e rfl
    by_cases hc : c ∈ X.fs
    · obtain ⟨sl, q⟩ := slot c o (I.cne x c e) hc nch ho (I.freeC x c e)
      exact ⟨_, q, hd⟩
    · exact ⟨o, keep c o (I.cne x c e) hc nch ho (I.freeC x c e), hd⟩
  refine ⟨I.ok, I.os, hg, ⟨fun b o e n hb hx => ?_, fun b o e n hb hx => ?_, fun b o e n hx => ?_, fun b o e hx => ?_, fun b xs e => tups b xs (I.base.tups b xs e), fun b o xs e => frzs b o xs (I.base.frzs b o xs e), fun b ps e => ?_⟩, ?_, fun x c e => ?_, ?_, fun x c e => ?_, fun p hp => ?_, hok, I.len⟩
  · exact keep b o (neL b o e) hb (neC b o e hx) (I.base.keep b o e n hb hx) (I.base.free b o e n hx)
  · obtain ⟨sl, e1⟩ := I.base.slot b o e n hb hx
    obtain ⟨sl', e2⟩ := slot b _ (neL b o e) hb (neC b o e hx) e1 (I.base.free b o e n hx)
    exact ⟨sl', e2⟩
  · obtain ⟨o', e1⟩ := I.base.there b o e hx
    exact free b o' (neC b o e hx) e1 (I.base.free b o e n hx)
  · obtain ⟨o', e1⟩ := I.base.there b o e hx
    exact there b o' (neC b o e hx) e1
  · obtain ⟨m1, e1⟩ := I.base.tbls b ps e
    obtain ⟨m2, e2⟩ := tbls b _ e1
    exact ⟨m1 ++ m2, by rw [e2, Array.append_assoc]⟩
  · obtain ⟨m, hn, hl⟩ := I.loc
    refine ⟨m, ns m hn, fun i x v e1 e2 e3 => ?_⟩
    obtain ⟨u, r, l⟩ := hl i x v e1 e2 e3
    refine ⟨u, r, ?_⟩
    rcases l with l | ⟨k, c, e, z⟩
    · exact .inl l
    · exact .inr ⟨k, c, e, cellK x c e _ z⟩
  · obtain ⟨v, z⟩ := I.cell x c e
    exact ⟨v, cellK x c e v z⟩
  · obtain ⟨m, ⟨o, _, _, ho, _⟩, _⟩ := I.loc
    exact free _ o (fun z => (hch _ z).2.1 rfl) ho I.free
  · obtain ⟨v, o, ho, hd⟩ := I.cell x c e
    exact free c o (fun z => (hch c z).2.2.1 x c e rfl) ho (I.freeC x c e)
  · obtain ⟨e, n, ne, nf, d⟩ := I.pin p hp
    have nch : p.1 ∉ ch := fun z => (hch p.1 z).2.2.2 p hp rfl
    exact ⟨keep p.1 p.2 ne nf nch e n, free p.1 p.2 nch e n, ne, nf, d⟩
/-- .. where the frame's own object is kept too -/
theorem Inv.un {t' : Nat} (I : Inv X pins σ H s) (u : Un X.fs [] H H' s.heap h') (hok : HOk X.prog X.w H' h') : Inv X pins σ H' { s with heap := h', toks := t' } := by
  obtain ⟨m, ⟨o, es, ep, ho, r⟩, _⟩ := id I.loc
  obtain ⟨sl, hL⟩ := u.any ho I.free (by simp)
  exact I.step (g' := s.gens) (d' := s.drawn) (ch := []) (fun _ z => nomatch z) (fun b o _ hb _ e n => u.keep b o e n hb (by simp)) (fun b o _ hb _ e n => u.slot b o e n hb (by simp)) (fun b o _ e n => u.free b o e n (by simp)) (fun b o _ e => u.there b o e (by simp)) u.tups u.frzs u.tbls (fun m' hm => by
    obtain ⟨o', es', ep', ho', r'⟩ := hm
    rw [ho] at ho'; cases ho'
    exact ⟨_, es', ep', hL, r'⟩) hok I.bare
/-- behind a call (or a comprehension's block): the slots of this frame may have changed too, the records at ch may have turned -/
theorem Inv.call {g' : Array GenState} {t' : Nat} {d' : Drawn} {ch : List Addr} (I : Inv X pins σ H s) (u : Un (frs X.stack) ch H H' s.heap h') (hok : HOk X.prog X.w H' h') (hg : AllBare g')
    (hch : ∀ b ∈ ch, (b ∈ X.ex ∨ X.s₀.heap.objs.size ≤ b) ∧ b ≠ X.env.locals ∧ (∀ x c, X.env.cells.lookup x = some c → c ≠ b) ∧ ∀ p ∈ X.pn ++ pins, p.1 ≠ b) :
    Inv X pins σ H' { s with heap := h', gens := g', drawn := d', toks := t' } := by
  obtain ⟨m, ⟨o, es, ep, ho, r⟩, _⟩ := id I.loc
  obtain ⟨sl, hL⟩ := u.any ho I.free fun z => (hch _ z).2.1 rfl
  exact I.step (ch := ch) hch (fun b o hL hb hc e n => u.keep b o e n (fun z => (List.mem_cons.mp (I.stkSub b z)).elim hL hb) hc) (fun b o _ _ hc e n => u.any e n hc) (fun b o hc e n => u.free b o e n hc) (fun b o hc e => u.there b o e hc) u.tups u.frzs u.tbls (fun m' hm => by
    obtain ⟨o', es', ep', ho', r'⟩ := hm
    rw [ho] at ho'; cases ho'
    exact ⟨_, es', ep', hL, r'⟩) hok hg
/-- an untracked record of ours (an iterator) has turned -/
theorem Inv.turned {t' : Nat} {it : Addr} (I : Inv X pins σ H s) (k : ∀ b o, b ≠ it → s.heap.get? b = some o → h'.get? b = some o) (hn : H it = none) (hL : it ≠ X.env.locals)
    (h1 : it ∈ X.ex ∨ X.s₀.heap.objs.size ≤ it) (h2 : ∀ x c, X.env.cells.lookup x = some c → c ≠ it) (h3 : ∀ p ∈ X.pn ++ pins, p.1 ≠ it) : Inv X pins σ H { s with heap := h', toks := t' } := by
  have nit : ∀ b u, H b = some u → b ≠ it := fun b u e z => by rw [z, hn] at e; cases e
  refine I.step (g' := s.gens) (d' := s.drawn) (ch := [it]) (fun b hb => ?_) (fun b o _ _ hc e _ => k b o (fun z => hc (by simp [z])) e) (fun b o _ _ hc e _ => ⟨o.slots, k b o (fun z => hc (by simp [z])) e⟩) (fun _ _ _ _ n => n)
    (fun b o hc e => ⟨o, k b o (fun z => hc (by simp [z])) e⟩) (fun _ _ e => e) (fun _ _ _ e => e) (fun b ps e => ⟨#[], by rw [e]; simp⟩) (fun m hm => ?_) (fun b u e => ?_) I.bare
  · have e : b = it := by simpa using hb
    subst e
    exact ⟨h1, hL, h2, h3⟩
  · obtain ⟨o, es, ep, ho, r⟩ := hm
    exact ⟨o, es, ep, k _ o (Ne.symm hL) ho, r⟩
  · refine (I.hok b u e).stay (fun c v hc q => k c v ?_ q) (fun _ q => q) fun _ _ q => q
    rcases hc with z | z
    · rw [z]; exact nit b u e
    · exact nit c _ z
theorem Inv.tok (I : Inv X pins σ H s) (t : Nat) : Inv X pins σ H { s with toks := t } := I.un (h' := s.heap) (t' := t) Un.refl I.hok
/-- all objects kept -/
theorem Inv.kept {t' : Nat} (I : Inv X pins σ H s) (k : ∀ b u, s.heap.get? b = some u → h'.get? b = some u) : Inv X pins σ H { s with heap := h', toks := t' } := I.un (Un.kept k) (I.hok.kept k)
/-- a new object laid and tracked -/
theorem Inv.laid {a : Addr} {o : HO} {t' : Nat} (I : Inv X pins σ H s) (k : ∀ b u, s.heap.get? b = some u → h'.get? b = some u) (hp : s.heap.objs.size ≤ a) (new : ObjOk X.prog X.w (upd H a o) h' a o) :
    Inv X pins σ (upd H a o) { s with heap := h', toks := t' } := I.un (Un.laid k hp (I.hok.fresh hp)) (I.hok.laid k hp new)
/-- an object written -/
theorem Inv.write {x e : Addr} {o : HO} {t' : Nat} (I : Inv X pins σ H s) (mu : Mut (H x)) (he : e = x ∨ H e = some (.own x)) (k : ∀ b u, b ≠ e → s.heap.get? b = some u → h'.get? b = some u) (heo : ∃ u, h'.get? e = some u)
    (new : ObjOk X.prog X.w (upd H x o) h' x o) : Inv X pins σ (upd H x o) { s with heap := h', toks := t' } := I.un (Un.write mu he k heo) (I.hok.write mu he k heo new)
/-- forgetting slots, pins -/
theorem Inv.weak {σ' : List (Option V)} (I : Inv X pins σ H s) (hl : σ'.length = σ.length) (w : ∀ (i : Nat) v, σ'[i]? = some (some v) → σ[i]? = some (some v)) : Inv X pins σ' H s :=
  ⟨I.ok, I.os, I.bare, I.base, let ⟨m, hn, hl'⟩ := I.loc; ⟨m, hn, fun i x v e1 e2 e3 => hl' i x v e1 (w i v e2) e3⟩, I.cell, I.free, I.freeC, I.pin, I.hok, hl.trans I.len⟩
theorem Inv.pins_of {pins' : List (Addr × Obj)} (I : Inv X pins σ H s) (h : ∀ p ∈ pins', s.heap.get? p.1 = some p.2 ∧ H p.1 = none ∧ p.1 ≠ X.env.locals ∧ p.1 ∉ X.fs ∧ ∀ v, p.2.data ≠ .cell v) : Inv X pins' σ H s :=
  ⟨I.ok, I.os, I.bare, I.base, I.loc, I.cell, I.free, I.freeC, fun p hp => (List.mem_append.mp hp).elim (fun z => I.pin p (List.mem_append_left _ z)) (h p), I.hok, I.len⟩

theorem nodup_ix {N : List Str} (hN : N.Nodup) {i j : Nat} {x : Str} (a : N[i]? = some x) (b : N[j]? = some x) : i = j := by
  obtain ⟨h1, e1⟩ := List.getElem?_eq_some_iff.mp a
  obtain ⟨h2, e2⟩ := List.getElem?_eq_some_iff.mp b
  exact (List.getElem_inj hN).mp (e1.trans e2.symm)

/-- a name is stored; what changed -/
theorem store_ok2 {M : Model} {A : Around} {E : Value → Shared → Prop} {i : Nat} {x : Str} {v : V} {u : Value} {Q : Unit → Shared → Prop} (I : Inv X pins σ H s) (hN : X.N.Nodup) (hi : X.N[i]? = some x) (hx : Loc X.env.scope x) (r : RelV v u)
    (h : ∀ s', Inv X pins (σ.set i (some v)) H s' → (∃ a, Heap.SameBut a s.heap s'.heap ∧ (a = X.env.locals ∨ X.env.cells.lookup x = some a)) → Q () s') (hf : X.fn x = true ∨ X.env.scope.names.lookup x = some .local := by first | exact .inl rfl | exact .inr rfl | assumption) : wpAny M A (storeName X.env x u) Q E s := by
  obtain ⟨m, hn, hl⟩ := id I.loc
  have hcls : (X.env.scope.kind == .class || (X.env.scope.kind == .module && X.env.locals != X.env.globals)) = false := by rw [I.ok.kind]; rfl
  have hiσ : i < σ.length := by rw [I.len]; exact (List.getElem?_eq_some_iff.mp hi).1
  have cne := I.cne
  have tracked : ∀ {a : Addr} {h' : Heap}, (∃ o, s.heap.get? a = some o ∧ H a = none) → Heap.SameBut a s.heap h' → HOk X.prog X.w H h' := fun {a h'} ha hs b ob e => by
    obtain ⟨_, _, hfree⟩ := ha
    refine (I.hok b ob e).stay (fun c w' hc q => (hs.2 c ?_).trans q) (fun _ q => q) fun _ _ q => q
    rintro rfl
    rcases hc with rfl | hc
    · rw [hfree] at e; cases e
    · rw [hfree] at hc; cases hc
  rcases hx with hk | hk
  · refine wpAny_storeName_local hk hn (fun h' hn' hs => ?_) hcls
    obtain ⟨oL, _, _, hoL, _⟩ := id hn
    refine h _ ⟨I.ok, I.os, I.bare, ⟨fun b o e n hb hx => ?_, fun b o e n hb hx => ?_, I.base.free, fun b o e hx => ?_, I.base.tups, I.base.frzs, I.base.tbls⟩, ⟨_, hn', fun j y v' e1 e2 e3 => ?_⟩, fun y c e => ?_, I.free, I.freeC, fun p hp => ?_, tracked ⟨oL, hoL, I.free⟩ hs, by simpa using I.len⟩ ⟨_, hs, .inl rfl⟩
    · exact (hs.2 b (Nat.ne_of_lt (Nat.lt_of_lt_of_le (Heap.lt_size e) I.ok.above))).trans (I.base.keep b o e n hb hx)
    · obtain ⟨sl, e1⟩ := I.base.slot b o e n hb hx
      exact ⟨sl, (hs.2 b (Nat.ne_of_lt (Nat.lt_of_lt_of_le (Heap.lt_size e) I.ok.above))).trans e1⟩
    · obtain ⟨o', e1⟩ := I.base.there b o e hx
      exact ⟨o', (hs.2 b (Nat.ne_of_lt (Nat.lt_of_lt_of_le (Heap.lt_size e) I.ok.above))).trans e1⟩
    · by_cases hj : j = i
      · subst hj
        rw [hi] at e1; cases e1
        rw [List.getElem?_set_self hiσ] at e2
        cases e2
        exact ⟨u, r, .inl ⟨hk, by simp⟩⟩
      · rw [List.getElem?_set_ne (Ne.symm hj)] at e2
        obtain ⟨u', r', q⟩ := hl j y v' e1 e2 e3
        refine ⟨u', r', ?_⟩
        rcases q with ⟨k, e⟩ | ⟨k, c, e, z⟩
        · refine .inl ⟨k, ?_⟩
          have : y ≠ x := fun e => hj (nodup_ix hN e1 (e ▸ hi))
          simp [this, e]
        · exact .inr ⟨k, c, e, z.sameBut hs (cne y c e)⟩
    · obtain ⟨w', z⟩ := I.cell y c e
      exact ⟨w', z.sameBut hs (cne y c e)⟩
    · obtain ⟨e, n, ne, nf, d⟩ := I.pin p hp
      exact ⟨(hs.2 p.1 ne).trans e, n, ne, nf, d⟩
  · have hfn : X.fn x = true := by
      rcases hf with z | z
      · exact z
      · rw [z] at hk; cases hk
    obtain ⟨c, hc⟩ := I.ok.has x (.inl hk)
    obtain ⟨w', z⟩ := I.cell x c hc
    refine wpAny_storeName_cell I.ok.kind hk hc z (fun h' hc' hs => ?_)
    obtain ⟨oc, hoc, hocd⟩ := id z
    refine h { s with heap := h' } ⟨I.ok, I.os, I.bare, ⟨fun b o e n hb hx => ?_, fun b o e n hb hx => ?_, I.base.free, fun b o e hx => ?_, I.base.tups, I.base.frzs, I.base.tbls⟩, ⟨m, hn.sameBut hs (Ne.symm (cne x c hc)), fun j y v' e1 e2 e3 => ?_⟩, fun y c' e => ?_, I.free, I.freeC, fun p hp => ?_, tracked ⟨oc, hoc, I.freeC x c hc⟩ hs, by simpa using I.len⟩ ⟨c, hs, .inr hc⟩
    · exact (hs.2 b (Nat.ne_of_lt (Nat.lt_of_lt_of_le (Heap.lt_size e) (I.ok.cab x c hfn hc)))).trans (I.base.keep b o e n hb hx)
    · obtain ⟨sl, e1⟩ := I.base.slot b o e n hb hx
      exact ⟨sl, (hs.2 b (Nat.ne_of_lt (Nat.lt_of_lt_of_le (Heap.lt_size e) (I.ok.cab x c hfn hc)))).trans e1⟩
    · obtain ⟨o', e1⟩ := I.base.there b o e hx
      exact ⟨o', (hs.2 b (Nat.ne_of_lt (Nat.lt_of_lt_of_le (Heap.lt_size e) (I.ok.cab x c hfn hc)))).trans e1⟩
    · by_cases hj : j = i
      · subst hj
        rw [hi] at e1; cases e1
        rw [List.getElem?_set_self hiσ] at e2
        cases e2
        exact ⟨u, r, .inr ⟨.inl hk, c, hc, hc'⟩⟩
      · rw [List.getElem?_set_ne (Ne.symm hj)] at e2
        obtain ⟨u', r', q⟩ := hl j y v' e1 e2 e3
        refine ⟨u', r', ?_⟩
        rcases q with q | ⟨k, c', e, z'⟩
        · exact .inl q
        · refine .inr ⟨k, c', e, z'.sameBut hs ?_⟩
          rintro rfl
          exact hj (nodup_ix hN e1 (I.ok.inj _ _ _ e hc ▸ hi))
    · by_cases hcc : c' = c
      · subst hcc; exact ⟨_, hc'⟩
      · obtain ⟨w2, z2⟩ := I.cell y c' e
        exact ⟨w2, z2.sameBut hs hcc⟩
    · obtain ⟨e, n, ne, nf, d⟩ := I.pin p hp
      refine ⟨(hs.2 p.1 ?_).trans e, n, ne, nf, d⟩
      intro q
      rw [q, hoc] at e
      have q' : oc = p.2 := Option.some.inj e
      exact d w' (by rw [← q']; exact hocd)
theorem store_ok {M : Model} {A : Around} {E : Value → Shared → Prop} {i : Nat} {x : Str} {v : V} {u : Value} {Q : Unit → Shared → Prop} (I : Inv X pins σ H s) (hN : X.N.Nodup) (hi : X.N[i]? = some x) (hx : Loc X.env.scope x) (r : RelV v u)
    (h : ∀ s', Inv X pins (σ.set i (some v)) H s' → Q () s') (hf : X.fn x = true ∨ X.env.scope.names.lookup x = some .local := by first | exact .inl rfl | exact .inr rfl | assumption) : wpAny M A (storeName X.env x u) Q E s :=
  store_ok2 I hN hi hx r (fun s' I' _ => h s' I') hf
/-- behind a call or a block, the state as it is -/
theorem Inv.call' {s' : Shared} {ch : List Addr} (I : Inv X pins σ H s) (ho : s'.os = s.os) (u : Un (frs X.stack) ch H H' s.heap s'.heap) (hok : HOk X.prog X.w H' s'.heap) (hg : AllBare s'.gens)
    (hch : ∀ b ∈ ch, (b ∈ X.ex ∨ X.s₀.heap.objs.size ≤ b) ∧ b ≠ X.env.locals ∧ (∀ x c, X.env.cells.lookup x = some c → c ≠ b) ∧ ∀ p ∈ X.pn ++ pins, p.1 ≠ b) : Inv X pins σ H' s' := by
  obtain ⟨h', g', d', t', o'⟩ := s'
  have e : o' = s.os := ho
  subst e
  exact I.call (g' := g') (t' := t') (d' := d') u hok hg hch
end

/-- an exception: its class, its own dict's address (where it has one), the abstract heap behind it -/
abbrev XK := Value → Option Addr → Hp → Prop
abbrev St := List (Option V)
abbrev VK := V → Hp → Prop
/-- an expression's reading; a test's; an argument list's -/
abbrev TE := St → Hp → VK → Prop
abbrev TT := St → Hp → (Bool → Hp → Prop) → Prop
abbrev TA := St → Hp → (List V → Hp → Prop) → Prop
/-- what is wanted behind a statement -/
structure Ends where
  nx : St → Hp → Prop
  rt : VK
  bk : St → Hp → Prop := fun _ _ => False
  ct : St → Hp → Prop := fun _ _ => False
abbrev TS := Ends → St → Hp → Prop

def EP (X : Cx) (pins : List (Addr × Obj)) (σ : St) (Q : VK) (u : Value) (s' : Shared) : Prop := ∃ v H', Inv X pins σ H' s' ∧ RelV v u ∧ Q v H'
def TP (X : Cx) (pins : List (Addr × Obj)) (σ : St) (Q : Bool → Hp → Prop) (b : Bool) (s' : Shared) : Prop := ∃ H', Inv X pins σ H' s' ∧ Q b H'
def AP (X : Cx) (pins : List (Addr × Obj)) (σ : St) (Q : List V → Hp → Prop) (us : List Value) (s' : Shared) : Prop := ∃ vs H', Inv X pins σ H' s' ∧ Vals vs us ∧ Q vs H'
def SP (X : Cx) (pins : List (Addr × Obj)) (D : Ends) (f : Flow) (s' : Shared) : Prop :=
  match f with
  | .next => ∃ σ' H', Inv X pins σ' H' s' ∧ D.nx σ' H'
  | .brk => ∃ σ' H', Inv X pins σ' H' s' ∧ D.bk σ' H'
  | .cont => ∃ σ' H', Inv X pins σ' H' s' ∧ D.ct σ' H'
  | .ret u => ∃ v σ' H', Inv X pins σ' H' s' ∧ RelV v u ∧ D.rt v H'

def PE (X : Cx) (e : Expr) (t : TE) : Prop :=
  ∀ (pins : List (Addr × Obj)) (s : Shared) (σ : St) (H : Hp) (Q : VK), Inv X pins σ H s → t σ H Q → wpAny (model X.prog X.w) X.A (eval e X.env) (EP X pins σ Q) X.xe s
def PT (X : Cx) (e : Expr) (t : TT) : Prop :=
  ∀ (pins : List (Addr × Obj)) (s : Shared) (σ : St) (H : Hp) (Q : Bool → Hp → Prop), Inv X pins σ H s → t σ H Q → wpAny (model X.prog X.w) X.A (isTrue e X.env (eval e X.env)) (TP X pins σ Q) X.xe s
/-- a test whatever its 'whole' is (and, or) -/
def PW (X : Cx) (e : Expr) (t : TT) : Prop :=
  ∀ (whole : Sem Value) (pins : List (Addr × Obj)) (s : Shared) (σ : St) (H : Hp) (Q : Bool → Hp → Prop), Inv X pins σ H s → t σ H Q → wpAny (model X.prog X.w) X.A (isTrue e X.env whole) (TP X pins σ Q) X.xe s
theorem PW.pt {X : Cx} {e : Expr} {t : TT} (h : PW X e t) : PT X e t := h _
/-- an argument list (no star), from the left -/
def PA (X : Cx) (es : List Expr) (t : TA) : Prop :=
  ∀ (pos : Pos) (pins : List (Addr × Obj)) (s : Shared) (σ : St) (H : Hp) (Q : List V → Hp → Prop), Inv X pins σ H s → t σ H Q → wpAny (model X.prog X.w) X.A (spliced (backTo pos (starEach es X.env))) (AP X pins σ Q) X.xe s
def PS (X : Cx) (st : Stmt) (t : TS) : Prop :=
  ∀ (pins : List (Addr × Obj)) (s : Shared) (σ : St) (H : Hp) (D : Ends), Inv X pins σ H s → t D σ H → wpAny (model X.prog X.w) X.A (exec st X.env) (SP X pins D) X.xe s
def PSs (X : Cx) (st : List Stmt) (t : TS) : Prop :=
  ∀ (pins : List (Addr × Obj)) (s : Shared) (σ : St) (H : Hp) (D : Ends), Inv X pins σ H s → t D σ H → wpAny (model X.prog X.w) X.A (execs st X.env) (SP X pins D) X.xe s
/-- weaken the end -/
theorem thn {α : Type} {t : Sem α} {Q Q' : α → Shared → Prop} {M : Model} {A : Around} {E : Value → Shared → Prop} {s : Shared} (h : wpAny M A t Q E s) (hQ : ∀ a s, Q a s → Q' a s) : wpAny M A t Q' E s := wpAny_mono h hQ fun _ _ x => x
end L2

namespace L2
open PySem PySem.Spec PyProof.Rows
section
variable {X : Cx}

def tVar (i : Nat) : TE := fun σ H Q => ∃ v, σ[i]? = some (some v) ∧ Q v H
def tC (v : V) : TE := fun _ H Q => Q v H
theorem pe_var {i : Nat} {x : Str} {pos : Pos} (hN : X.N[i]? = some x) (hv : Vis X.env.scope x) (hd : (x == ("__debug__" : Str)) = false := by decide) (hcd : (x == ("__classdict__" : Str)) = false := by decide) : PE X (.Name x pos) (tVar i) := by
  intro pins s σ H Q I h
  obtain ⟨v, e, h⟩ := h
  obtain ⟨m, hn, hl⟩ := I.loc
  obtain ⟨u, r, l⟩ := hl i x v hN e hv
  have fin : EP X pins σ Q u s := ⟨v, H, I, r, h⟩
  rcases l with ⟨hk, hm⟩ | ⟨hk, c, hc, hcell⟩
  · exact wpAny_Name (wpAny_loadName_local I.ok.kind hk hn hm fin) hd
  · rcases hk with hk | hk
    · exact wpAny_Name (wpAny_loadName_cell I.ok.kind hk hc hcell fin) hd
    · exact wpAny_Name (wpAny_loadName_free I.ok.kind hk hc hcell fin hcd) hd
theorem pe_int {i j pos} : PE X (.Constant (.int i) j pos) (tC (.int i)) := fun _ _ _ H _ I h => wpAny_Constant_int ⟨.int i, H, I.tok _, ⟨_, rfl⟩, h⟩
theorem pe_bl {b j pos} : PE X (.Constant (.bool b) j pos) (tC (.bl b)) := fun _ _ _ H _ I h => Constant_bool ⟨.bl b, H, I, rfl, h⟩
theorem pe_non {j pos} : PE X (.Constant .none j pos) (tC .non) := fun _ _ _ H _ I h => Constant_none ⟨.non, H, I, rfl, h⟩
theorem pe_str {x j pos} : PE X (.Constant (.str x) j pos) (tC (.str x)) := fun _ _ _ H _ I h => Calls.Constant_str ⟨.str x, H, I.tok _, ⟨_, rfl⟩, h⟩

/-- a global name of the def -/
def Gl (X : Cx) (x : Str) : Prop := X.env.kindOf x = some .globalImplicit
theorem ld_glob {E : Value → Shared → Prop} {pins : List (Addr × Obj)} {s : Shared} {σ : St} {H : Hp} {x : Str} {u : Value} {pos : Pos} {Q : Value → Shared → Prop} (I : Inv X pins σ H s) (hg : Gl X x) (hm : X.mg x = some u) (h : Q u s)
    (hd : (x == ("__debug__" : Str)) = false := by decide) : wpAny (model X.prog X.w) X.A (eval (.Name x pos) X.env) Q E s :=
  Calls.Name_function_global I.ok.kind hg (Calls.loadGlobal_global (by rw [I.ok.glob]; exact I.mod.glob.keeps I.bk) hm h) hd
theorem ld_blt {E : Value → Shared → Prop} {pins : List (Addr × Obj)} {s : Shared} {σ : St} {H : Hp} {x : Str} {u : Value} {pos : Pos} {Q : Value → Shared → Prop} (I : Inv X pins σ H s) (hg : Gl X x) (hm : X.mg x = none) (hv : bootBuiltins x = some u) (h : Q u s)
    (hn : x ≠ "__name__" := by decide) (hd : (x == ("__debug__" : Str)) = false := by decide) : wpAny (model X.prog X.w) X.A (eval (.Name x pos) X.env) Q E s := by
  obtain ⟨mb, h1, h2⟩ := I.mod.blt
  exact Calls.Name_function_global I.ok.kind hg (Calls.loadGlobal_builtin (by rw [I.ok.glob]; exact I.mod.glob.keeps I.bk) hm (by rw [I.ok.blt]; exact h1.keeps I.bk) ((h2 x hn).trans hv) h) hd
variable {a b : Expr} {ta tb : TE} {pos : Pos}
def PC (X : Cx) (op : CmpOp) (a b : Expr) (t : TE) : Prop :=
  ∀ (pins : List (Addr × Obj)) (s : Shared) (σ : St) (H : Hp) (Q : VK), Inv X pins σ H s → t σ H Q →
    wpAny (model X.prog X.w) X.A (eval a X.env) (fun v s₁ => wpAny (model X.prog X.w) X.A (eval b X.env) (fun u s₂ => wpAny (model X.prog X.w) X.A (compareOp op v u) (EP X pins σ Q) X.xe s₂) X.xe s₁) X.xe s
variable {tA tB' : TT} {rest : List Expr}
def tAnd (t u : TT) : TT := fun σ H Q => t σ H fun c H1 => if c = true then u σ H1 Q else Q false H1
def tOr (t u : TT) : TT := fun σ H Q => t σ H fun c H1 => if c = true then Q true H1 else u σ H1 Q
def tNot (t : TT) : TT := fun σ H Q => t σ H fun c H1 => Q (!c) H1
theorem pw_and1 (ha : PT X a tA) : PW X (.BoolOp .And [a] pos) tA := by
  intro wh pins s σ H Q I h
  refine isTrue_and (thn (ha pins s σ H Q I h) fun c s1 e => ?_)
  cases c with
  | true => exact isTrue_and_nil e
  | false => exact e
theorem pw_or1 (ha : PT X a tA) : PW X (.BoolOp .Or [a] pos) tA := by
  intro wh pins s σ H Q I h
  refine isTrue_or (thn (ha pins s σ H Q I h) fun c s1 e => ?_)
  cases c with
  | false => exact isTrue_or_nil e
  | true => exact e
theorem pw_and (ha : PT X a tA) (hb : PW X (.BoolOp .And (b :: rest) pos) tB') : PW X (.BoolOp .And (a :: b :: rest) pos) (tAnd tA tB') := by
  intro wh pins s σ H Q I h
  refine isTrue_and (thn (ha pins s σ H _ I h) fun c s1 ⟨H1, I1, q1⟩ => ?_)
  cases c with
  | true => exact hb wh pins s1 σ H1 Q I1 q1
  | false => exact ⟨H1, I1, q1⟩
theorem pw_or (ha : PT X a tA) (hb : PW X (.BoolOp .Or (b :: rest) pos) tB') : PW X (.BoolOp .Or (a :: b :: rest) pos) (tOr tA tB') := by
  intro wh pins s σ H Q I h
  refine isTrue_or (thn (ha pins s σ H _ I h) fun c s1 ⟨H1, I1, q1⟩ => ?_)
  cases c with
  | true => exact ⟨H1, I1, q1⟩
  | false => exact hb wh pins s1 σ H1 Q I1 q1
theorem pt_not (ha : PT X a tA) : PT X (.UnaryOp .Not a pos) (tNot tA) := by
  intro pins s σ H Q I h
  exact isTrue_not (ha pins s σ H (fun c H1 => Q (!c) H1) I h)
/-- .. as values (bools) -/
def tAndV (ta tb : TE) : TE := fun σ H Q => ta σ H fun x H1 => ∃ c, x = .bl c ∧ if c = true then tb σ H1 Q else Q (.bl false) H1
def tOrV (ta tb : TE) : TE := fun σ H Q => ta σ H fun x H1 => ∃ c, x = .bl c ∧ if c = true then Q (.bl true) H1 else tb σ H1 Q
def tNotV (ta : TE) : TE := fun σ H Q => ta σ H fun x H1 => ∃ c, x = .bl c ∧ Q (.bl (!c)) H1
theorem pe_one {op} {t : TE} (h : PE X a t) : PE X (.BoolOp op [a] pos) t := fun pins s σ H Q I hw => BoolOp_one (h pins s σ H Q I hw)
theorem pe_and (ha : PE X a ta) (hb : PE X (.BoolOp .And (b :: rest) pos) tb) : PE X (.BoolOp .And (a :: b :: rest) pos) (tAndV ta tb) := by
  intro pins s σ H Q I h
  refine BoolOp_and (thn (ha pins s σ H _ I h) fun v s1 ⟨x, H1, I1, r1, q1⟩ => ?_)
  obtain ⟨c, rfl, q1⟩ := q1
  cases r1
  refine wpAny_truthy_bool ?_
  cases c with
  | true => exact hb pins s1 σ H1 Q I1 q1
  | false => exact ⟨.bl false, H1, I1, rfl, q1⟩
theorem pe_or (ha : PE X a ta) (hb : PE X (.BoolOp .Or (b :: rest) pos) tb) : PE X (.BoolOp .Or (a :: b :: rest) pos) (tOrV ta tb) := by
  intro pins s σ H Q I h
  refine BoolOp_or (thn (ha pins s σ H _ I h) fun v s1 ⟨x, H1, I1, r1, q1⟩ => ?_)
  obtain ⟨c, rfl, q1⟩ := q1
  cases r1
  refine wpAny_truthy_bool ?_
  cases c with
  | false => exact hb pins s1 σ H1 Q I1 q1
  | true => exact ⟨.bl true, H1, I1, rfl, q1⟩
theorem pe_not (ha : PE X a ta) : PE X (.UnaryOp .Not a pos) (tNotV ta) := by
  intro pins s σ H Q I h
  refine UnaryOp_ (thn (ha pins s σ H _ I h) fun v s1 ⟨x, H1, I1, r1, q1⟩ => ?_)
  obtain ⟨c, rfl, q1⟩ := q1
  cases r1
  exact not_of (wpAny_truthy_bool ⟨.bl (!c), H1, I1, rfl, q1⟩)
/-- a if t else b -/
def tIf (t : TT) (ta tb : TE) : TE := fun σ H Q => t σ H fun c H1 => if c = true then ta σ H1 Q else tb σ H1 Q
theorem pe_ifExp {c : Expr} (hc : PT X c tA) (ha : PE X a ta) (hb : PE X b tb) : PE X (.IfExp c a b pos) (tIf tA ta tb) := by
  intro pins s σ H Q I h
  refine wpAny_IfExp (thn (hc pins s σ H _ I h) fun d s1 ⟨H1, I1, q1⟩ => ?_)
  cases d with
  | true => exact ha pins s1 σ H1 Q I1 q1
  | false => exact hb pins s1 σ H1 Q I1 q1
end
end L2

namespace L2
open PySem PySem.Spec PyProof.Rows

def SqL (K : PySem.W.Frag) (H : Hp) (a : Addr) (xs : List V) : Prop :=
  Rd H a (.lst xs) ∨
    ∃ (o : Obj) (its : Array Value) (n : Nat), K.lookup a = some o ∧ o.cls = .type "list" ∧ o.dict = none ∧ o.data = .seq its n ∧ its.size ≤ sizeLine ∧ Vals xs its.toList
def SqT (K : PySem.W.Frag) (H : Hp) (a : Addr) (xs : List V) : Prop :=
  Rd H a (.tup xs) ∨
    ∃ (o : Obj) (its : Array Value) (n : Nat), K.lookup a = some o ∧ o.cls = .type "tuple" ∧ o.data = .seq its n ∧ its.size ≤ sizeLine ∧ Vals xs its.toList
def absV : Value → Option V
  | .none => some .non
  | .bool b => some (.bl b)
  | .int i _ => some (.int i)
  | .str x _ => some (.str x)
  | .bytes b _ => some (.byt b)
  | .float b _ => some (.flt b)
  | .ref a => some (.ref a)
  | .type n => some (.ty n)
  | _ => none
theorem RelV.abs {x : V} {u : Value} (r : RelV x u) : absV u = some x := by
  cases x with
  | non => cases r; rfl
  | bl _ => cases r; rfl
  | int _ => obtain ⟨t, rfl⟩ := r; rfl
  | str _ => obtain ⟨t, rfl⟩ := r; rfl
  | byt _ => obtain ⟨t, rfl⟩ := r; rfl
  | flt _ => obtain ⟨t, rfl⟩ := r; rfl
  | ref _ => cases r; rfl
  | ty _ => cases r; rfl
theorem RelV.inj {x y : V} {u : Value} (r : RelV x u) (q : RelV y u) : x = y := Option.some.inj (r.abs.symm.trans q.abs)
theorem Vals.inj : ∀ {xs ys : List V} {us : List Value}, Vals xs us → Vals ys us → xs = ys := by
  intro xs ys us h
  induction h generalizing ys with
  | nil =>
    intro h2
    cases h2
    rfl
  | cons r t ih =>
    intro h2
    cases h2 with
    | cons r' t' => rw [r.inj r', ih t']
section
variable {X : Cx} {pins : List (Addr × Obj)} {σ : St} {H : Hp} {s : Shared} {a : Addr} {xs ys : List V}
theorem SqL.of {K : PySem.W.Frag} (h : H a = some (.lst xs)) : SqL K H a xs := .inl (.inl h)
theorem SqT.of {K : PySem.W.Frag} (h : H a = some (.tup xs)) : SqT K H a xs := .inl (.inl h)
theorem Inv.list (I : Inv X pins σ H s) (h : SqL X.K H a xs) : ∃ its : List Value, Vals xs its ∧ PlainL s.heap a its.toArray ∧ xs.length ≤ sizeLine := by
  rcases h with h | ⟨o, its, n, hk, hc, hd, hs, hz, r⟩
  · obtain ⟨z, its, n, r, e⟩ := h.ok I.hok
    exact ⟨its, r, ⟨_, n, e, rfl, rfl, rfl⟩, z⟩
  · refine ⟨its.toList, r, ⟨o, n, I.kIn a o hk, hc, hd, by simpa using hs⟩, ?_⟩
    have e := r.length
    simp only [Array.length_toList] at e
    omega
theorem Inv.tuple (I : Inv X pins σ H s) (h : SqT X.K H a xs) : ∃ its : List Value, Vals xs its ∧ IsTup s.heap a its.toArray ∧ xs.length ≤ sizeLine := by
  rcases h with h | ⟨o, its, n, hk, hc, hs, hz, r⟩
  · obtain ⟨z, its, r, p⟩ := h.ok I.hok
    exact ⟨its, r, p, z⟩
  · refine ⟨its.toList, r, ⟨o, I.kIn a o hk, hc, n, by simpa using hs⟩, ?_⟩
    have e := r.length
    simp only [Array.length_toList] at e
    omega
theorem Inv.list_inj (I : Inv X pins σ H s) (h : SqL X.K H a xs) (h' : SqL X.K H a ys) : xs = ys := by
  obtain ⟨its, r, ⟨o, n, e, _, _, d⟩, _⟩ := I.list h
  obtain ⟨its', r', ⟨o', n', e', _, _, d'⟩, _⟩ := I.list h'
  rw [e] at e'; cases e'
  rw [d] at d'
  injection d' with d1 _
  have : its = its' := by simpa using congrArg Array.toList d1
  subst this
  exact r.inj r'
theorem Inv.tuple_inj (I : Inv X pins σ H s) (h : SqT X.K H a xs) (h' : SqT X.K H a ys) : xs = ys := by
  obtain ⟨its, r, ⟨o, e, _, n, d⟩, _⟩ := I.tuple h
  obtain ⟨its', r', ⟨o', e', _, n', d'⟩, _⟩ := I.tuple h'
  rw [e] at e'; cases e'
  rw [d] at d'
  injection d' with d1 _
  have : its = its' := by simpa using congrArg Array.toList d1
  subst this
  exact r.inj r'
end

abbrev Cx.wish (X : Cx) (E : Value → Shared → Prop) : Cx := { X with xe := E }
/-- no exception leaves -/
abbrev Cx.nox (X : Cx) : Cx := X.wish fun _ _ => False
theorem Cx.Ok.wish {X : Cx} (ok : X.Ok) (E : Value → Shared → Prop) : (X.wish E).Ok :=
  ⟨ok.mod, ok.kind, ok.glob, ok.blt, ok.above, ok.inj, ok.has, ok.cab, ok.hd, ok.frames, ok.stk, ok.exf, ok.bs, ok.bsz, ok.noex, ok.exfs, ok.funs, ok.frf⟩
theorem Cx.Ok.unwish {X : Cx} {E : Value → Shared → Prop} (ok : (X.wish E).Ok) : X.Ok :=
  ⟨ok.mod, ok.kind, ok.glob, ok.blt, ok.above, ok.inj, ok.has, ok.cab, ok.hd, ok.frames, ok.stk, ok.exf, ok.bs, ok.bsz, ok.noex, ok.exfs, ok.funs, ok.frf⟩
section
variable {X : Cx} {pins : List (Addr × Obj)} {σ : St} {H : Hp} {s : Shared} {E : Value → Shared → Prop}
theorem Inv.wish (I : Inv X pins σ H s) (E : Value → Shared → Prop) : Inv (X.wish E) pins σ H s := ⟨I.ok.wish E, I.os, I.bare, I.base, I.loc, I.cell, I.free, I.freeC, I.pin, I.hok, I.len⟩
theorem Inv.unwish (I : Inv (X.wish E) pins σ H s) : Inv X pins σ H s := ⟨I.ok.unwish, I.os, I.bare, I.base, I.loc, I.cell, I.free, I.freeC, I.pin, I.hok, I.len⟩
theorem SP.unwish {D : Ends} {f : Flow} {s' : Shared} (h : SP (X.wish E) pins D f s') : SP X pins D f s' := by
  cases f with
  | next => obtain ⟨σ', H', I, q⟩ := h; exact ⟨σ', H', I.unwish, q⟩
  | brk => obtain ⟨σ', H', I, q⟩ := h; exact ⟨σ', H', I.unwish, q⟩
  | cont => obtain ⟨σ', H', I, q⟩ := h; exact ⟨σ', H', I.unwish, q⟩
  | ret u => obtain ⟨v, σ', H', I, r, q⟩ := h; exact ⟨v, σ', H', I.unwish, r, q⟩
theorem PE.nox {e : Expr} {t : TE} (h : PE X.nox e t) : PE X e t := fun pins s σ H Q I hw =>
  wpAny_mono (h pins s σ H Q (I.wish _) hw) (fun _ _ ⟨v, H', I', r, q⟩ => ⟨v, H', I'.unwish, r, q⟩) fun _ _ z => False.elim z
theorem PT.nox {e : Expr} {t : TT} (h : PT X.nox e t) : PT X e t := fun pins s σ H Q I hw =>
  wpAny_mono (h pins s σ H Q (I.wish _) hw) (fun _ _ ⟨H', I', q⟩ => ⟨H', I'.unwish, q⟩) fun _ _ z => False.elim z
theorem PSs.nox {st : List Stmt} {t : TS} (h : PSs X.nox st t) : PSs X st t := fun pins s σ H D I hw =>
  wpAny_mono (h pins s σ H D (I.wish _) hw) (fun _ _ q => q.unwish) fun _ _ z => False.elim z
end

section
variable {X : Cx} {st : Stmt} {rest : List Stmt} {t u : TS} {e : Expr} {te : TE} {pos : Pos}
def tNext : TS := fun D σ H => D.nx σ H
def tSeq (t u : TS) : TS := fun D σ H => t { D with nx := u D } σ H
theorem pss_nil : PSs X [] tNext := fun _ _ σ H _ I h => wpAny_execs_nil ⟨σ, H, I, h⟩
theorem pss_cons (h1 : PS X st t) (h2 : PSs X rest u) : PSs X (st :: rest) (tSeq t u) := by
  intro pins s σ H D I h
  refine wpAny_execs_cons (thn (h1 pins s σ H { D with nx := u D } I h) fun f s1 q => ?_)
  cases f with
  | next =>
    obtain ⟨σ', H', I', q⟩ := q
    exact h2 pins s1 σ' H' D I' q
  | ret v => exact q
  | brk => exact q
  | cont => exact q
theorem pss_one (h1 : PS X st t) : PSs X [st] t := by
  intro pins s σ H D I h
  refine wpAny_execs_cons (thn (h1 pins s σ H D I h) fun f s1 q => ?_)
  cases f with
  | next => exact wpAny_execs_nil q
  | ret v => exact q
  | brk => exact q
  | cont => exact q
/-- in a def's body nothing is shown -/
theorem Inv.quiet {pins : List (Addr × Obj)} {σ : St} {H : Hp} {s : Shared} (I : Inv X pins σ H s) : interactive X.env = false := by simp [interactive, I.ok.kind]
/-- an expression whose value is dropped -/
def tDrop (te : TE) : TS := fun D σ H => te σ H fun _ H1 => D.nx σ H1
theorem ps_expr (he : PE X e te) (hs : swapsWith e none pos.line X.env = pure false := by rfl) : PS X (.Expr e pos) (tDrop te) := by
  intro pins s σ H D I h
  exact wpAny_Expr_any (thn (he pins s σ H _ I h) fun v s1 ⟨x, H1, I1, r1, q1⟩ => ⟨σ, H1, I1, q1⟩) I.quiet hs
def tRet (te : TE) : TS := fun D σ H => te σ H D.rt
theorem ps_ret (he : PE X e te) : PS X (.Return (some e) pos) (tRet te) := by
  intro pins s σ H D I h
  exact wpAny_Return_some (thn (he pins s σ H _ I h) fun v s1 ⟨x, H1, I1, r1, q1⟩ => ⟨x, σ, H1, I1, r1, q1⟩)
def tIfS (c : TT) (t u : TS) : TS := fun D σ H => c σ H fun b H1 => if b = true then t D σ H1 else u D σ H1
theorem ps_if {c : Expr} {a b : List Stmt} {tc : TT} (hc : PT X c tc) (ha : PSs X a t) (hb : PSs X b u) : PS X (.If c a b pos) (tIfS tc t u) := by
  intro pins s σ H D I h
  refine wpAny_If (thn (hc pins s σ H _ I h) fun d s1 ⟨H1, I1, q1⟩ => ?_)
  cases d with
  | true => exact ha pins s1 σ H1 D I1 q1
  | false => exact hb pins s1 σ H1 D I1 q1
end

abbrev TG := V → St → Hp → (St → Hp → Prop) → Prop
abbrev TGs := List V → St → Hp → (St → Hp → Prop) → Prop
def PG (X : Cx) (target : Expr) (t : TG) : Prop :=
  ∀ (pins : List (Addr × Obj)) (s : Shared) (σ : St) (H : Hp) (v : V) (u : Value) (Q : St → Hp → Prop), Inv X pins σ H s → RelV v u → t v σ H Q →
    wpAny (model X.prog X.w) X.A (assign target X.env u) (fun _ s' => ∃ σ' H', Inv X pins σ' H' s' ∧ Q σ' H') X.xe s
/-- several targets, one after another -/
def PGs (X : Cx) (ts : List Expr) (t : TGs) : Prop :=
  ∀ (pins : List (Addr × Obj)) (s : Shared) (σ : St) (H : Hp) (vs : List V) (us : List Value) (Q : St → Hp → Prop), Inv X pins σ H s → Vals vs us → t vs σ H Q →
    wpAny (model X.prog X.w) X.A (assignInOrder ((assignEach ts X.env).map (·.2)) us) (fun _ s' => ∃ σ' H', Inv X pins σ' H' s' ∧ Q σ' H') X.xe s
/-- o[i] = v, by values -/
abbrev TSet := V → V → V → Hp → (Hp → Prop) → Prop
def PSet (X : Cx) (t : TSet) : Prop :=
  ∀ (pins : List (Addr × Obj)) (s : Shared) (σ : St) (H : Hp) (o i v : V) (ov iv u : Value) (Q : Hp → Prop), Inv X pins σ H s → RelV o ov → RelV i iv → RelV v u → t o i v H Q →
    wpAny (model X.prog X.w) X.A (setItem ov iv u) (fun _ s' => ∃ H', Inv X pins σ H' s' ∧ Q H') X.xe s
section
variable {X : Cx} {pos : Pos}
def gName (i : Nat) : TG := fun v σ H Q => Q (σ.set i (some v)) H
theorem pg_name {i : Nat} {x : Str} (hN : X.N.Nodup) (hi : X.N[i]? = some x) (hx : Loc X.env.scope x) (hf : X.fn x = true ∨ X.env.scope.names.lookup x = some .local := by first | exact .inl rfl | exact .inr rfl | assumption) : PG X (.Name x pos) (gName i) := by
  intro pins s σ H v u Q I r h
  exact wpAny_assign_Name (store_ok I hN hi hx r (fun s' I' => ⟨_, H, I', h⟩) hf)
def gNil : TGs := fun vs σ H Q => vs = [] ∧ Q σ H
def gCons (t : TG) (u : TGs) : TGs := fun vs σ H Q => ∃ v r, vs = v :: r ∧ t v σ H fun σ' H' => u r σ' H' Q
theorem pgs_nil : PGs X [] gNil := by
  intro pins s σ H vs us Q I r h
  obtain ⟨e, h⟩ := h
  subst e
  cases r
  exact assignInOrder_nil ⟨σ, H, I, h⟩
theorem pgs_cons {e : Expr} {es : List Expr} {t : TG} {u : TGs} (h1 : PG X e t) (h2 : PGs X es u)
    (hs : (assignEach (e :: es) X.env).map (·.2) = assign e X.env :: (assignEach es X.env).map (·.2) := by rfl) : PGs X (e :: es) (gCons t u) := by
  intro pins s σ H vs us Q I r h
  obtain ⟨v, vr, e1, h⟩ := h
  subst e1
  cases r with
  | cons r rr =>
    rw [hs]
    refine assignInOrder_cons (thn (h1 pins s σ H _ _ _ I r h) fun _ s1 ⟨σ1, H1, I1, q1⟩ => ?_)
    exact h2 pins s1 σ1 H1 _ _ Q I1 rr q1
/-- (a, b, ..) = a tuple of that length -/
def gTup (K : PySem.W.Frag) (n : Nat) (t : TGs) : TG := fun v σ H Q => ∃ a xs, v = .ref a ∧ SqT K H a xs ∧ xs.length = n ∧ t xs σ H Q
theorem pg_tup {es : List Expr} {k : Nat} {t : TGs} {n : Nat} (hc : X.calm = true) (h : PGs X es t)
    (hn : (assignEach es X.env).length = n := by rfl) (hst : (assignEach es X.env).findIdx? (·.1) = none := by rfl) : PG X (.Tuple es k pos) (gTup X.K n t) := by
  intro pins s σ H v u Q I r hw
  obtain ⟨a, xs, e1, hq, hl, hw⟩ := hw
  subst e1
  cases r
  obtain ⟨its, rv, ht, hz⟩ := I.tuple hq
  refine assign_Tuple_tuple (I.ok.hd hc) ht (by simp [hn, ← hl, rv.length]) hst fun h' hx => ?_
  have I1 : Inv X pins σ H { s with heap := h' } := I.kept (t' := s.toks) fun b o e => hx b o (Nat.ne_of_lt (Heap.lt_size e)) e
  exact h pins _ σ H xs _ Q I1 (by simpa using rv) hw
/-- o[i] = .. -/
def gSub (to ti : TE) (t : TSet) : TG := fun v σ H Q => to σ H fun o H1 => ti σ H1 fun i H2 => t o i v H2 fun H3 => Q σ H3
theorem pg_sub {o i : Expr} {to ti : TE} {t : TSet} (ho : PE X o to) (hi : PE X i ti) (hs : PSet X t)
    (ha : ∀ v, assign (.Subscript o i pos) X.env v = (do
      let ov ← holding [v] (eval o X.env)
      let iv ← holding [v, ov] (eval i X.env)
      standAt pos
      holding [v, ov, iv] (setItem ov iv v)
      release [v, ov, iv] []) := by intro _; rfl) : PG X (.Subscript o i pos) (gSub to ti t) := by
  intro pins s σ H v u Q I r h
  rw [ha]
  refine wpAny_bind (wpAny_holding (thn (ho pins s σ H _ I h) fun ov s1 ⟨x, H1, I1, r1, q1⟩ => ?_))
  refine wpAny_bind (wpAny_holding (thn (hi pins s1 σ H1 _ I1 q1) fun iv s2 ⟨y, H2, I2, r2, q2⟩ => ?_))
  refine wpAny_bind (wpAny_standAt (wpAny_bind (wpAny_holding (thn (hs pins s2 σ H2 x y v ov iv u _ I2 r1 r2 r q2) fun _ s3 ⟨H3, I3, q3⟩ => ?_))))
  exact wpAny_release ⟨σ, H3, I3, q3⟩
/-- target = value -/
def tAsg (te : TE) (g : TG) : TS := fun D σ H => te σ H fun x H1 => g x σ H1 D.nx
theorem ps_asg {tg e : Expr} {te : TE} {g : TG} (he : PE X e te) (hg : PG X tg g) (hs : swapsWithSole [tg] e pos.line X.env = pure false := by rfl) (hw : swappedStores [tg] e X.env = pure none := by rfl)
    (h1 : (assignEach [tg] X.env).map (·.2) = [assign tg X.env] := by rfl) : PS X (.Assign [tg] e pos) (tAsg te g) := by
  intro pins s σ H D I h
  refine wpAny_Assign_stores (thn (he pins s σ H _ I h) fun v s1 ⟨x, H1, I1, r1, q1⟩ => ?_) hs hw
  rw [h1]
  exact thn (hg pins s1 σ H1 x v _ I1 r1 q1) fun _ s2 q => q
/-- name = value -/
theorem ps_set {i : Nat} {x : Str} {e : Expr} {te : TE} {pos' : Pos} (hN : X.N.Nodup) (hi : X.N[i]? = some x) (hx : Loc X.env.scope x) (he : PE X e te) (hs : swapsWith e (some (.Name x pos')) pos.line X.env = pure false := by rfl) (hf : X.fn x = true ∨ X.env.scope.names.lookup x = some .local := by first | exact .inl rfl | exact .inr rfl | assumption) :
    PS X (.Assign [.Name x pos'] e pos) (tAsg te (gName i)) := by
  intro pins s σ H D I h
  refine wpAny_Assign_Name (thn (he pins s σ H _ I h) fun v s1 ⟨y, H1, I1, r1, q1⟩ => ?_) hs
  exact store_ok I1 hN hi hx r1 (fun s2 I2 => ⟨_, H1, I2, q1⟩) hf
/-- a, b = x, y with plain local names: stored from the right; the pair itself is not tracked (the opening rows as in PyProof/Rows/TupAssign.lean:23) -/
def tPar (i j : Nat) (ta : TA) : TS := fun D σ H => ta σ H fun vs H1 => ∃ v w, vs = [v, w] ∧ D.nx ((σ.set i (some v)).set j (some w)) H1
theorem ps_par {i j : Nat} {x y : Str} {a b : Expr} {ta : TA} {px py pt : Pos} {kt k2 pt2} (hc : X.calm = true) (hN : X.N.Nodup) (hi : X.N[i]? = some x) (hj : X.N[j]? = some y) (hij : i ≠ j)
    (hx : X.env.scope.names.lookup x = some .local) (hy : X.env.scope.names.lookup y = some .local) (ha : PA X [a, b] ta)
    (hw : swappedStores [.Tuple [.Name x px, .Name y py] kt pt] (.Tuple [a, b] k2 pt2) X.env = pure (some [x, y]))
    (hs : swapsWithSole [.Tuple [.Name x px, .Name y py] kt pt] (.Tuple [a, b] k2 pt2) pos.line X.env = pure false := by rfl) :
    PS X (.Assign [.Tuple [.Name x px, .Name y py] kt pt] (.Tuple [a, b] k2 pt2) pos) (tPar i j ta) := by
  intro pins s σ H D I h
  rw [exec_Assign_arm]
  refine wpAny_bind (wpAny_standAt ?_)
  rw [hs]
  refine wpAny_bind (wpAny_pure ?_)
  rw [if_neg (by decide)]
  refine wpAny_bind (Tuple_ (thn (ha _ pins s σ H _ I h) fun us s1 ⟨vs, H1, I1, r1, q1⟩ => ?_))
  obtain ⟨v, w, e1, q1⟩ := q1
  subst e1
  obtain ⟨u1, u2, rfl, rv, rw'⟩ : ∃ u1 u2, us = [u1, u2] ∧ RelV v u1 ∧ RelV w u2 := by
    cases r1 with
    | cons p q =>
      cases q with
      | cons p' q' =>
        cases q'
        exact ⟨_, _, rfl, p, p'⟩
  refine wpAny_newObj_type ?_ (by show 2 ≤ sizeLine; decide)
  have I2 : Inv X pins σ H1 { s1 with heap := s1.heap.push { cls := .type "tuple", data := .seq [u1, u2].toArray } } := I1.kept (t' := s1.toks) fun b o e => Heap.get?_push_of_some _ e
  rw [hw]
  refine wpAny_bind (wpAny_pure ?_)
  show wpAny (model X.prog X.w) X.A (do rule "assign.swapped-stores"; let items ← unpackItems (.ref s1.heap.objs.size) 2 none; assignInOrder [fun v => bindName X.env y v, fun v => bindName X.env x v] items.reverse; pure Flow.next) _ _ _
  refine wpAny_bind (wpAny_rule (wpAny_bind (unpackItems_tuple (items := #[u1, u2]) (I.ok.hd hc) (IsTup.new s1.heap _) fun h' hx' => ?_)))
  have I3 := I2.kept (h' := h') (t' := s1.toks) fun b o e => hx' b o (Nat.ne_of_lt (Heap.lt_size e)) e
  show wpAny _ _ (assignInOrder [fun v => bindName X.env y v, fun v => bindName X.env x v] [u2, u1] >>= fun _ => pure Flow.next) _ _ _
  refine wpAny_bind (assignInOrder_cons (wpAny_bindName (store_ok I3 hN hj (.inl hy) rw' (fun s2 I4 => ?_) (.inr hy))))
  refine assignInOrder_cons (wpAny_bindName (store_ok I4 hN hi (.inl hx) rv (fun s3 I5 => assignInOrder_nil (wpAny_pure ?_)) (.inr hx)))
  rw [List.set_comm _ _ (Ne.symm hij)] at I5
  exact ⟨_, H1, I5, q1⟩
end

section
variable {X : Cx} {pos : Pos}
/-- the invariant W with its measure -/
def tWhile (c : TT) (tb : TS) : TS := fun D σ H => ∃ W : Nat → St → Hp → Prop, (∃ m, W m σ H) ∧ ∀ m σ H, W m σ H →
  c σ H fun b H1 => if b = true then ∃ N : St → Hp → Prop, (∀ σ' H', N σ' H' → ∃ m', m' < m ∧ W m' σ' H') ∧ tb { D with nx := N, ct := N, bk := D.nx } σ H1 else D.nx σ H1
theorem ps_while {c : Expr} {body : List Stmt} {tc : TT} {tb : TS} (hp : PassesOwn (model X.prog X.w) X.A X.env X.xe) (hc : PT X c tc) (hb : PSs X body tb) : PS X (.While c body [] pos) (tWhile tc tb) := by
  intro pins s σ H D I h
  obtain ⟨W, ⟨m0, w0⟩, turn⟩ := h
  refine wpAny_While (codeAny_whileLoop (fun n s' => ∃ σ' H', Inv X pins σ' H' s' ∧ W n σ' H') ?_ m0 ⟨σ, H, I, w0⟩)
  rintro n s1 ⟨σ1, H1, I1, w1⟩
  refine wpAny_passesOwn hp (thn (hc pins s1 σ1 H1 _ I1 (turn n σ1 H1 w1)) fun b s2 ⟨H2, I2, q2⟩ => ?_)
  cases b with
  | true =>
    obtain ⟨N, hN, q2⟩ := q2
    rw [if_pos rfl]
    refine wpAny_passesOwn hp (thn (hb pins s2 σ1 H2 _ I2 q2) fun f s3 q3 => ?_)
    cases f with
    | next =>
      obtain ⟨σ3, H3, I3, n3⟩ := q3
      obtain ⟨m', hm, w3⟩ := hN σ3 H3 n3
      exact ⟨m', hm, σ3, H3, I3, w3⟩
    | cont =>
      obtain ⟨σ3, H3, I3, n3⟩ := q3
      obtain ⟨m', hm, w3⟩ := hN σ3 H3 n3
      exact ⟨m', hm, σ3, H3, I3, w3⟩
    | brk => exact q3
    | ret v => exact q3
  | false =>
    rw [if_neg Bool.false_ne_true]
    exact wpAny_execs_nil ⟨σ1, H2, I2, q2⟩
end

/-- at turn i: it yields x (the heap may grow), or it stops -/
structure It where
  go : Nat → Hp → Prop
  yld : Nat → Hp → V → Hp → Prop
  stop : Nat → Hp → Prop
/-- the iterator's own objects may turn: they are not the frame's, not pinned, younger than the entry (or a comprehension's own) -/
def FpOk (X : Cx) (pins : List (Addr × Obj)) (H : Hp) (b : Addr) : Prop :=
  H b = none ∧ b ≠ X.env.locals ∧ b ∉ X.fs ∧ (b ∈ X.ex ∨ X.s₀.heap.objs.size ≤ b) ∧ (∀ x c, X.env.cells.lookup x = some c → c ≠ b) ∧ ∀ p ∈ X.pn ++ pins, p.1 ≠ b
theorem Inv.fpOk {X : Cx} {pins : List (Addr × Obj)} {σ : St} {H H' : Hp} {s : Shared} {b : Addr} (I : Inv X pins σ H s) (hb : s.heap.objs.size ≤ b) (hn : H' b = none) : FpOk X pins H' b := by
  refine ⟨hn, Nat.ne_of_gt (Nat.lt_of_lt_of_le I.lt hb), I.nofs hb, .inr (Nat.le_trans I.sz hb), fun x c e z => ?_, fun p hp z => ?_⟩
  · obtain ⟨v, q⟩ := I.cell x c e
    exact absurd (Nat.lt_of_lt_of_le q.lt (by rw [z]; exact hb)) (Nat.lt_irrefl _)
  · exact absurd (Nat.lt_of_lt_of_le (Heap.lt_size (I.pin p hp).1) (by rw [z]; exact hb)) (Nat.lt_irrefl _)
structure Turn (P : Program) (w : World) (K : PySem.W.Frag) (tg : Expr) (J : It) (fp : List Addr) (it : Addr) (tn : Nat → Heap → Prop) : Prop where
  mem : it ∈ fp
  obj : ∀ i h, tn i h → ∀ b ∈ fp, ∃ o, h.get? b = some o ∧ ∀ v, o.data ≠ .cell v
  keep : ∀ i h h', tn i h → (∀ b ∈ fp, ∀ o, h.get? b = some o → h'.get? b = some o) → tn i h'
  item : ∀ (X : Cx), X.prog = P → X.w = w → X.K = K → X.calm = true → ∀ (i : Nat) (pins : List (Addr × Obj)) (s : Shared) (σ : St) (H : Hp) (E : Value → Shared → Prop), Inv X pins σ H s → (∀ b ∈ fp, FpOk X pins H b) → tn i s.heap → J.go i H →
    wpAny (model P w) X.A (pyNext (.ref it)) (fun r s1 => ∃ u, r = some u ∧
      wpAny (model P w) X.A (letOwnedTupleGo tg (.ref it) u) (fun _ s2 => ∃ x H', Inv X pins σ H' s2 ∧ RelV x u ∧ J.yld i H x H' ∧ tn (i + 1) s2.heap ∧ ∀ b ∈ fp, H' b = none) E s1) E s
  done : ∀ (X : Cx), X.prog = P → X.w = w → X.K = K → X.calm = true → ∀ (i : Nat) (pins : List (Addr × Obj)) (s : Shared) (σ : St) (H : Hp) (E : Value → Shared → Prop), Inv X pins σ H s → (∀ b ∈ fp, FpOk X pins H b) → tn i s.heap → J.stop i H →
    wpAny (model P w) X.A (pyNext (.ref it)) (fun r s1 => r = none ∧ Inv X pins σ H s1) E s
  self : ∀ (A : Around) (i : Nat) (s : Shared) (Q : Value → Shared → Prop) (E : Value → Shared → Prop), tn i s.heap → Q (.ref it) s → wpAny (model P w) A (pyIter (.ref it)) Q E s
abbrev TI := St → Hp → (It → Hp → Prop) → Prop
/-- an iterator has come -/
def PIE (X : Cx) (pins : List (Addr × Obj)) (σ : St) (tg : Expr) (R : It → Hp → Prop) (itv : Value) (s2 : Shared) : Prop :=
  ∃ (it : Addr) (fp : List Addr) (tn : Nat → Heap → Prop) (J : It) (H' : Hp), itv = .ref it ∧ Inv X pins σ H' s2 ∧ Turn X.prog X.w X.K tg J fp it tn ∧ tn 0 s2.heap ∧ (∀ b ∈ fp, FpOk X pins H' b) ∧ R J H'
def PI (X : Cx) (tg iter : Expr) (wi : TI) : Prop :=
  ∀ (pins : List (Addr × Obj)) (s : Shared) (σ : St) (H : Hp) (R : It → Hp → Prop), Inv X pins σ H s → wi σ H R →
    wpAny (model X.prog X.w) X.A (eval iter X.env) (fun v s1 => wpAny (model X.prog X.w) X.A (pyIter v) (PIE X pins σ tg R) X.xe s1) X.xe s

/-- the step ahead of the store is nothing for an iterator that keeps no tuple -/
theorem go_of {M : Model} {A : Around} {E : Value → Shared → Prop} {s : Shared} {tg : Expr} {it : Addr} {u : Value} {o : Obj} {n : String} {vs : Array Value} {Q : Unit → Shared → Prop} (ho : s.heap.get? it = some o) (hc : o.cls = .type n) (hd : o.data = .fields vs)
    (hn : ["enumerate", "zip", "dict_itemiterator", "dict_reverseitemiterator", "odict_iterator", "itertools.zip_longest", "itertools.pairwise"].contains n = false) (hQ : Q () s) : wpAny M A (letOwnedTupleGo tg (.ref it) u) Q E s := by
  unfold letOwnedTupleGo
  cases tg <;> first
    | exact wpAny_pure hQ
    | (cases u <;> first
        | exact wpAny_pure hQ
        | (refine wpAny_bind (wpAny_load ho ?_)
           rw [hc, hd]
           show wpAny M A (if (["enumerate", "zip", "dict_itemiterator", "dict_reverseitemiterator", "odict_iterator", "itertools.zip_longest", "itertools.pairwise"].contains n && vs[0]? == some (rawInt _)) = true then _ else _) Q E s
           rw [if_neg (by intro h; rw [hn, Bool.false_and] at h; cases h)]
           exact wpAny_pure hQ))

/-- the list at a, as it stands at each turn (a loop may append to it) -/
def Itl (K : PySem.W.Frag) (a : Addr) : It :=
  ⟨fun i H => ∃ xs x, SqL K H a xs ∧ xs[i]? = some x, fun i H x H' => H' = H ∧ ∀ xs, SqL K H a xs → xs[i]? = some x, fun i H => ∃ xs, SqL K H a xs ∧ xs.length ≤ i⟩
def Itt (K : PySem.W.Frag) (a : Addr) : It :=
  ⟨fun i H => ∃ xs x, SqT K H a xs ∧ xs[i]? = some x, fun i H x H' => H' = H ∧ ∀ xs, SqT K H a xs → xs[i]? = some x, fun i H => ∃ xs, SqT K H a xs ∧ xs.length ≤ i⟩
/-- lo, lo + 1, .. (n of them) -/
def Itr (lo : Int) (n : Nat) : It := ⟨fun i _ => i < n, fun i H x H' => H' = H ∧ x = .int (lo + i), fun i _ => n ≤ i⟩
theorem turn_list {P : Program} {w : World} {K : PySem.W.Frag} {tg : Expr} (a it : Addr) : Turn P w K tg (Itl K a) [it] it (fun i h => h.IsListIter it a i) where
  mem := by simp
  obj := fun i h st b hb => by
    have e : b = it := by simpa using hb
    subst e
    obtain ⟨o, e, c, d⟩ := st
    exact ⟨o, e, fun v z => by rw [d] at z; cases z⟩
  keep := fun i h h' st k => st.at fun o e => k it (by simp) o e
  item := by
    intro X hP hw hK hc i pins s σ H E I hf st hg
    subst hP hw hK
    obtain ⟨xs, x, hq, hx⟩ := hg
    obtain ⟨its, rv, p, hz⟩ := I.list hq
    obtain ⟨u, hu, ru⟩ := rv.get hx
    obtain ⟨f0, f1, f2, f3, f4, f5⟩ := hf it (by simp)
    refine wpAny_pyNext_list_item st p.isList (x := u) (by simpa using hu) fun h' st' sb => ?_
    have I1 : Inv X pins σ H { s with heap := h' } := I.turned (t' := s.toks) (fun b o hb e => (sb.2 b hb).trans e) f0 f1 f3 f4 f5
    obtain ⟨o, e, c, d⟩ := id st'
    exact ⟨u, rfl, go_of (s := { s with heap := h' }) e c d (by decide) ⟨x, H, I1, ru, ⟨rfl, fun ys hy => by rw [I.list_inj hy hq]; exact hx⟩, st', fun b hb => (hf b hb).1⟩⟩
  done := by
    intro X hP hw hK hc i pins s σ H E I hf st hg
    subst hP hw hK
    obtain ⟨xs, hq, hx⟩ := hg
    obtain ⟨its, rv, p, hz⟩ := I.list hq
    obtain ⟨f0, f1, f2, f3, f4, f5⟩ := hf it (by simp)
    have hl := rv.length
    exact wpAny_pyNext_list_end (I.ok.hd hc) st p.isList (by simp; omega) fun h' eb => ⟨rfl, I.turned (t' := s.toks) (fun b o hb e => eb b o hb e) f0 f1 f3 f4 f5⟩
  self := fun _ _ _ _ _ st h => wpAny_pyIter_listiter st h
theorem turn_tuple {P : Program} {w : World} {K : PySem.W.Frag} {tg : Expr} (a it : Addr) : Turn P w K tg (Itt K a) [it] it (fun i h => h.IsTupleIter it a i) where
  mem := by simp
  obj := fun i h st b hb => by
    have e : b = it := by simpa using hb
    subst e
    obtain ⟨o, e, c, d⟩ := st
    exact ⟨o, e, fun v z => by rw [d] at z; cases z⟩
  keep := fun i h h' st k => st.at fun o e => k it (by simp) o e
  item := by
    intro X hP hw hK hc i pins s σ H E I hf st hg
    subst hP hw hK
    obtain ⟨xs, x, hq, hx⟩ := hg
    obtain ⟨its, rv, p, hz⟩ := I.tuple hq
    obtain ⟨u, hu, ru⟩ := rv.get hx
    obtain ⟨f0, f1, f2, f3, f4, f5⟩ := hf it (by simp)
    refine wpAny_pyNext_tuple_item st (show s.heap.IsTuple a its.toArray from p) (x := u) (by simpa using hu) fun h' st' sb => ?_
    have I1 : Inv X pins σ H { s with heap := h' } := I.turned (t' := s.toks) (fun b o hb e => (sb.2 b hb).trans e) f0 f1 f3 f4 f5
    obtain ⟨o, e, c, d⟩ := id st'
    exact ⟨u, rfl, go_of (s := { s with heap := h' }) e c d (by decide) ⟨x, H, I1, ru, ⟨rfl, fun ys hy => by rw [I.tuple_inj hy hq]; exact hx⟩, st', fun b hb => (hf b hb).1⟩⟩
  done := by
    intro X hP hw hK hc i pins s σ H E I hf st hg
    subst hP hw hK
    obtain ⟨xs, hq, hx⟩ := hg
    obtain ⟨its, rv, p, hz⟩ := I.tuple hq
    obtain ⟨f0, f1, f2, f3, f4, f5⟩ := hf it (by simp)
    have hl := rv.length
    exact wpAny_pyNext_tuple_end (I.ok.hd hc) st (show s.heap.IsTuple a its.toArray from p) (by simp; omega) fun h' eb => ⟨rfl, I.turned (t' := s.toks) (fun b o hb e => eb b o hb e) f0 f1 f3 f4 f5⟩
  self := fun _ _ _ _ _ st h => wpAny_pyIter_tupleiter st h
theorem turn_range {P : Program} {w : World} {K : PySem.W.Frag} {tg : Expr} (it : Addr) (lo : Int) (n : Nat) : Turn P w K tg (Itr lo n) [it] it (fun i h => IsRangeIter h it (lo + (i : Nat) * 1) ((n : Int) - (i : Nat)) 1) where
  mem := by simp
  obj := fun i h st b hb => by
    have e : b = it := by simpa using hb
    subst e
    exact ⟨_, st, fun v z => by
      have z' : Data.fields _ = Data.cell v := z
      cases z'⟩
  keep := fun i h h' st k => k it (by simp) _ st
  item := by
    intro X hP hw hK hc i pins s σ H E I hf st hg
    subst hP hw hK
    obtain ⟨f0, f1, f2, f3, f4, f5⟩ := hf it (by simp)
    have W := Walks.range (prog := X.prog) (w := X.w) (I.ok.hd hc) it lo 1 n
    refine W.item i s _ _ hg st fun v h' tk hv st' kk => ?_
    obtain ⟨t, rfl⟩ := hv
    have I1 : Inv X pins σ H { s with heap := h', toks := tk } := I.turned (fun b o hb e => kk b o (by simpa using hb) e) f0 f1 f3 f4 f5
    refine ⟨_, rfl, go_of (s := { s with heap := h', toks := tk }) (n := "range_iterator") st' rfl rfl (by decide) ⟨.int (lo + i), H, I1, ⟨t, ?_⟩, ⟨rfl, rfl⟩, st', fun b hb => (hf b hb).1⟩⟩
    rw [Int.mul_one]
  done := by
    intro X hP hw hK hc i pins s σ H E I hf st hg
    subst hP hw hK
    obtain ⟨f0, f1, f2, f3, f4, f5⟩ := hf it (by simp)
    exact wpAny_pyNext_range_end (I.ok.hd hc) st (by have : n ≤ i := hg; omega) fun h' eb => ⟨rfl, I.turned (t' := s.toks) (fun b o hb e => eb b o hb e) f0 f1 f3 f4 f5⟩
  self := fun _ _ _ _ _ st h => wpAny_pyIter_rangeiter st h
end L2

namespace L2
open PySem PySem.Spec PyProof.Rows
section
variable {X : Cx} {tg : Expr}
/-- a range object just made, walked -/
theorem range_it {pins : List (Addr × Obj)} {σ : St} {H : Hp} {s : Shared} {R : It → Hp → Prop} {E : Value → Shared → Prop} {lo hi : Int} {t u v : Tok} {tk : Nat} (I : Inv X pins σ H s) (h1 : -(2 ^ 62) ≤ lo) (h2 : lo < 2 ^ 62) (h3 : -(2 ^ 62) ≤ hi) (h4 : hi < 2 ^ 62)
    (q : R (Itr lo (hi - lo).toNat) H) : wpAny (model X.prog X.w) X.A (pyIter (.ref s.heap.objs.size)) (PIE X pins σ tg R) E { s with heap := s.heap.push { cls := .type "range", data := .fields #[.int lo t, .int hi u, .int 1 v] }, toks := tk } := by
  refine wpAny_pyIter_range (IsRange.new ..) (small_one h1 h2 h3 h4) ?_
  have I1 : Inv X pins σ H { s with heap := s.heap.push { cls := .type "range", data := .fields #[.int lo t, .int hi u, .int 1 v] }, toks := tk } := I.kept fun b o e => Heap.get?_push_of_some _ e
  refine ⟨(s.heap.push { cls := .type "range", data := .fields #[.int lo t, .int hi u, .int 1 v] }).objs.size, [(s.heap.push { cls := .type "range", data := .fields #[.int lo t, .int hi u, .int 1 v] }).objs.size], _, _, H, rfl,
    I1.kept (t' := tk) fun b o e => Heap.get?_push_of_some _ e, turn_range _ lo (hi - lo).toNat, ?_, fun b hb => ?_, q⟩
  · have e1 : lo + ((0 : Nat) : Int) * 1 = lo := by simp
    have e2 : (((hi - lo).toNat : Nat) : Int) - ((0 : Nat) : Int) = Builtin.Range.rangeSize lo hi 1 := by rw [rangeSize_one]; split <;> omega
    show IsRangeIter _ _ (lo + ((0 : Nat) : Int) * 1) ((((hi - lo).toNat : Nat) : Int) - ((0 : Nat) : Int)) 1
    rw [e1, e2]
    exact Heap.get?_push_size _ rfl
  · have e : b = (s.heap.push { cls := .type "range", data := .fields #[.int lo t, .int hi u, .int 1 v] }).objs.size := by simpa using hb
    subst e
    exact I1.fpOk (Nat.le_refl _) (I1.hok.fresh (Nat.le_refl _))
def iRng1 (ta : TA) : TI := fun σ H R => ta σ H fun vs H1 => ∃ j : Int, vs = [.int j] ∧ -(2 ^ 62) ≤ j ∧ j < 2 ^ 62 ∧ R (Itr 0 j.toNat) H1
theorem pi_range1 {a : Expr} {ta : TA} {p pos : Pos} (hg : Gl X "range") (hm : X.mg "range" = none) (ha : PA X [a] ta) (hs : starEach [a] X.env = [(false, eval a X.env)] := by rfl) : PI X tg (.Call (.Name "range" p) [a] [] pos) (iRng1 ta) := by
  intro pins s σ H R I h
  refine Call_ (ld_blt I hg hm boot_range (PyProof.Rows.callWith_type1 (thn (ha pos pins s σ H _ I h) fun us s1 ⟨vs, H1, I1, r1, q1⟩ => ?_) hs rfl))
  obtain ⟨j, e, q1, q2, q⟩ := q1
  subst e
  cases r1 with
  | cons r rr =>
    cases rr
    obtain ⟨t, rfl⟩ := r
    exact call_range_1 (range_it I1 (by omega) (by omega) q1 q2 (by simpa using q))
/-- W: the invariant by the turn and a measure; N: what the body is to reach -/
def tFor (wi : TI) (g : TG) (tb : TS) : TS := fun D σ H => wi σ H fun J H1 => ∃ W : Nat → Nat → St → Hp → Prop, (∃ m, W 0 m σ H1) ∧ ∀ i m σ H, W i m σ H →
  (J.stop i H ∧ D.nx σ H) ∨ (J.go i H ∧ ∃ N : St → Hp → Prop, (∀ σ' H', N σ' H' → ∃ m', m' < m ∧ W (i + 1) m' σ' H') ∧ ∀ x H', J.yld i H x H' → g x σ H' fun σ2 H2 => tb { D with nx := N, ct := N, bk := D.nx } σ2 H2)
/-- the records at fp as they stand -/
def pinsAt (fp : List Addr) (h : Heap) : List (Addr × Obj) := fp.filterMap fun b => (h.get? b).map fun o => (b, o)
theorem mem_pinsAt {fp : List Addr} {h : Heap} {b : Addr} {o : Obj} (hb : b ∈ fp) (e : h.get? b = some o) : (b, o) ∈ pinsAt fp h := List.mem_filterMap.mpr ⟨b, hb, by rw [e]; rfl⟩
theorem of_pinsAt {fp : List Addr} {h : Heap} {p : Addr × Obj} (hp : p ∈ pinsAt fp h) : p.1 ∈ fp ∧ h.get? p.1 = some p.2 := by
  obtain ⟨b, hb, e⟩ := List.mem_filterMap.mp hp
  cases q : h.get? b with
  | none => rw [q] at e; cases e
  | some o =>
    rw [q] at e
    have e' : (b, o) = p := Option.some.inj e
    subst e'
    exact ⟨hb, q⟩
theorem Inv.pinned {pins : List (Addr × Obj)} {σ : St} {H : Hp} {s : Shared} {fp : List Addr} (I : Inv X pins σ H s) (hf : ∀ b ∈ fp, FpOk X pins H b) (ho : ∀ b ∈ fp, ∃ o, s.heap.get? b = some o ∧ ∀ v, o.data ≠ .cell v) : Inv X (pins ++ pinsAt fp s.heap) σ H s :=
  I.pins_of fun p hp => (List.mem_append.mp hp).elim (fun z => I.pin p (List.mem_append_right _ z)) fun z => by
    obtain ⟨hb, e⟩ := of_pinsAt z
    obtain ⟨f0, f1, f2, _⟩ := hf p.1 hb
    obtain ⟨o, e', d⟩ := ho p.1 hb
    rw [e] at e'; cases e'
    exact ⟨e, f0, f1, f2, d⟩
theorem Inv.unpinned {pins pl : List (Addr × Obj)} {σ : St} {H : Hp} {s : Shared} (I : Inv X (pins ++ pl) σ H s) : Inv X pins σ H s := I.pins_of fun p hp => I.pin p (List.mem_append_right _ (List.mem_append_left _ hp))
theorem ps_for {iter : Expr} {body : List Stmt} {wi : TI} {g : TG} {tb : TS} {pos : Pos} (hp : PassesOwn (model X.prog X.w) X.A X.env X.xe) (hc : X.calm = true) (hi : PI X tg iter wi) (hg : PG X tg g) (hb : PSs X body tb)
    (hs : ∀ x, foldedSetIterable iter X.env x = pure x := by intro _; rfl) : PS X (.For tg iter body [] pos) (tFor wi g tb) := by
  intro pins s σ H D I h
  refine wpAny_For (thn (hi pins s σ H _ I h) fun v s1 h1 => thn h1 fun itv s2 h2 => ?_) hs
  obtain ⟨it, fp, tn, J, H2, e, I2, T, st2, f2, W, ⟨m0, w0⟩, turn⟩ := h2
  subst e
  -- what stays true of the iterator's objects through the loop
  have stat : ∀ {H' : Hp}, (∀ b ∈ fp, H' b = none) → ∀ b ∈ fp, FpOk X pins H' b := fun hn b hb => ⟨hn b hb, (f2 b hb).2⟩
  refine codeAny_forLoop_any (fun n s' => ∃ i σ' H', Inv X pins σ' H' s' ∧ tn i s'.heap ∧ (∀ b ∈ fp, H' b = none) ∧ W i n σ' H') ?_ m0 ⟨0, σ, H2, I2, st2, fun b hb => (f2 b hb).1, w0⟩
  rintro n s3 ⟨i, σ3, H3, I3, st3, fr3, w3⟩
  rcases turn i n σ3 H3 w3 with ⟨stop, qn⟩ | ⟨go, N, hN, step⟩
  · refine wpAny_passesOwn hp (thn (T.done X rfl rfl rfl hc i pins s3 σ3 H3 X.xe I3 (stat fr3) st3 stop) fun r s4 ⟨hr, I4⟩ => ?_)
    subst hr
    exact wpAny_execs_nil ⟨σ3, H3, I4, qn⟩
  · refine wpAny_passesOwn hp (thn (T.item X rfl rfl rfl hc i pins s3 σ3 H3 X.xe I3 (stat fr3) st3 go) fun r s4 ⟨u, hr, h4⟩ => ?_)
    subst hr
    refine wpAny_passesOwn hp (thn h4 fun _ s5 ⟨x, H5, I5, r5, y5, st5, fr5⟩ => ?_)
    have I5' := I5.pinned (stat fr5) (T.obj _ _ st5)
    refine wpAny_passesOwn hp (thn (hg _ s5 σ3 H5 x u _ I5' r5 (step x H5 y5)) fun _ s6 ⟨σ6, H6, I6, q6⟩ => ?_)
    refine wpAny_passesOwn hp (thn (hb _ s6 σ6 H6 _ I6 q6) fun f s7 q7 => ?_)
    have again : ∀ {σ7 : St} {H7 : Hp}, Inv X (pins ++ pinsAt fp s5.heap) σ7 H7 s7 → N σ7 H7 → ∃ m, m < n ∧ ∃ i σ' H', Inv X pins σ' H' s7 ∧ tn i s7.heap ∧ (∀ b ∈ fp, H' b = none) ∧ W i m σ' H' := fun {σ7 H7} I7 n7 => by
      obtain ⟨m', hm, w7⟩ := hN σ7 H7 n7
      refine ⟨m', hm, i + 1, σ7, H7, I7.unpinned, T.keep _ _ _ st5 fun b hb o e => (I7.pin (b, o) (List.mem_append_right _ (List.mem_append_right _ (mem_pinsAt hb e)))).1, fun b hb => ?_, w7⟩
      obtain ⟨o, e, d⟩ := T.obj _ _ st5 b hb
      exact (I7.pin (b, o) (List.mem_append_right _ (List.mem_append_right _ (mem_pinsAt hb e)))).2.1
    cases f with
    | next => obtain ⟨σ7, H7, I7, n7⟩ := q7; exact again I7 n7
    | cont => obtain ⟨σ7, H7, I7, n7⟩ := q7; exact again I7 n7
    | brk => obtain ⟨σ7, H7, I7, q7⟩ := q7; exact ⟨σ7, H7, I7.unpinned, q7⟩
    | ret v => obtain ⟨x7, σ7, H7, I7, r7, q7⟩ := q7; exact ⟨x7, σ7, H7, I7.unpinned, r7, q7⟩
end

/-- over a list that the body leaves as it is -/
theorem for_list {K : PySem.W.Frag} {a : Addr} {xs : List V} {g : TG} {tb : TS} {D : Ends} {σ : St} {H : Hp} (Pv : Nat → St → Hp → Prop) (h0 : Pv 0 σ H) (hl : ∀ i σ H, i ≤ xs.length → Pv i σ H → SqL K H a xs)
    (hs : ∀ i x σ H, xs[i]? = some x → Pv i σ H → g x σ H fun σ2 H2 => tb { D with nx := Pv (i + 1), ct := Pv (i + 1), bk := D.nx } σ2 H2) (hd : ∀ σ H, Pv xs.length σ H → D.nx σ H) :
    ∃ W : Nat → Nat → St → Hp → Prop, (∃ m, W 0 m σ H) ∧ ∀ i m σ H, W i m σ H →
      ((Itl K a).stop i H ∧ D.nx σ H) ∨ ((Itl K a).go i H ∧ ∃ N : St → Hp → Prop, (∀ σ' H', N σ' H' → ∃ m', m' < m ∧ W (i + 1) m' σ' H') ∧ ∀ x H', (Itl K a).yld i H x H' → g x σ H' fun σ2 H2 => tb { D with nx := N, ct := N, bk := D.nx } σ2 H2) := by
  refine ⟨fun i m σ H => m = xs.length - i ∧ i ≤ xs.length ∧ Pv i σ H, ⟨xs.length, by simp, Nat.zero_le _, h0⟩, ?_⟩
  rintro i m σ H ⟨rfl, hi, p⟩
  have q := hl i σ H hi p
  by_cases hlt : i < xs.length
  · refine .inr ⟨⟨xs, xs[i], q, by simp [hlt]⟩, Pv (i + 1), fun σ' H' p' => ⟨xs.length - (i + 1), by omega, rfl, hlt, p'⟩, fun x H' y => ?_⟩
    obtain ⟨e, y⟩ := y
    subst e
    exact hs i x σ _ (y xs q) p
  · have e : i = xs.length := by omega
    subst e
    exact .inl ⟨⟨xs, q, Nat.le_refl _⟩, hd σ H p⟩
theorem for_tup {K : PySem.W.Frag} {a : Addr} {xs : List V} {g : TG} {tb : TS} {D : Ends} {σ : St} {H : Hp} (Pv : Nat → St → Hp → Prop) (h0 : Pv 0 σ H) (hl : ∀ i σ H, i ≤ xs.length → Pv i σ H → SqT K H a xs)
    (hs : ∀ i x σ H, xs[i]? = some x → Pv i σ H → g x σ H fun σ2 H2 => tb { D with nx := Pv (i + 1), ct := Pv (i + 1), bk := D.nx } σ2 H2) (hd : ∀ σ H, Pv xs.length σ H → D.nx σ H) :
    ∃ W : Nat → Nat → St → Hp → Prop, (∃ m, W 0 m σ H) ∧ ∀ i m σ H, W i m σ H →
      ((Itt K a).stop i H ∧ D.nx σ H) ∨ ((Itt K a).go i H ∧ ∃ N : St → Hp → Prop, (∀ σ' H', N σ' H' → ∃ m', m' < m ∧ W (i + 1) m' σ' H') ∧ ∀ x H', (Itt K a).yld i H x H' → g x σ H' fun σ2 H2 => tb { D with nx := N, ct := N, bk := D.nx } σ2 H2) := by
  refine ⟨fun i m σ H => m = xs.length - i ∧ i ≤ xs.length ∧ Pv i σ H, ⟨xs.length, by simp, Nat.zero_le _, h0⟩, ?_⟩
  rintro i m σ H ⟨rfl, hi, p⟩
  have q := hl i σ H hi p
  by_cases hlt : i < xs.length
  · refine .inr ⟨⟨xs, xs[i], q, by simp [hlt]⟩, Pv (i + 1), fun σ' H' p' => ⟨xs.length - (i + 1), by omega, rfl, hlt, p'⟩, fun x H' y => ?_⟩
    obtain ⟨e, y⟩ := y
    subst e
    exact hs i x σ _ (y xs q) p
  · have e : i = xs.length := by omega
    subst e
    exact .inl ⟨⟨xs, q, Nat.le_refl _⟩, hd σ H p⟩
theorem for_range {lo : Int} {n : Nat} {g : TG} {tb : TS} {D : Ends} {σ : St} {H : Hp} (Pv : Nat → St → Hp → Prop) (h0 : Pv 0 σ H)
    (hs : ∀ i σ H, i < n → Pv i σ H → g (.int (lo + i)) σ H fun σ2 H2 => tb { D with nx := Pv (i + 1), ct := Pv (i + 1), bk := D.nx } σ2 H2) (hd : ∀ σ H, Pv n σ H → D.nx σ H) :
    ∃ W : Nat → Nat → St → Hp → Prop, (∃ m, W 0 m σ H) ∧ ∀ i m σ H, W i m σ H →
      ((Itr lo n).stop i H ∧ D.nx σ H) ∨ ((Itr lo n).go i H ∧ ∃ N : St → Hp → Prop, (∀ σ' H', N σ' H' → ∃ m', m' < m ∧ W (i + 1) m' σ' H') ∧ ∀ x H', (Itr lo n).yld i H x H' → g x σ H' fun σ2 H2 => tb { D with nx := N, ct := N, bk := D.nx } σ2 H2) := by
  refine ⟨fun i m σ H => m = n - i ∧ i ≤ n ∧ Pv i σ H, ⟨n, by simp, Nat.zero_le _, h0⟩, ?_⟩
  rintro i m σ H ⟨rfl, hi, p⟩
  by_cases hlt : i < n
  · refine .inr ⟨hlt, Pv (i + 1), fun σ' H' p' => ⟨n - (i + 1), by omega, rfl, hlt, p'⟩, fun x H' y => ?_⟩
    obtain ⟨e, y⟩ := y
    subst e y
    exact hs i σ _ hlt p
  · have e : i = n := by omega
    subst e
    exact .inl ⟨Nat.le_refl _, hd σ H p⟩
end L2

namespace L2
open PySem PySem.Spec PyProof.Rows

abbrev R2 := V → V → Hp → VK → Prop
/-- a two-place operation on values: f is binaryOp op, inplaceOp op or compareOp op -/
def OpR (X : Cx) (f : Value → Value → Sem Value) (r : R2) : Prop :=
  ∀ (pins : List (Addr × Obj)) (s : Shared) (σ : St) (H : Hp) (x y : V) (v u : Value) (Q : VK), Inv X pins σ H s → RelV x v → RelV y u → r x y H Q →
    wpAny (model X.prog X.w) X.A (f v u) (EP X pins σ Q) X.xe s
/-- a one-place operation -/
def UnR (X : Cx) (f : Value → Sem Value) (r : V → Hp → VK → Prop) : Prop :=
  ∀ (pins : List (Addr × Obj)) (s : Shared) (σ : St) (H : Hp) (x : V) (v : Value) (Q : VK), Inv X pins σ H s → RelV x v → r x H Q →
    wpAny (model X.prog X.w) X.A (f v) (EP X pins σ Q) X.xe s
/-- a call of a value that is known (a builtin, a type) with values -/
def CallR (X : Cx) (f : Value) (r : List V → Hp → VK → Prop) : Prop :=
  ∀ (pins : List (Addr × Obj)) (s : Shared) (σ : St) (H : Hp) (xs : List V) (us : List Value) (Q : VK), Inv X pins σ H s → Vals xs us → r xs H Q →
    wpAny (model X.prog X.w) X.A (call f us) (EP X pins σ Q) X.xe s
/-- a value's truth -/
def TruR (X : Cx) (r : V → Hp → (Bool → Hp → Prop) → Prop) : Prop :=
  ∀ (pins : List (Addr × Obj)) (s : Shared) (σ : St) (H : Hp) (x : V) (v : Value) (Q : Bool → Hp → Prop), Inv X pins σ H s → RelV x v → r x H Q →
    wpAny (model X.prog X.w) X.A (truthy v) (TP X pins σ Q) X.xe s

def tOp (r : R2) (ta tb : TE) : TE := fun σ H Q => ta σ H fun x H1 => tb σ H1 fun y H2 => r x y H2 Q
def tUn (r : V → Hp → VK → Prop) (ta : TE) : TE := fun σ H Q => ta σ H fun x H1 => r x H1 Q
/-- ints in, under C, and a value out -/
def rI (C : Int → Int → Prop) (g : Int → Int → V) : R2 := fun x y H Q => ∃ i j, x = .int i ∧ y = .int j ∧ C i j ∧ Q (g i j) H
def rI0 (g : Int → Int → V) : R2 := fun x y H Q => ∃ i j, x = .int i ∧ y = .int j ∧ Q (g i j) H
def rU (g : Int → V) : V → Hp → VK → Prop := fun x H Q => ∃ i, x = .int i ∧ Q (g i) H

section
variable {X : Cx} {a b c : Expr} {ta tb tc : TE} {pos : Pos}

theorem binT (ha : PE X a ta) (hb : PE X b tb) {pins : List (Addr × Obj)} {s : Shared} {σ : St} {H : Hp} {R : V → V → Hp → Prop} (I : Inv X pins σ H s)
    (h : ta σ H fun x H1 => tb σ H1 fun y H2 => R x y H2) {Q : Value → Shared → Prop} {f : Value → Value → Sem Value}
    (hf : ∀ v u s2 x y H2, Inv X pins σ H2 s2 → RelV x v → RelV y u → R x y H2 → wpAny (model X.prog X.w) X.A (f v u) Q X.xe s2) :
    wpAny (model X.prog X.w) X.A (eval a X.env) (fun v s₁ => wpAny (model X.prog X.w) X.A (eval b X.env) (fun u s₂ => wpAny (model X.prog X.w) X.A (f v u) Q X.xe s₂) X.xe s₁) X.xe s := by
  refine thn (ha pins s σ H _ I h) fun v s1 ⟨x, H1, I1, r1, q1⟩ => ?_
  refine thn (hb pins s1 σ H1 _ I1 q1) fun u s2 ⟨y, H2, I2, r2, q2⟩ => ?_
  exact hf v u s2 x y H2 I2 r1 r2 q2

theorem pe_op {op : Operator} {r : R2} (ho : OpR X (binaryOp op) r) (ha : PE X a ta) (hb : PE X b tb) : PE X (.BinOp a op b pos) (tOp r ta tb) := by
  intro pins s σ H Q I h
  exact wpAny_BinOp (binT ha hb I h fun v u s2 x y H2 I2 rx ry q => ho pins s2 σ H2 x y v u Q I2 rx ry q)
theorem pe_un {op : UnaryOp} {r : V → Hp → VK → Prop} (ho : UnR X (unaryOp op) r) (ha : PE X a ta) : PE X (.UnaryOp op a pos) (tUn r ta) := by
  intro pins s σ H Q I h
  exact UnaryOp_ (thn (ha pins s σ H _ I h) fun v s1 ⟨x, H1, I1, r1, q1⟩ => ho pins s1 σ H1 x v Q I1 r1 q1)
theorem opI {f : Value → Value → Sem Value} {C : Int → Int → Prop} {g : Int → Int → Int}
    (rule : ∀ (i j : Int) (t u : Tok) (s : Shared) (Q : Value → Shared → Prop) (E : Value → Shared → Prop), C i j → Q (.int (g i j) s.toks) { s with toks := s.toks + 1 } → wpAny (model X.prog X.w) X.A (f (.int i t) (.int j u)) Q E s) :
    OpR X f (rI C fun i j => .int (g i j)) := by
  intro pins s σ H x y v u Q I rx ry h
  obtain ⟨i, j, rfl, rfl, hc, q⟩ := h
  obtain ⟨t, rfl⟩ := rx
  obtain ⟨t', rfl⟩ := ry
  exact rule i j t t' s _ _ hc ⟨.int (g i j), H, I.tok _, ⟨_, rfl⟩, q⟩
theorem opI0 {f : Value → Value → Sem Value} {g : Int → Int → Int}
    (rule : ∀ (i j : Int) (t u : Tok) (s : Shared) (Q : Value → Shared → Prop) (E : Value → Shared → Prop), Q (.int (g i j) s.toks) { s with toks := s.toks + 1 } → wpAny (model X.prog X.w) X.A (f (.int i t) (.int j u)) Q E s) :
    OpR X f (rI0 fun i j => .int (g i j)) := by
  intro pins s σ H x y v u Q I rx ry h
  obtain ⟨i, j, rfl, rfl, q⟩ := h
  obtain ⟨t, rfl⟩ := rx
  obtain ⟨t', rfl⟩ := ry
  exact rule i j t t' s _ _ ⟨.int (g i j), H, I.tok _, ⟨_, rfl⟩, q⟩
theorem opB0 {f : Value → Value → Sem Value} {g : Int → Int → Bool}
    (rule : ∀ (i j : Int) (t u : Tok) (s : Shared) (Q : Value → Shared → Prop) (E : Value → Shared → Prop), Q (.bool (g i j)) s → wpAny (model X.prog X.w) X.A (f (.int i t) (.int j u)) Q E s) :
    OpR X f (rI0 fun i j => .bl (g i j)) := by
  intro pins s σ H x y v u Q I rx ry h
  obtain ⟨i, j, rfl, rfl, q⟩ := h
  obtain ⟨t, rfl⟩ := rx
  obtain ⟨t', rfl⟩ := ry
  exact rule i j t t' s _ _ ⟨.bl (g i j), H, I, rfl, q⟩

def CPow (i j : Int) : Prop := 0 ≤ j ∧ j ≤ 1000000 ∧ i.natAbs < 2 ^ 64
def CMul (i j : Int) : Prop := (-(2 ^ 64) < i ∧ i < 2 ^ 64) ∨ (-(2 ^ 64) < j ∧ j < 2 ^ 64)
theorem CMul.ok {i j : Int} (h : CMul i j) : IntMulOk i j := by
  rcases h with ⟨h1, h2⟩ | ⟨h1, h2⟩
  · exact .of_left (intBits_le_64 h1 h2)
  · exact .of_right (intBits_le_64 h1 h2)
theorem op_add : OpR X (binaryOp .Add) (rI0 fun i j => .int (i + j)) := opI0 fun _ _ _ _ _ _ _ q => add_int q
theorem op_sub : OpR X (binaryOp .Sub) (rI0 fun i j => .int (i - j)) := opI0 fun _ _ _ _ _ _ _ q => sub_int q
theorem op_modN : OpR X (binaryOp .Mod) (rI (fun _ j => j ≠ 0) fun i j => .int (i.fmod j)) := opI fun _ _ _ _ _ _ _ hc q => mod_int' hc q
theorem op_pow : OpR X (binaryOp .Pow) (rI CPow fun i j => .int (i ^ j.toNat)) := opI fun _ _ _ _ _ _ _ hc q => pow_int_small hc.1 hc.2.1 hc.2.2 q
theorem unI {f : Value → Sem Value} {g : Int → Int}
    (rule : ∀ (i : Int) (t : Tok) (s : Shared) (Q : Value → Shared → Prop) (E : Value → Shared → Prop), Q (.int (g i) s.toks) { s with toks := s.toks + 1 } → wpAny (model X.prog X.w) X.A (f (.int i t)) Q E s) :
    UnR X f (rU fun i => .int (g i)) := by
  intro pins s σ H x v Q I rx h
  obtain ⟨i, rfl, q⟩ := h
  obtain ⟨t, rfl⟩ := rx
  exact rule i t s _ _ ⟨.int (g i), H, I.tok _, ⟨_, rfl⟩, q⟩
theorem un_neg : UnR X (unaryOp .USub) (rU fun i => .int (-i)) := unI fun _ _ _ _ _ q => neg_int q
end

/-- the scalars that == tells apart as data does -/
def scal : V → V → Bool
  | .non, .non => true | .non, .int _ => true | .int _, .non => true | .non, .bl _ => true | .bl _, .non => true | .non, .str _ => true | .str _, .non => true
  | .int _, .int _ => true | .bl _, .bl _ => true | .str _, .str _ => true | .byt _, .byt _ => true
  | .int _, .str _ => true | .str _, .int _ => true | .bl _, .str _ => true | .str _, .bl _ => true
  | _, _ => false
def rEq : R2 := fun x y H Q => scal x y = true ∧ Q (.bl (decide (x = y))) H
def rNe : R2 := fun x y H Q => scal x y = true ∧ Q (.bl (!decide (x = y))) H

theorem dec_int {i j : Int} : decide (V.int i = V.int j) = (i == j) := by
  rw [Bool.eq_iff_iff]
  simp
theorem dec_bl {i j : Bool} : decide (V.bl i = V.bl j) = (i == j) := by
  rw [Bool.eq_iff_iff]
  simp
theorem dec_str {i j : Str} : decide (V.str i = V.str j) = (i == j) := by
  rw [Bool.eq_iff_iff]
  simp
theorem dec_byt {i j : Array UInt8} : decide (V.byt i = V.byt j) = (i.toList == j.toList) := by
  rw [Bool.eq_iff_iff]
  cases i
  cases j
  simp

section
variable {X : Cx} {a b c : Expr} {ta tb tc : TE} {pos : Pos}
theorem fin_bl {pins : List (Addr × Obj)} {σ : St} {H : Hp} {s : Shared} {Q : VK} {k k' : Bool} (I : Inv X pins σ H s) (q : Q (.bl k) H) (e : k = k') : EP X pins σ Q (.bool k') s := by
  subst e
  exact ⟨.bl k, H, I, rfl, q⟩
theorem op_eq : OpR X (compareOp .Eq) rEq := by
  intro pins s σ H x y v u Q I rx ry h
  obtain ⟨hs, q⟩ := h
  cases x with
  | non =>
    cases rx
    cases y with
    | non => cases ry; exact PySem.EqNone.eq_none_none (fin_bl I q (by simp))
    | bl j => cases ry; exact PySem.EqNone.eq_none_bool (fin_bl I q (by simp))
    | int j => obtain ⟨t', rfl⟩ := ry; exact PySem.EqNone.eq_none_int (fin_bl I q (by simp))
    | str j => obtain ⟨t', rfl⟩ := ry; exact PySem.EqNone.eq_none_str (fin_bl I q (by simp))
    | _ => exact absurd (show false = true from hs) Bool.false_ne_true
  | bl i =>
    cases rx
    cases y with
    | non => cases ry; exact PySem.EqNone.eq_bool_none (fin_bl I q (by simp))
    | bl j => cases ry; exact eq_bool (fin_bl I q dec_bl)
    | str j => obtain ⟨t', rfl⟩ := ry; exact PySem.EqMixed.eq_bool_str (fin_bl I q (by simp))
    | _ => exact absurd (show false = true from hs) Bool.false_ne_true
  | int i =>
    obtain ⟨t, rfl⟩ := rx
    cases y with
    | non => cases ry; exact PySem.EqNone.eq_int_none (fin_bl I q (by simp))
    | int j => obtain ⟨t', rfl⟩ := ry; exact eq_int (fin_bl I q dec_int)
    | str j => obtain ⟨t', rfl⟩ := ry; exact PySem.EqMixed.eq_int_str (fin_bl I q (by simp))
    | _ => exact absurd (show false = true from hs) Bool.false_ne_true
  | str i =>
    obtain ⟨t, rfl⟩ := rx
    cases y with
    | non => cases ry; exact PySem.EqNone.eq_str_none (fin_bl I q (by simp))
    | bl j => cases ry; exact PySem.EqMixed.eq_str_bool (fin_bl I q (by simp))
    | int j => obtain ⟨t', rfl⟩ := ry; exact PySem.EqMixed.eq_str_int (fin_bl I q (by simp))
    | str j => obtain ⟨t', rfl⟩ := ry; exact eq_str (fin_bl I q dec_str)
    | _ => exact absurd (show false = true from hs) Bool.false_ne_true
  | byt i =>
    obtain ⟨t, rfl⟩ := rx
    cases y with
    | byt j => obtain ⟨t', rfl⟩ := ry; exact PySem.W.eq_bytes (fin_bl I q dec_byt)
    | _ => exact absurd (show false = true from hs) Bool.false_ne_true
  | _ => cases y <;> exact absurd (show false = true from hs) Bool.false_ne_true
theorem op_ne : OpR X (compareOp .NotEq) rNe := by
  intro pins s σ H x y v u Q I rx ry h
  obtain ⟨hs, q⟩ := h
  cases x with
  | non =>
    cases rx
    cases y with
    | non => cases ry; exact PySem.EqNone.ne_none_none (fin_bl I q (by simp))
    | bl j => cases ry; exact PySem.EqNone.ne_none_bool (fin_bl I q (by simp))
    | int j => obtain ⟨t', rfl⟩ := ry; exact PySem.EqNone.ne_none_int (fin_bl I q (by simp))
    | str j => obtain ⟨t', rfl⟩ := ry; exact PySem.EqNone.ne_none_str (fin_bl I q (by simp))
    | _ => exact absurd (show false = true from hs) Bool.false_ne_true
  | bl i =>
    cases rx
    cases y with
    | non => cases ry; exact PySem.EqNone.ne_bool_none (fin_bl I q (by simp))
    | bl j => cases ry; exact ne_bool (fin_bl I q (congrArg not dec_bl))
    | str j => obtain ⟨t', rfl⟩ := ry; exact PySem.EqMixed.ne_bool_str (fin_bl I q (by simp))
    | _ => exact absurd (show false = true from hs) Bool.false_ne_true
  | int i =>
    obtain ⟨t, rfl⟩ := rx
    cases y with
    | non => cases ry; exact PySem.EqNone.ne_int_none (fin_bl I q (by simp))
    | int j => obtain ⟨t', rfl⟩ := ry; exact ne_int (fin_bl I q (congrArg not dec_int))
    | str j => obtain ⟨t', rfl⟩ := ry; exact PySem.EqMixed.ne_int_str (fin_bl I q (by simp))
    | _ => exact absurd (show false = true from hs) Bool.false_ne_true
  | str i =>
    obtain ⟨t, rfl⟩ := rx
    cases y with
    | non => cases ry; exact PySem.EqNone.ne_str_none (fin_bl I q (by simp))
    | bl j => cases ry; exact PySem.EqMixed.ne_str_bool (fin_bl I q (by simp))
    | int j => obtain ⟨t', rfl⟩ := ry; exact PySem.EqMixed.ne_str_int (fin_bl I q (by simp))
    | str j => obtain ⟨t', rfl⟩ := ry; exact ne_str (fin_bl I q (congrArg not dec_str))
    | _ => exact absurd (show false = true from hs) Bool.false_ne_true
  | byt i =>
    obtain ⟨t, rfl⟩ := rx
    cases y with
    | byt j => obtain ⟨t', rfl⟩ := ry; exact PySem.W.ne_bytes (fin_bl I q (congrArg not dec_byt))
    | _ => exact absurd (show false = true from hs) Bool.false_ne_true
  | _ => cases y <;> exact absurd (show false = true from hs) Bool.false_ne_true

theorem op_lt : OpR X (compareOp .Lt) (rI0 fun i j => .bl (decide (i < j))) := opB0 fun _ _ _ _ _ _ _ q => lt_int q
theorem op_gt : OpR X (compareOp .Gt) (rI0 fun i j => .bl (decide (j < i))) := opB0 fun _ _ _ _ _ _ _ q => gt_int q
theorem op_ge : OpR X (compareOp .GtE) (rI0 fun i j => .bl (decide (j ≤ i))) := opB0 fun _ _ _ _ _ _ _ q => ge_int q
/-- two rules for one operation: by cases -/
theorem OpR.or {f : Value → Value → Sem Value} {r r' : R2} (h : OpR X f r) (h' : OpR X f r') : OpR X f (fun x y H Q => r x y H Q ∨ r' x y H Q) := by
  intro pins s σ H x y v u Q I rx ry q
  rcases q with q | q
  · exact h pins s σ H x y v u Q I rx ry q
  · exact h' pins s σ H x y v u Q I rx ry q

theorem nomark (b : Expr) {op : CmpOp} (h : op ≠ .In := by decide) (h2 : op ≠ .NotIn := by decide) : behindInMarks op b = false := by
  have e1 : (op == CmpOp.In) = false := by cases op <;> first | rfl | exact absurd rfl h
  have e2 : (op == CmpOp.NotIn) = false := by cases op <;> first | rfl | exact absurd rfl h2
  cases b <;> simp [behindInMarks, e1, e2]
/-- a comparison as a value; hm: nomark b, or (for in, not in) by with_unfolding_all rfl -/
theorem pe_cmpR {op : CmpOp} {r : R2} (ho : OpR X (compareOp op) r) (ha : PE X a ta) (hb : PE X b tb) (hm : behindInMarks op b = false) : PE X (.Compare a [op] [b] pos) (tOp r ta tb) := by
  intro pins s σ H Q I h
  exact wpAny_Compare1 (binT ha hb I h fun v u s2 x y H2 I2 rx ry q => ho pins s2 σ H2 x y v u Q I2 rx ry q) hm
/-- a reading of a value as a test -/
def tTest (t : TE) : TT := fun σ H Q => t σ H fun x H' => ∃ k, x = .bl k ∧ Q k H'
theorem pt_cmpR {op : CmpOp} {r : R2} (ho : OpR X (compareOp op) r) (ha : PE X a ta) (hb : PE X b tb) (hm : behindInMarks op b = false) : PT X (.Compare a [op] [b] pos) (tTest (tOp r ta tb)) := by
  intro pins s σ H Q I h
  refine wpAny_isTrue_Compare1 (thn (ha pins s σ H _ I h) fun v s1 ⟨x, H1, I1, r1, q1⟩ => thn (hb pins s1 σ H1 _ I1 q1) fun u s2 ⟨y, H2, I2, r2, q2⟩ =>
    thn (ho pins s2 σ H2 x y v u _ I2 r1 r2 q2) fun c s3 ⟨z, H3, I3, r3, k, e, q3⟩ => ?_) hm
  subst e
  cases r3
  exact wpAny_truthy_bool ⟨H3, I3, q3⟩
/-- a value's truth by the abstract heap -/
def TruV (K : PySem.W.Frag) (x : V) (H : Hp) (k : Bool) : Prop :=
  match x with
  | .non => k = false
  | .bl b => k = b
  | .int i => k = (i != 0)
  | .str y => y.length ≤ sizeLine ∧ k = ((y.length : Int) != 0)
  | .byt y => y.size ≤ sizeLine ∧ k = ((y.size : Int) != 0)
  | .ref p => (∃ xs, SqL K H p xs ∧ k = !xs.isEmpty) ∨ (∃ xs, SqT K H p xs ∧ k = !xs.isEmpty) ∨ ∃ kvs, H p = some (.dK kvs) ∧ k = !kvs.isEmpty
  | _ => False
theorem isEmpty_kv {κ : Type} {kvs : List (κ × V)} {vs : List (κ × Value)} (r : KV kvs vs) : (!vs.isEmpty) = !kvs.isEmpty := by
  cases r <;> rfl
theorem isEmpty_of {xs : List V} {its : List Value} (r : Vals xs its) : (!its.toArray.isEmpty) = !xs.isEmpty := by
  cases r <;> simp
theorem line63 : (sizeLine : Nat) < 2 ^ 63 := by rw [sizeLine_eq]; decide
theorem tru_ok : TruR X (fun x H Q => ∃ k, TruV X.K x H k ∧ Q k H) := by
  intro pins s σ H x v Q I rx h
  obtain ⟨k, e, q⟩ := h
  have hl := line63
  have hs : sizeLine = 16777216 := sizeLine_eq
  cases x with
  | non =>
    cases rx
    have e' : k = false := e
    subst e'
    exact truthy_none ⟨H, I, q⟩
  | bl b =>
    cases rx
    have e' : k = b := e
    subst e'
    exact wpAny_truthy_bool ⟨H, I, q⟩
  | int i =>
    obtain ⟨t, rfl⟩ := rx
    have e' : k = (i != 0) := e
    subst e'
    exact PySem.P.truthy_int ⟨H, I, q⟩
  | str y =>
    obtain ⟨t, rfl⟩ := rx
    obtain ⟨hy, e'⟩ : y.length ≤ sizeLine ∧ k = ((y.length : Int) != 0) := e
    subst e'
    exact PySem.P.truthy_str (by omega) ⟨H, I.tok _, q⟩
  | byt y =>
    obtain ⟨t, rfl⟩ := rx
    obtain ⟨hy, e'⟩ : y.size ≤ sizeLine ∧ k = ((y.size : Int) != 0) := e
    subst e'
    exact PySem.W.truthy_bytes (by omega) ⟨H, I.tok _, q⟩
  | ref p =>
    cases rx
    have e' : (∃ xs, SqL X.K H p xs ∧ k = !xs.isEmpty) ∨ (∃ xs, SqT X.K H p xs ∧ k = !xs.isEmpty) ∨ ∃ kvs, H p = some (.dK kvs) ∧ k = !kvs.isEmpty := e
    rcases e' with ⟨xs, hx, e'⟩ | ⟨xs, hx, e'⟩ | ⟨kvs, hx, e'⟩
    · subst e'
      obtain ⟨its, r, pl, hz⟩ := I.list hx
      have hlen := r.length
      exact wpAny_truthy_list pl.isList (by simp only [List.size_toArray]; omega) ⟨H, I.tok _, by rw [isEmpty_of r]; exact q⟩
    · subst e'
      obtain ⟨its, r, pl, hz⟩ := I.tuple hx
      have hlen := r.length
      exact truthy_tuple pl (by simp only [List.size_toArray]; omega) ⟨H, I.tok _, by rw [isEmpty_of r]; exact q⟩
    · subst e'
      obtain ⟨hz, hS, vs, r, m⟩ : kvs.length ≤ sizeLine ∧ (p == sysModules) = false ∧ ∃ vs, KV kvs vs ∧ s.heap.DictOf (mixKind X.prog X.w) p vs := I.hok p _ hx
      have hlen : kvs.length = vs.length := Paired.length r
      exact wpAny_truthy_dict hS m (by omega) ⟨H, I.tok _, by rw [isEmpty_kv r]; exact q⟩
  | _ => exact (show False from e).elim
/-- any expression whose test is its value's truth (a name, a call, a subscript, a field ..: he by fun _ => rfl) -/
theorem pt_truth (ha : PE X a ta) (he : ∀ whole, isTrue a X.env whole = (do let v ← whole; standAt a.pos; holding [v] (truthy v))) :
    PT X a (fun σ H Q => ta σ H fun x H' => ∃ k, TruV X.K x H' k ∧ Q k H') := by
  intro pins s σ H Q I h
  exact isTrue_plain (thn (ha pins s σ H _ I h) fun v s1 ⟨x, H1, I1, r1, q1⟩ => tru_ok pins s1 σ H1 x v Q I1 r1 q1) (he _)

theorem op_add_str : OpR X (binaryOp .Add) (fun x y H Q => ∃ i j, x = .str i ∧ y = .str j ∧ i.length + j.length ≤ sizeLine ∧ Q (.str (i ++ j)) H) := by
  intro pins s σ H x y v u Q I rx ry h
  obtain ⟨i, j, rfl, rfl, hz, q⟩ := h
  obtain ⟨t, rfl⟩ := rx
  obtain ⟨t', rfl⟩ := ry
  exact add_str (fun t' tk => ⟨.str (i ++ j), H, I.tok _, ⟨_, rfl⟩, q⟩) hz
theorem vals1 {x : V} {us : List Value} (r : Vals [x] us) : ∃ u, us = [u] ∧ RelV x u := by
  cases r with
  | cons r1 r2 => cases r2; exact ⟨_, rfl, r1⟩
theorem call_abs : CallR X (.builtin "abs") (fun xs H Q => ∃ i, xs = [.int i] ∧ Q (.int (if i < 0 then -i else i)) H) := by
  intro pins s σ H xs us Q I r h
  obtain ⟨i, rfl, q⟩ := h
  obtain ⟨u, rfl, t, rfl⟩ := vals1 r
  exact call_abs_int fun u tk => ⟨.int (if i < 0 then -i else i), H, I.tok _, ⟨_, rfl⟩, q⟩
end
end L2

namespace L2
open PySem PySem.Spec PyProof.Rows

structure ObjM (h : Heap) (x dx C : Addr) (mA : Str → Option Value) : Prop where
  obj : h.get? x = some (PySem.W.instObj C dx)
  ns : h.Ns1 dx mA
  ne : dx ≠ x

section
variable {prog : Program} {w : World} {A : Around} {E : Value → Shared → Prop} {s : Shared} {K : PySem.W.Frag} {x dx C f : Addr} {mA : Str → Option Value} {name : Str} {v : Value}

end

section
variable {P : Program} {w : World} {H H' : Hp} {h h' : Heap} {a C dx : Addr} {fs fs' : List (Str × V)}
end

structure Cls (K : PySem.W.Frag) (C : Addr) : Prop where
  pg : PySem.W.plainGet K C Str.empty = true
  hd : PySem.W.hasDictIn K C = true
  po : PySem.W.plainOver K C = true
  sa : PySem.W.findIn K (.ref C) "__setattr__" = some (some (.builtin "object.__setattr__"))
theorem Cls.get {K : PySem.W.Frag} {C : Addr} (c : Cls K C) (f : Str) : PySem.W.plainGet K C f = true := c.pg
/-- a constant of the class -/
structure Con (K : PySem.W.Frag) (C : Addr) (f : Str) (v : V) (u : Value) : Prop where
  at_ : PySem.W.findIn K (.ref C) f = some (some u)
  rel : RelV v u
  get : PySem.W.specialIn K u "__get__" = some none
  cp : PySem.W.copiedNames.contains f = false
/-- a method: a plain def of the class or of one above it -/
structure Meth (K : PySem.W.Frag) (C : Addr) (m : Str) (f : Addr) : Prop where
  at_ : PySem.W.findIn K (.ref C) m = some (some (.ref f))
  fn : PySem.W.isFn K (.ref f) = true
  kp : PySem.W.keepIn K (.ref f) = true

section
variable {X : Cx} {pins : List (Addr × Obj)} {σ : St} {H : Hp} {s : Shared} {a C dx : Addr} {fs : List (Str × V)} {f : Str} {v : V} {A : Around} {E : Value → Shared → Prop}

/-- a new instance, tracked, without attributes -/
theorem Inv.made (I : Inv X pins σ H s) : Inv X pins σ (upd (upd H s.heap.objs.size (.own (s.heap.objs.size + 1))) (s.heap.objs.size + 1) (.ins C s.heap.objs.size []))
    { s with heap := (s.heap.push PySem.W.emptyDict).push (PySem.W.instObj C s.heap.objs.size) } := by
  have e1 : (s.heap.push PySem.W.emptyDict).get? s.heap.objs.size = some PySem.W.emptyDict := Heap.get?_push_size s.heap rfl
  have e2 : ((s.heap.push PySem.W.emptyDict).push (PySem.W.instObj C s.heap.objs.size)).get? (s.heap.objs.size + 1) = some (PySem.W.instObj C s.heap.objs.size) := by
    have := Heap.get?_push_size (s.heap.push PySem.W.emptyDict) (o := PySem.W.instObj C s.heap.objs.size) rfl
    rwa [Heap.size_push] at this
  have e3 : (s.heap.push PySem.W.emptyDict).Ns s.heap.objs.size (fun _ => none) := ⟨PySem.W.emptyDict, #[], _, e1, rfl, (fun e he => absurd he (by simp)), fun _ => rfl⟩
  have I1 := I.laid (a := s.heap.objs.size) (o := .own (s.heap.objs.size + 1)) (h' := s.heap.push PySem.W.emptyDict) (t' := s.toks) (fun b u q => Heap.get?_push_of_some _ q) (Nat.le_refl _) ⟨_, e1⟩
  refine I1.laid (a := s.heap.objs.size + 1) (o := .ins C s.heap.objs.size []) (t' := s.toks) (fun b u q => Heap.get?_push_of_some _ q) (Nat.le_of_eq (Heap.size_push _ _)) ?_
  have ne : s.heap.objs.size ≠ s.heap.objs.size + 1 := Nat.ne_of_lt (Nat.lt_succ_self _)
  refine ⟨by rw [upd_ne ne, upd_same], Nat.zero_le _, ne, e2, fun _ => none, (Heap.Ns1.of_empty e3).at fun o q => Heap.get?_push_of_some _ q, fun _ => True.intro, fun y hy => absurd rfl hy⟩

end

section
variable {X : Cx} {o e value : Expr} {f : Str} {pos pos' tpos : Pos} {ta tv : TE}
def rAdd : V → V → Hp → VK → Prop := fun x y H Q => ∃ i j, x = .int i ∧ y = .int j ∧ Q (.int (i + j)) H
end

section
variable {X : Cx} {pins : List (Addr × Obj)} {σ : St} {H : Hp} {s : Shared} {A : Around} {E : Value → Shared → Prop} {Q : Value → Shared → Prop} {c : Value} {b : Bool}
/-- the type of a value, as the fragment's deciders take it; for an instance its class -/
inductive TyOf (K : PySem.W.Frag) (H : Hp) : V → Value → Prop where
  | non : TyOf K H .non (.type "NoneType")
  | bl (x : Bool) : TyOf K H (.bl x) (.type "bool")
  | int (i : Int) : TyOf K H (.int i) (.type "int")
  | str (x : Str) : TyOf K H (.str x) (.type "str")
  | flt (x : UInt64) : TyOf K H (.flt x) (.type "float")
  | lst {a : Addr} {xs : List V} (e : H a = some (.lst xs)) : TyOf K H (.ref a) (.type "list")
  | frz {a : Addr} {o : Obj} {xs : List V} (e : H a = some (.frz o (.lst xs))) : TyOf K H (.ref a) (.type "list")
  | tup {a : Addr} {xs : List V} (e : H a = some (.tup xs)) : TyOf K H (.ref a) (.type "tuple")
  | dK {a : Addr} {kvs : List (Key × V)} (e : H a = some (.dK kvs)) : TyOf K H (.ref a) (.type "dict")
  | dT {a : Addr} {kvs : List (List Key × V)} (e : H a = some (.dT kvs)) : TyOf K H (.ref a) (.type "dict")
  | ins {a C dx : Addr} {fs : List (Str × V)} (e : H a = some (.ins C dx fs)) (cl : Cls K C) (ha : PySem.W.findIn K (.ref C) "__class__" = some (some (.builtin "object.__class__")))
      (hn : PySem.W.specialIn K (.builtin "object.__class__") "__get__" = some (some (.builtin "getset_descriptor.__get__"))) (htk : PySem.W.takesIn K (.builtin "object.__class__") = some true)
      (hm : PySem.W.mroIn K C (.type "object") = some true) : TyOf K H (.ref a) (.ref C)
end
end L2

namespace L2
open PySem PySem.Spec PyProof.Rows

structure Room (k : Nat) (A : Around) : Prop where
  hd : A.handled = none
  dp : A.depth + 3 * k + 5 < recursionLimit
  un : A.units + 16 * k + 200 < cLine
  gd : A.guards = some []
theorem Room.mono {j k : Nat} {A : Around} (r : Room k A) (h : j ≤ k) : Room j A := ⟨r.hd, by have := r.dp; omega, by have := r.un; omega, r.gd⟩
theorem Room.deeper {k : Nat} {A : Around} (r : Room (k + 1) A) (env : Env) : Room k (A.deeper env) :=
  ⟨r.hd, by have := r.dp; show A.depth + 1 + 3 * k + 5 < _; omega, by have := r.un; show A.units + 3 + 16 * k + 200 < _; omega, r.gd⟩
theorem Room.depth {k : Nat} {A : Around} (r : Room k A) : A.depth < recursionLimit := by have := r.dp; omega
theorem Room.units {k : Nat} {A : Around} (r : Room k A) : A.units + 64 < cLine := by have := r.un; omega
def tNil : TA := fun _ H Q => Q [] H
def tCons (ta : TE) (tr : TA) : TA := fun σ H Q => ta σ H fun x H1 => tr σ H1 fun xs H2 => Q (x :: xs) H2
section
variable {X : Cx} {e : Expr} {es : List Expr} {te : TE} {t : TA} {pos : Pos}
theorem pa_nil : PA X [] tNil := fun _ _ _ _ H Q I h => Calls.spliced_nil ⟨[], H, I, .nil, h⟩
theorem pa_cons (ha : PE X e te) (hr : PA X es t) (hs : starEach (e :: es) X.env = (false, eval e X.env) :: starEach es X.env := by rfl) : PA X (e :: es) (tCons te t) := by
  intro pos pins s σ H Q I h
  rw [hs]
  show wpAny _ _ (spliced ((false, eval e X.env) :: backTo pos (starEach es X.env))) _ _ s
  refine Calls.spliced_cons (thn (ha pins s σ H _ I h) fun u s1 ⟨x, H1, I1, r1, q1⟩ => ?_)
  exact thn (hr pos pins s1 σ H1 _ I1 q1) fun us s2 ⟨xs, H2, I2, r2, q2⟩ => ⟨x :: xs, H2, I2, .cons r1 r2, q2⟩

/-- a tuple, a list of written items -/
def tTup (t : TA) : TE := fun σ H Q => t σ H fun xs H1 => xs.length ≤ sizeLine ∧ ∀ p, H1 p = none → Q (.ref p) (upd H1 p (.tup xs))
def tLst (t : TA) : TE := fun σ H Q => t σ H fun xs H1 => xs.length ≤ sizeLine ∧ ∀ p, H1 p = none → Q (.ref p) (upd H1 p (.lst xs))
theorem pe_tup {x1} (h : PA X es t) : PE X (.Tuple es x1 pos) (tTup t) := by
  intro pins s σ H Q I hq
  refine wpAny_Tuple_spliced (thn (h pos pins s σ H _ I hq) fun us s1 ⟨xs, H1, I1, r, z, q⟩ => ⟨by rw [← r.length]; exact z, ?_⟩)
  have hf : H1 s1.heap.objs.size = none := I1.hok.fresh (Nat.le_refl _)
  refine ⟨.ref s1.heap.objs.size, upd H1 s1.heap.objs.size (.tup xs), I1.laid (t' := s1.toks) (fun b u e => Heap.get?_push_of_some _ e) (Nat.le_refl _) ?_, rfl, q _ hf⟩
  exact ⟨z, us, r, ⟨_, Heap.get?_push_size _ rfl, rfl, _, rfl⟩⟩
theorem pe_lst (h : PA X es t) : PE X (.List es pos) (tLst t) := by
  intro pins s σ H Q I hq
  refine wpAny_List_spliced (thn (h pos pins s σ H _ I hq) fun us s1 ⟨xs, H1, I1, r, z, q⟩ => ⟨by rw [← r.length]; exact z, ?_⟩)
  have hf : H1 s1.heap.objs.size = none := I1.hok.fresh (Nat.le_refl _)
  refine ⟨.ref s1.heap.objs.size, upd H1 s1.heap.objs.size (.lst xs), I1.laid (t' := s1.toks) (fun b u e => Heap.get?_push_of_some _ e) (Nat.le_refl _) ?_, rfl, q _ hf⟩
  exact ⟨z, us, 0, r, Heap.get?_push_size _ rfl⟩
end

/-- a def's promise: the bound arguments in the parameters' order, the heap, the wanted end, the wanted exception -/
abbrev Sp := List V → Hp → VK → XK → Prop
/-- how an exception lies behind a call (file 08 gives it): the callers' frames, abstract heap and state ahead of the call, the wish, the exception, the state -/
abbrev CXT := List Env → Hp → Shared → XK → Value → Shared → Prop

/-- the state at a call -/
structure Env0 (P : Program) (w : World) (K : PySem.W.Frag) (mg : Str → Option Value) (base : Heap) (A : Around) (outer : List Env) (s : Shared) (H : Hp) : Prop where
  frames : A.frames = some outer
  mod : Mod K mg base
  bs : ∀ b o, base.get? b = some o → s.heap.get? b = some o ∧ H b = none
  bsz : base.objs.size ≤ s.heap.objs.size
  funs : s.heap.FunFrames base outer
  frf : ∀ b ∈ frs outer, H b = none
  hok : HOk P w H s.heap
  bare : AllBare s.gens
/-- a call's end -/
def CE (outer : List Env) (P : Program) (w : World) (H : Hp) (s : Shared) (Q : VK) (u : Value) (s' : Shared) : Prop :=
  ∃ v H', s'.os = s.os ∧ AllBare s'.gens ∧ Un (frs outer) [] H H' s.heap s'.heap ∧ HOk P w H' s'.heap ∧ RelV v u ∧ Q v H'
def CR (CX : CXT) (outer : List Env) (P : Program) (w : World) (H : Hp) (s : Shared) (Q : VK) (E : XK) (r : Result) (s' : Shared) : Prop :=
  match r with
  | .ok (.ret u) => CE outer P w H s Q u s'
  | .ok _ => False
  | .error e => CX outer H s E e s'
structure FnOk (P : Program) (w : World) (K : PySem.W.Frag) (mg : Str → Option Value) (base : Heap) (CX : CXT) (k : Nat) (f : Addr) (fd : FuncData) (ps : List Str) (sp : Sp) : Prop where
  len : ∀ vs H Q E, sp vs H Q E → vs.length = ps.length
  run : ∀ (A : Around) (outer : List Env) (s : Shared) (H : Hp) (args : Args) (us : List Value) (vs : List V) (Q : VK) (E : XK), Room k A → Env0 P w K mg base A outer s H → BindsTo s fd args (ps.zip us) → Vals vs us → sp vs H Q E →
    codeAny (model P w) A (.call (.ref f) args) (CR CX outer P w H s Q E) s
theorem FnOk.mono {P : Program} {w : World} {K : PySem.W.Frag} {mg : Str → Option Value} {base : Heap} {CX : CXT} {j k : Nat} {f : Addr} {fd : FuncData} {ps : List Str} {sp : Sp} (F : FnOk P w K mg base CX j f fd ps sp) (h : j ≤ k) :
    FnOk P w K mg base CX k f fd ps sp := ⟨F.len, fun A outer s H args us vs Q E hr => F.run A outer s H args us vs Q E (hr.mono h)⟩
/-- a weaker promise -/
theorem FnOk.imp {P : Program} {w : World} {K : PySem.W.Frag} {mg : Str → Option Value} {base : Heap} {CX : CXT} {k : Nat} {f : Addr} {fd : FuncData} {ps : List Str} {sp sp' : Sp} (F : FnOk P w K mg base CX k f fd ps sp)
    (h : ∀ vs H Q E, sp' vs H Q E → sp vs H Q E) : FnOk P w K mg base CX k f fd ps sp' :=
  ⟨fun vs H Q E q => F.len vs H Q E (h _ _ _ _ q), fun A outer s H args us vs Q E hr he hb hv hs => F.run A outer s H args us vs Q E hr he hb hv (h _ _ _ _ hs)⟩

section
variable {X : Cx} {pins : List (Addr × Obj)} {σ : St} {H : Hp} {s s' : Shared}
/-- from a body: what a callee wants -/
theorem Inv.env0 (I : Inv X pins σ H s) : Env0 X.prog X.w X.K X.mg X.base X.A X.stack s H :=
  ⟨I.ok.frames, I.ok.mod, I.bs, Nat.le_trans I.ok.bsz I.sz, I.stack, I.stkFree, I.hok, I.bare⟩
/-- behind a call -/
theorem Inv.after {Q : VK} {u : Value} (I : Inv X pins σ H s) (h : CE X.stack X.prog X.w H s Q u s') : EP X pins σ Q u s' := by
  obtain ⟨v, H', os, bare, un, hok, r, q⟩ := h
  obtain ⟨hh, g, d, t, os'⟩ := s'
  obtain rfl : os' = s.os := os
  exact ⟨v, H', I.call (h' := hh) (g' := g) (d' := d) (t' := t) (ch := []) un hok bare (fun b z => absurd z (by simp)), r, q⟩
end

/-- f(..): the written arguments, then the defaults dvs; E: what is wanted of an exception -/
def tCall (sp : Sp) (dvs : List V) (E : XK) (t : TA) : TE := fun σ H Q => t σ H fun vs H1 => sp (vs ++ dvs) H1 Q E
/-- how the parameters are bound: us the positional arguments, kw the keywords' values by name, ds the defaults that fill up -/
def Binds (K : PySem.W.Frag) (fd : FuncData) (ps : List Str) (ds : List Value) : Prop :=
  ∀ (s : Shared) (us : List Value), K.In s.heap → (us ++ ds).length = ps.length → BindsTo s fd ⟨us, []⟩ (ps.zip (us ++ ds))
/-- every parameter is given -/
theorem Binds.all {K : PySem.W.Frag} {fd : FuncData} {ps : List Str} (h : ∀ us : List Value, us.length = ps.length → bindArgs fd ⟨us, []⟩ = pure (ps.zip us)) : Binds K fd ps [] := fun s us _ hl => by
  rw [List.append_nil] at hl ⊢
  exact .of_eq (h us hl)

/-- an exception of a callee reaches what this body wants of exceptions -/
def Passes (CX : CXT) (X : Cx) (E : XK) : Prop := ∀ (pins : List (Addr × Obj)) (σ : St) (H : Hp) (s : Shared) (e : Value) (s' : Shared), Inv X pins σ H s → CX X.stack H s E e s' → X.xe e s'

section
variable {X : Cx} {CX : CXT} {k : Nat} {f C : Addr} {fd : FuncData} {ps : List Str} {sp : Sp} {dvs : List V} {ds : List Value} {E : XK} {x m : Str} {p pos apos : Pos} {e o : Expr} {es : List Expr} {ta : TE} {t : TA}

/-- the callee runs -/
theorem run_fn {pins : List (Addr × Obj)} {σ : St} {H : Hp} {s : Shared} {Q : VK} {us : List Value} {vs : List V} (F : FnOk X.prog X.w X.K X.mg X.base CX k f fd ps sp) (hr : Room k X.A) (hb : Binds X.K fd ps ds) (hd : Vals dvs ds) (hx : Passes CX X E)
    (I : Inv X pins σ H s) (r : Vals vs us) (h : sp (vs ++ dvs) H Q E) : wpAny (model X.prog X.w) X.A (call (.ref f) us) (EP X pins σ Q) X.xe s := by
  have r2 : Vals (vs ++ dvs) (us ++ ds) := r.append hd
  have hl : (us ++ ds).length = ps.length := by rw [← r2.length]; exact F.len _ _ _ _ h
  refine wpAny_call (codeAny_mono (F.run X.A X.stack s H ⟨us, []⟩ (us ++ ds) (vs ++ dvs) Q E hr I.env0 (hb s us I.kIn hl) r2 h) fun r s' hq => ?_)
  cases r with
  | error e => exact hx pins σ H s e s' I hq
  | ok fl =>
    cases fl with
    | ret u => exact I.after hq
    | next => exact False.elim hq
    | brk => exact False.elim hq
    | cont => exact False.elim hq

theorem pe_call (F : FnOk X.prog X.w X.K X.mg X.base CX k f fd ps sp) (hr : Room k X.A) (hg : Gl X x) (hm : X.mg x = some (.ref f)) (hk : PySem.W.keepIn X.K (.ref f) = true) (hb : Binds X.K fd ps ds) (hd : Vals dvs ds) (hx : Passes CX X E)
    (ha : PA X (e :: es) t) (hdb : (x == ("__debug__" : Str)) = false := by decide) (he : starEach (e :: es) X.env = (false, eval e X.env) :: starEach es X.env := by rfl) (hpl : (backTo pos (starEach es X.env)).any (·.1) = false := by rfl) :
    PE X (.Call (.Name x p) (e :: es) [] pos) (tCall sp dvs E t) := by
  intro pins s σ H Q I h
  refine wpAny_Call_Name_kw (ld_glob I hg hm ?_ hdb)
  refine PySem.W.callWith_K (h₀ := X.base) I.ok.mod.kin hk (thn (ha pos pins s σ H _ I h) fun us s1 ⟨vs, H1, I1, r, q⟩ => ⟨I1.kIn, ?_⟩) he hpl
  exact run_fn F hr hb hd hx I1 r q
/-- what a class must have to be made -/
structure Mk (K : PySem.W.Frag) (C f : Addr) : Prop where
  makes : PySem.W.makesIn K C = true
  init : PySem.W.findIn K (.ref C) "__init__" = some (some (.ref f))
  fn : PySem.W.isFn K (.ref f) = true
  kp : PySem.W.keepIn K (.ref C) = true

end

section
variable {X : Cx} {CX : CXT} {k : Nat} {f C : Addr} {fd : FuncData} {ps ks : List Str} {sp : Sp} {E : XK} {x m : Str} {p pos apos kpos : Pos} {e o : Expr} {es : List Expr} {kws : List Keyword} {te ta : TE} {t tk : TA} {nm : Option Str}
/-- how a call with keywords binds: g puts the positional values us and the keywords' values ws (names ks) in the parameters' order, defaults among them -/
structure KBinds (K : PySem.W.Frag) (fd : FuncData) (ps ks : List Str) (g : List Value → List Value → List Value) (gV : List V → List V → List V) : Prop where
  to : ∀ (s : Shared) (us ws : List Value), K.In s.heap → (g us ws).length = ps.length → BindsTo s fd ⟨us, ks.zip ws⟩ (ps.zip (g us ws))
  rel : ∀ {vs : List V} {us : List Value} {zs : List V} {ws : List Value}, Vals vs us → Vals zs ws → Vals (gV vs zs) (g us ws)
variable {g : List Value → List Value → List Value} {gV : List V → List V → List V}
end

/-- names: the parameters first -/
structure FnScope (N P : List Str) (sc : Scope) : Prop where
  kind : sc.kind = .function
  co : sc.isCoroutine = false
  gen : sc.isGenerator = false
  nd : N.Nodup
  pre : N.take P.length = P
  par : ∀ x ∈ P, sc.names.lookup x = some .local ∨ sc.names.lookup x = some .cell
  nofree : ∀ y ∈ sc.names, y.2 ≠ .free

theorem bindL_out {kindOf : Str → Option NameKind} {x : Str} : ∀ {binds : List (Str × Value)} {m : Str → Option Value}, (∀ v, (x, v) ∉ binds) → bindL kindOf binds m x = m x
  | [], _, _ => rfl
  | (n, v) :: r, m, h => by
    unfold bindL
    rw [bindL_out fun w hw => h w (List.mem_cons_of_mem _ hw)]
    split
    · have : x ≠ n := by rintro rfl; exact h v List.mem_cons_self
      simp [this]
    · rfl
theorem bindC_out {kindOf : Str → Option NameKind} {x : Str} : ∀ {binds : List (Str × Value)} {m : Str → Option Value}, (∀ v, (x, v) ∉ binds) → bindC kindOf binds m x = m x
  | [], _, _ => rfl
  | (n, v) :: r, m, h => by
    unfold bindC
    rw [bindC_out fun w hw => h w (List.mem_cons_of_mem _ hw)]
    split
    · rfl
    · have : x ≠ n := by rintro rfl; exact h v List.mem_cons_self
      simp [this]
theorem bindL_get {kindOf : Str → Option NameKind} {x : Str} {v : Value} : ∀ {P : List Str} {vs : List Value} {i : Nat} {m : Str → Option Value}, P.Nodup → P[i]? = some x → vs[i]? = some v → kindOf x = some .local →
    bindL kindOf (P.zip vs) m x = some v
  | [], _, _, _, _, h, _, _ => by simp at h
  | _ :: _, [], _, _, _, _, h, _ => by simp at h
  | p :: P, w :: vs, 0, m, nd, h1, h2, hk => by
    simp at h1 h2; subst h1; subst h2
    show bindL kindOf ((p, w) :: P.zip vs) m p = _
    unfold bindL
    rw [bindL_out fun v hv => (List.nodup_cons.mp nd).1 (List.of_mem_zip hv).1, if_pos hk]
    simp
  | p :: P, w :: vs, i + 1, m, nd, h1, h2, hk => by
    show bindL kindOf ((p, w) :: P.zip vs) m x = _
    unfold bindL
    exact bindL_get (i := i) (List.nodup_cons.mp nd).2 (by simpa using h1) (by simpa using h2) hk
theorem bindC_get {kindOf : Str → Option NameKind} {x : Str} {v : Value} : ∀ {P : List Str} {vs : List Value} {i : Nat} {m : Str → Option Value}, P.Nodup → P[i]? = some x → vs[i]? = some v → kindOf x ≠ some .local →
    bindC kindOf (P.zip vs) m x = some v
  | [], _, _, _, _, h, _, _ => by simp at h
  | _ :: _, [], _, _, _, _, h, _ => by simp at h
  | p :: P, w :: vs, 0, m, nd, h1, h2, hk => by
    simp at h1 h2; subst h1; subst h2
    show bindC kindOf ((p, w) :: P.zip vs) m p = _
    unfold bindC
    rw [bindC_out fun v hv => (List.nodup_cons.mp nd).1 (List.of_mem_zip hv).1, if_neg hk]
    simp
  | p :: P, w :: vs, i + 1, m, nd, h1, h2, hk => by
    show bindC kindOf ((p, w) :: P.zip vs) m x = _
    unfold bindC
    exact bindC_get (i := i) (List.nodup_cons.mp nd).2 (by simpa using h1) (by simpa using h2) hk

/-- the names' values at the entry -/
def start (N : List Str) (vs : List V) : St := vs.map some ++ List.replicate (N.length - vs.length) none

/-- the context of a def's body, at its entry; an exception leaves the frame, then lies as CX says -/
def cxOf (CX : CXT) (P : Program) (w : World) (K : PySem.W.Frag) (mg : Str → Option Value) (base : Heap) (N : List Str) (qual : Str) (scope : Scope) (f : Addr) (cd : Value) (A : Around) (outer : List Env) (s : Shared) (H : Hp) (E : XK) : Cx where
  prog := P
  w := w
  K := K
  mg := mg
  base := base
  A := A.deeper (envOfC qual scope s.heap.objs.size f cd)
  N := N
  s₀ := s
  H₀ := H
  env := envOfC qual scope s.heap.objs.size f cd
  outer := outer
  stack := envOfC qual scope s.heap.objs.size f cd :: outer
  ex := []
  calm := true
  fn := fun _ => true
  pn := []
  xe := fun e s' => wpAny (model P w) (A.deeper (envOfC qual scope s.heap.objs.size f cd)) (leaving (envOfC qual scope s.heap.objs.size f cd) e) (fun _ s'' => CX outer H s E e s'') (fun e' s'' => CX outer H s E e' s'') s'

theorem cell_has {sc : Scope} {n : Nat} {x : Str} (h : sc.names.lookup x = some .cell) : ∃ c, (cellsFrom n sc.names []).lookup x = some c := by
  have q := PySem.W.cellsFrom_some sc.names n [] (.inl h)
  exact Option.isSome_iff_exists.mp q

theorem inv_start {CX : CXT} {P : Program} {w : World} {K : PySem.W.Frag} {mg : Str → Option Value} {base : Heap} {N ps : List Str} {qual : Str} {scope : Scope} {f : Addr} {cd : Value} {A : Around} {outer : List Env} {s s1 : Shared} {H : Hp} {E : XK} {us : List Value} {vs : List V}
    (S : FnScope N ps scope) (hd : A.handled = none) (e0 : Env0 P w K mg base A outer s H) (hl : vs.length = ps.length) (r : Vals vs us)
    (x : InCallC s s.heap.objs.size (bindL (envOfC qual scope s.heap.objs.size f cd).kindOf (ps.zip us) fun _ => none) (cellsFrom (s.heap.objs.size + 1) scope.names []) (bindC (envOfC qual scope s.heap.objs.size f cd).kindOf (ps.zip us) fun _ => none) s1) :
    Inv (cxOf CX P w K mg base N qual scope f cd A outer s H E) [] (start N vs) H s1 := by
  have hpl : ps.length ≤ N.length := by have := congrArg List.length S.pre; rw [List.length_take] at this; omega
  obtain ⟨h1, tk, rfl, hk⟩ := x.done
  have noA : ∀ b : Addr, b ∉ (cxOf CX P w K mg base N qual scope f cd A outer s H E).ex := fun b z => absurd (show b ∈ ([] : List Addr) from z) (by simp)
  refine ⟨⟨e0.mod, S.kind, rfl, rfl, Nat.le_refl _, fun y z c h1 h2 => ?_, fun y hy => ?_, fun y c _ h => ?_, fun _ => hd, Around.frames_deeper e0.frames, .inr ⟨rfl, rfl⟩, fun b z => absurd z (noA b), e0.bs, e0.bsz, fun b _ _ => noA b, fun b z => absurd z (noA b), e0.funs, e0.frf⟩,
    rfl, e0.bare, Un.kept hk, ⟨_, x.toInCall.ns, fun i y v h1 h2 h3 => ?_⟩, fun y c h => ⟨_, x.cell y c h⟩, e0.hok.fresh (Nat.le_refl _), fun y c h => ?_, fun p hp => absurd (show p ∈ ([] : List (Addr × Obj)) from hp) (by simp), e0.hok.kept hk, ?_⟩
  · exact name_of_addr x.apart (PySem.mem_of_lookup h1) (PySem.mem_of_lookup h2)
  · have hy : scope.names.lookup y = some .cell ∨ scope.names.lookup y = some .free := hy
    rcases hy with hy | hy
    · exact cell_has hy
    · exact absurd rfl (S.nofree _ (PySem.mem_of_lookup hy))
  · exact Nat.le_of_lt (x.above y c (PySem.mem_of_lookup h))
  · have hi : i < vs.length := by
      unfold start at h2
      by_cases hi : i < vs.length
      · exact hi
      · rw [List.getElem?_append_right (by simpa using hi)] at h2
        rw [List.getElem?_replicate] at h2
        split at h2 <;> cases h2
    have ha : vs[i]? = some v := by
      unfold start at h2
      rw [List.getElem?_append_left (by simpa using hi), List.getElem?_map] at h2
      cases e : vs[i]? with
      | none => rw [e] at h2; cases h2
      | some a => rw [e] at h2; cases h2; rfl
    obtain ⟨u, hu, rv⟩ := r.get ha
    have hp : ps[i]? = some y := by
      rw [← S.pre, List.getElem?_take_of_lt (by omega)]; exact h1
    have ndP : ps.Nodup := by rw [← S.pre]; exact S.nd.sublist (List.take_sublist _ _)
    refine ⟨u, rv, ?_⟩
    rcases S.par y (List.mem_of_getElem? hp) with k | k
    · exact .inl ⟨k, bindL_get ndP hp hu k⟩
    · obtain ⟨c, e⟩ := cell_has (n := s.heap.objs.size + 1) k
      refine .inr ⟨.inl k, c, e, ?_⟩
      have q := x.cell y c e
      rw [bindC_get ndP hp hu (by show scope.names.lookup y ≠ _; rw [k]; decide)] at q
      exact q
  · exact e0.hok.fresh (Nat.le_of_lt (x.above y c (PySem.mem_of_lookup h)))
  · unfold start
    show _ = N.length
    rw [List.length_append, List.length_map, List.length_replicate]
    omega

/-- THE RULE: a def (or a method) of the text, by its body. The body's reading t is chosen for each entry; it is run at the parameters' values -/
theorem fn_of {CX : CXT} {P : Program} {w : World} {K : PySem.W.Frag} {mg : Str → Option Value} {base : Heap} {k : Nat} {f : Addr} {name qual : Str} {params : Arguments} {body : List Stmt} {scope : Scope} {dV kV doc pm cdv ct oc : Value} {an od : Option Addr}
    {osl : Array (Option Value)} {N ps : List Str} {sp : Sp} (lk : K.lookup f = some ⟨oc, od, .func (PySem.W.fnOf name qual params body scope dV kV doc pm an cdv ct), osl⟩) (hcd : PySem.W.codeIn K cdv qual = true) (S : FnScope N ps scope)
    (len : ∀ vs H Q E, sp vs H Q E → vs.length = ps.length)
    (hbody : ∀ (A : Around) (outer : List Env) (s : Shared) (H : Hp) (vs : List V) (Q : VK) (E : XK), Room k (A.deeper (envOfC qual scope s.heap.objs.size f cdv)) → sp vs H Q E →
      ∃ t, PSs (cxOf CX P w K mg base N qual scope f cdv A outer s H E) body t ∧ t { nx := fun _ H' => Q .non H', rt := Q } (start N vs) H) :
    FnOk P w K mg base CX (k + 1) f (PySem.W.fnOf name qual params body scope dV kV doc pm an cdv ct) ps sp := by
  refine ⟨len, fun A outer s H args us vs Q E hr e0 hb r hsp => ?_⟩
  have hl := len _ _ _ _ hsp
  have KX : K.In s.heap := e0.mod.kin.keeps fun b o e => (e0.bs b o e).1
  have lim : s.heap.NoLimit := e0.mod.nolimit.keeps fun b o e => (e0.bs b o e).1
  have hkind : ∀ y ∈ ps.zip us, scope.names.lookup y.1 = some .local ∨ (scope.names.lookup y.1 = some .cell ∧ ((cellsFrom (s.heap.objs.size + 1) scope.names []).lookup y.1).isSome = true) := fun ⟨n, v⟩ hy => by
    rcases S.par n (List.of_mem_zip hy).1 with q | q
    · exact .inl q
    · exact .inr ⟨q, PySem.W.cellsFrom_some _ _ _ (.inl q)⟩
  refine codeAny_call_function hr.depth (KX _ _ lk) rfl S.co S.gen rfl (PySem.W.codeRec_of KX hcd) (hb _ _ _ _ ?_)
  refine wpAny_newFunctionEnv_cells S.kind hkind fun env he s1 x => ?_
  subst he
  refine ⟨lim.keeps x.toInCall.keep, codeAny_func ?_⟩
  obtain ⟨t, ht, hq⟩ := hbody A outer s H vs Q E (hr.deeper _) hsp
  have I : Inv (cxOf CX P w K mg base N qual scope f cdv A outer s H E) [] (start N vs) H s1 := inv_start S hr.hd e0 hl r x
  refine wpAny_mono (ht [] s1 (start N vs) H _ I hq) (fun fl s' hs => ?_) fun e s' hs => hs
  have fin : ∀ {σ' : St} {H' : Hp} {v : V} {u : Value}, Inv (cxOf CX P w K mg base N qual scope f cdv A outer s H E) [] σ' H' s' → RelV v u → Q v H' → CE outer P w H s Q u s' :=
    fun {σ' H' v u} J rv q => ⟨v, H', J.os, J.bare, J.base, J.hok, rv, q⟩
  cases fl with
  | ret u =>
    obtain ⟨v, σ', H', J, rv, q⟩ := hs
    exact fin J rv q
  | next =>
    obtain ⟨σ', H', J, q⟩ := hs
    exact fin (v := V.non) (u := Value.none) J rfl q
  | brk =>
    obtain ⟨_, _, _, q⟩ := hs
    exact False.elim q
  | cont =>
    obtain ⟨_, _, _, q⟩ := hs
    exact False.elim q
end L2

namespace L2
open PySem PySem.Spec PyProof.Rows
section
variable {X : Cx} {x : Str} {p pos : Pos} {e : Expr} {es : List Expr} {t : TA} {id T : String} {r : List V → Hp → VK → Prop}

def tCB (r : List V → Hp → VK → Prop) (t : TA) : TE := fun σ H Q => t σ H fun vs H1 => r vs H1 Q
/-- f(e, ..), f a built-in function -/
theorem pe_callB (hc : CallR X (.builtin id) r) (hg : Gl X x) (hm : X.mg x = none) (hv : bootBuiltins x = some (.builtin id)) (ha : PA X (e :: es) t) (hn : x ≠ "__name__" := by decide) (hdb : (x == ("__debug__" : Str)) = false := by decide)
    (he : starEach (e :: es) X.env = (false, eval e X.env) :: starEach es X.env := by rfl) (hpl : (backTo pos (starEach es X.env)).any (·.1) = false := by rfl) : PE X (.Call (.Name x p) (e :: es) [] pos) (tCB r t) := by
  intro pins s σ H Q I h
  refine wpAny_Call_Name_kw (ld_blt I hg hm hv ?_ hn hdb)
  exact PyProof.Rows.callWith_builtin1 (thn (ha pos pins s σ H _ I h) fun us s1 ⟨vs, H1, I1, r1, q1⟩ => hc pins s1 σ H1 vs us Q I1 r1 q1) he hpl
/-- T(e, ..), T a built-in type -/
theorem pe_callTy (hc : CallR X (.type T) r) (hg : Gl X x) (hm : X.mg x = none) (hv : bootBuiltins x = some (.type T)) (ha : PA X (e :: es) t) (hn : x ≠ "__name__" := by decide) (hdb : (x == ("__debug__" : Str)) = false := by decide)
    (he : starEach (e :: es) X.env = (false, eval e X.env) :: starEach es X.env := by rfl) (hpl : (backTo pos (starEach es X.env)).any (·.1) = false := by rfl) : PE X (.Call (.Name x p) (e :: es) [] pos) (tCB r t) := by
  intro pins s σ H Q I h
  refine wpAny_Call_Name_kw (ld_blt I hg hm hv ?_ hn hdb)
  exact PyProof.Rows.callWith_type1 (thn (ha pos pins s σ H _ I h) fun us s1 ⟨vs, H1, I1, r1, q1⟩ => hc pins s1 σ H1 vs us Q I1 r1 q1) he hpl
end
end L2

namespace HT
open PySem PyProof.Rows

section
open PySem.SeqAt
open PySem.AutoSeq1 (wpAny_loadPart')
open PySem.MeetsSeq PySem.MeetsSeq2 PySem.MeetsSeq3

end

section
variable {prog : Program} {w : World} {A : Around} {E : Value → Shared → Prop} {s : Shared}

/-- t + u, t not empty -/
theorem cat_tup {t b : Addr} {vs ws : List Value} {Q : Value → Shared → Prop} (ht : IsTup s.heap t vs.toArray) (hb : IsTup s.heap b ws.toArray) (hv : vs ≠ [])
    (h1 : ws = [] → Q (.ref t) s) (h2 : ws ≠ [] → Q (.ref s.heap.objs.size) { s with heap := s.heap.push { cls := .type "tuple", data := .seq (vs ++ ws).toArray } })
    (hsz : vs.length + ws.length ≤ sizeLine) : wpAny (model prog w) A (binaryOp .Add (.ref t) (.ref b)) Q E s := by
  obtain ⟨⟨cls, dd, data, sl⟩, ho, hc, n, hd⟩ := id ht
  obtain ⟨⟨cls2, dd2, data2, sl2⟩, ho2, hc2, n2, hd2⟩ := id hb
  simp only at hc hd hc2 hd2
  subst hc hd hc2 hd2
  have e : vs.toArray ++ ws.toArray = (vs ++ ws).toArray := by simp
  by_cases hw : ws = []
  · exact concat_meets ⟨_, ho, rfl⟩ ⟨_, ho2, rfl⟩ noFill_tuple_add seq_tuple_add PySem.F.slot_tuple_add PySem.F.entry_tuple_add (PySem.F.args_tuple_add_2 _ _)
      (tuple_addW1 t b vs.toArray ws.toArray n n2 dd dd2 sl sl2 (by simpa using hv) (by simp [hw])) ⟨ho, ho2, h1 hw⟩
  · refine concat_meets ⟨_, ho, rfl⟩ ⟨_, ho2, rfl⟩ noFill_tuple_add seq_tuple_add PySem.F.slot_tuple_add PySem.F.entry_tuple_add (PySem.F.args_tuple_add_2 _ _)
      (tuple_addW2 t b vs.toArray ws.toArray n n2 dd dd2 sl sl2 (by simpa using hv) (by simpa using hw) (by rw [List.size_toArray, List.size_toArray]; exact hsz)) ⟨ho, ho2, ?_⟩
    rw [e]
    exact h2 hw

/-- a slice's bound as a place among n (d where it is left out) -/
def sIx (n d : Nat) : Option Int → Nat
  | none => d
  | some v => if v < 0 then (v + (n : Int)).toNat else min v.toNat n
theorem sIx_nat (n d k : Nat) : sIx n d (some (k : Int)) = min k n := by
  show (if (k : Int) < 0 then ((k : Int) + (n : Int)).toNat else min (k : Int).toNat n) = min k n
  rw [if_neg (by omega), Int.toNat_natCast]
theorem clip_eq (v : Int) (n d : Nat) : (if v < 0 then max (v + (n : Int)) 0 else min v (n : Int)) = ((sIx n d (some v) : Nat) : Int) := by
  show (if v < 0 then max (v + (n : Int)) 0 else min v (n : Int)) = (((if v < 0 then (v + (n : Int)).toNat else min v.toNat n) : Nat) : Int)
  by_cases hv : v < 0
  · simp only [if_pos hv]; omega
  · simp only [if_neg hv]; omega
theorem adjust_gen (lo hi : Option Int) (n : Nat) : Builtin.Slice.sliceAdjust lo hi 1 (n : Int) = (((sIx n 0 lo : Nat) : Int), ((sIx n n hi : Nat) : Int)) := by
  have h1 : ¬ ((1 : Int) < 0) := by omega
  unfold Builtin.Slice.sliceAdjust
  simp only [h1, if_false]
  refine Prod.ext ?_ ?_
  · cases lo with
    | none => rfl
    | some v => exact clip_eq v n 0
  · cases hi with
    | none => rfl
    | some v => exact clip_eq v n n
theorem places_gen (i j : Nat) : Builtin.Slice.slicePlaces (i : Int) (j : Int) 1 = j - i := by
  unfold Builtin.Slice.slicePlaces
  have h1 : (1 : Int) > 0 := by omega
  simp only [h1, if_true, Int.ediv_one]
  split <;> omega
end
end HT

namespace L2
open PySem PySem.Spec PyProof.Rows

abbrev TO := St → Hp → (Option Int → Hp → Prop) → Prop
/-- a slice's part (left out, or an int) -/
def PO (X : Cx) (e : Option Expr) (t : TO) : Prop :=
  ∀ (pins : List (Addr × Obj)) (s : Shared) (σ : St) (H : Hp) (Q : Option Int → Hp → Prop), Inv X pins σ H s → t σ H Q →
    wpAny (model X.prog X.w) X.A (evalPart e X.env) (fun u s' => ∃ o H', Inv X pins σ H' s' ∧ IsPart u o ∧ Q o H') X.xe s
def tNoPart : TO := fun _ H Q => Q none H
def tPart (t : TE) : TO := fun σ H Q => t σ H fun x H1 => ∃ i, x = .int i ∧ Q (some i) H1

section
variable {X : Cx} {e : Expr} {te : TE} {lo hi : Option Expr} {tl th : TO} {pos p2 : Pos}

theorem po_none : PO X none tNoPart := by
  intro pins s σ H Q I h
  rw [evalPart_none]
  exact wpAny_pure ⟨none, H, I, .none, h⟩
theorem po_some (h : PE X e te) : PO X (some e) (tPart te) := by
  intro pins s σ H Q I hw
  rw [evalPart_some]
  refine thn (h pins s σ H _ I hw) fun u s1 ⟨x, H1, I1, r1, q1⟩ => ?_
  obtain ⟨i, rfl, q⟩ := q1
  obtain ⟨t, rfl⟩ := r1
  exact ⟨some i, H1, I1, .int i t, q⟩

/-- what a slice of a value is, by values: the slice object stands at sl -/
def SlR (X : Cx) (r : V → Option Int → Option Int → Hp → VK → Prop) : Prop :=
  ∀ (pins : List (Addr × Obj)) (s : Shared) (σ : St) (H : Hp) (x : V) (v vl vu : Value) (lo hi : Option Int) (sl : Addr) (Q : VK), Inv X pins σ H s → RelV x v → s.heap.IsSliceOf sl vl vu .none → IsPart vl lo → IsPart vu hi → r x lo hi H Q →
    ∃ T id, typeLookup (.type T) "__getitem__" = pure (some (.builtin id)) ∧ s.TypeIs v T ∧ wpAny (model X.prog X.w) X.A (getItem v (.ref sl)) (EP X pins σ Q) X.xe s
theorem SlR.or {r r' : V → Option Int → Option Int → Hp → VK → Prop} (h : SlR X r) (h' : SlR X r') : SlR X (fun x lo hi H Q => r x lo hi H Q ∨ r' x lo hi H Q) := by
  intro pins s σ H x v vl vu lo hi sl Q I rx hs pl pu q
  rcases q with q | q
  · exact h pins s σ H x v vl vu lo hi sl Q I rx hs pl pu q
  · exact h' pins s σ H x v vl vu lo hi sl Q I rx hs pl pu q
def tSl (r : V → Option Int → Option Int → Hp → VK → Prop) (te : TE) (tl th : TO) : TE := fun σ H Q => te σ H fun x H1 => tl σ H1 fun l H2 => th σ H2 fun u H3 => r x l u H3 Q
/-- a[lo:hi], any a -/
theorem pe_slice {r : V → Option Int → Option Int → Hp → VK → Prop} (hr : SlR X r) (he : PE X e te) (hl : PO X lo tl) (hu : PO X hi th) : PE X (.Subscript e (.Slice lo hi none p2) pos) (tSl r te tl th) := by
  intro pins s σ H Q I h
  refine Subscript_ (thn (he pins s σ H _ I h) fun v s1 ⟨x, H1, I1, r1, q1⟩ => ?_)
  refine wpAny_Slice (thn (hl pins s1 σ H1 _ I1 q1) fun vl s2 ⟨l, H2, I2, pl, q2⟩ => thn (hu pins s2 σ H2 _ I2 q2) fun vu s3 ⟨u, H3, I3, pu, q3⟩ => ?_)
  rw [evalPart_none]
  refine wpAny_pure ?_
  have I4 : Inv X pins σ H3 { s3 with heap := s3.heap.push { cls := .type "slice", data := .fields #[vl, vu, .none] } } := I3.kept (t' := s3.toks) fun b ob q => Heap.get?_push_of_some _ q
  obtain ⟨T, id, hT, ht, hg⟩ := hr pins { s3 with heap := s3.heap.push { cls := .type "slice", data := .fields #[vl, vu, .none] } } σ H3 x v vl vu l u s3.heap.objs.size Q I4 r1 (Heap.IsSliceOf.new ..) pl pu q3
  show wpAny (model X.prog X.w) X.A (subscriptTail e (.Slice lo hi none p2) v (.ref s3.heap.objs.size)) (EP X pins σ Q) X.xe { s3 with heap := s3.heap.push { cls := .type "slice", data := .fields #[vl, vu, .none] } }
  exact tail_any (ops := [.ref s3.heap.objs.size, v]) ht hT hg (by with_unfolding_all rfl)

/-- the items of xs[lo:hi] -/
def cutV (xs : List V) (lo hi : Option Int) : List V := (xs.drop (HT.sIx xs.length 0 lo)).take (HT.sIx xs.length xs.length hi - HT.sIx xs.length 0 lo)
theorem cutV_length (xs : List V) (lo hi : Option Int) : (cutV xs lo hi).length ≤ xs.length := by
  unfold cutV
  rw [List.length_take, List.length_drop]
  omega
/-- t + u, t not empty: u empty gives t itself -/
def rCatT (K : PySem.W.Frag) : R2 := fun x y H Q => ∃ a b xs ys, x = .ref a ∧ y = .ref b ∧ SqT K H a xs ∧ SqT K H b ys ∧ xs ≠ [] ∧ xs.length + ys.length ≤ sizeLine ∧
  (ys = [] → Q (.ref a) H) ∧ (ys ≠ [] → ∀ p, H p = none → Q (.ref p) (upd H p (.tup (xs ++ ys))))
theorem Vals.nil_iff {xs : List V} {us : List Value} (r : Vals xs us) : us = [] ↔ xs = [] := by
  cases r with
  | nil => simp
  | cons _ _ => simp
theorem op_catT : OpR X (binaryOp .Add) (rCatT X.K) := by
  intro pins s σ H x y v u Q I rx ry h
  obtain ⟨a, b, xs, ys, rfl, rfl, ha, hb, hx, hz, q1, q2⟩ := h
  cases rx
  cases ry
  obtain ⟨its, r1, p1, _⟩ := I.tuple ha
  obtain ⟨its2, r2, p2, _⟩ := I.tuple hb
  refine HT.cat_tup p1 p2 (fun z => hx (r1.nil_iff.mp z)) (fun z => ⟨.ref a, H, I, rfl, q1 (r2.nil_iff.mp z)⟩) (fun z => ?_) (by rw [← r1.length, ← r2.length]; exact hz)
  refine ⟨.ref s.heap.objs.size, _, I.laid (t' := s.toks) (o := .tup (xs ++ ys)) (fun b ob q => Heap.get?_push_of_some _ q) (Nat.le_refl _) ?_, rfl, q2 (fun w => z (r2.nil_iff.mpr w)) _ (I.hok.fresh (Nat.le_refl _))⟩
  exact ⟨by rw [List.length_append]; exact hz, _, r1.append r2, IsTup.new _ _⟩
end
end L2

namespace L2
open PySem PySem.Spec PyProof.Rows

/-- the place that an index of any sign means -/
def ixN (n : Nat) (i : Int) : Option Nat := if 0 ≤ i then (if i < n then some i.toNat else none) else if -(n : Int) ≤ i then some (i + n).toNat else none
def atI {α : Type} (xs : List α) (i : Int) : Option α := (ixN xs.length i).bind fun j => xs[j]?
theorem ixN_seq {n : Nat} {i : Int} {j : Nat} (h : ixN n i = some j) : seqIndex? i n = some j ∧ j < n ∧ -(n : Int) ≤ i ∧ i < n := by
  unfold ixN at h
  by_cases h0 : 0 ≤ i
  · rw [if_pos h0] at h
    by_cases h1 : i < n
    · rw [if_pos h1] at h
      have e : i.toNat = j := Option.some.inj h
      exact ⟨by rw [seqIndex_of h0 h1, e], by omega, by omega, h1⟩
    · rw [if_neg h1] at h; cases h
  · rw [if_neg h0] at h
    by_cases h1 : -(n : Int) ≤ i
    · rw [if_pos h1] at h
      have e : (i + n).toNat = j := Option.some.inj h
      exact ⟨by rw [seqIndex_neg (by omega) h1, e], by omega, h1, by omega⟩
    · rw [if_neg h1] at h; cases h
theorem atI_get {α : Type} {xs : List α} {i : Int} {v : α} (h : atI xs i = some v) : ∃ j, seqIndex? i xs.length = some j ∧ xs[j]? = some v ∧ j < xs.length ∧ -(xs.length : Int) ≤ i ∧ i < xs.length := by
  unfold atI at h
  cases e : ixN xs.length i with
  | none => rw [e] at h; cases h
  | some j =>
    rw [e] at h
    obtain ⟨h1, h2, h3, h4⟩ := ixN_seq e
    exact ⟨j, h1, h, h2, h3, h4⟩
theorem atI_last {α : Type} (xs : List α) (v : α) : atI (xs ++ [v]) (-1) = some v := by
  have hl : (xs ++ [v]).length = xs.length + 1 := by simp
  have e : ixN (xs ++ [v]).length (-1) = some xs.length := by
    unfold ixN
    rw [hl, if_neg (by decide), if_pos (by omega)]
    congr 1
    omega
  unfold atI
  rw [e]
  show (xs ++ [v])[xs.length]? = some v
  simp

/-- what stands as an index of a plain subscript -/
def PlainIx (b : Expr) : Prop := ∀ o i, subscripted b false o i = operate [o, i] (getItem o i)
/-- a subscript by values -/
def IxR (X : Cx) (r : R2) : Prop :=
  ∀ (value slice : Expr) (pins : List (Addr × Obj)) (s : Shared) (σ : St) (H : Hp) (x y : V) (v u : Value) (Q : VK), Inv X pins σ H s → RelV x v → RelV y u → r x y H Q →
    subscripted slice false v u = operate [v, u] (getItem v u) → wpAny (model X.prog X.w) X.A (subscriptTail value slice v u) (EP X pins σ Q) X.xe s
/-- a call of a builtin's method by values: the receiver, the arguments -/
def MtR (X : Cx) (id : String) (r : V → List V → Hp → VK → Prop) : Prop :=
  ∀ (pins : List (Addr × Obj)) (s : Shared) (σ : St) (H : Hp) (x : V) (xs : List V) (v : Value) (us : List Value) (Q : VK), Inv X pins σ H s → RelV x v → Vals xs us → r x xs H Q →
    wpAny (model X.prog X.w) X.A (call (.builtin id) (v :: us)) (EP X pins σ Q) X.xe s
section
variable {X : Cx} {a b : Expr} {ta tb : TE} {pos : Pos}
theorem IxR.or {r r' : R2} (h : IxR X r) (h' : IxR X r') : IxR X (fun x y H Q => r x y H Q ∨ r' x y H Q) := by
  intro value slice pins s σ H x y v u Q I rx ry q hs
  rcases q with q | q
  · exact h value slice pins s σ H x y v u Q I rx ry q hs
  · exact h' value slice pins s σ H x y v u Q I rx ry q hs
theorem MtR.or {id : String} {r r' : V → List V → Hp → VK → Prop} (h : MtR X id r) (h' : MtR X id r') : MtR X id (fun x xs H Q => r x xs H Q ∨ r' x xs H Q) := by
  intro pins s σ H x xs v us Q I rx rs q
  rcases q with q | q
  · exact h pins s σ H x xs v us Q I rx rs q
  · exact h' pins s σ H x xs v us Q I rx rs q
/-- a[b] -/
theorem pe_ix {r : R2} (hr : IxR X r) (ha : PE X a ta) (hb : PE X b tb) (hs : PlainIx b) : PE X (.Subscript a b pos) (tOp r ta tb) := by
  intro pins s σ H Q I h
  exact Subscript_ (binT ha hb I h fun v u s2 x y H2 I2 rx ry q => hr a b pins s2 σ H2 x y v u Q I2 rx ry q (hs _ _))

def rIxL (K : PySem.W.Frag) : R2 := fun x y H Q => ∃ p xs i v, x = .ref p ∧ y = .int i ∧ SqL K H p xs ∧ atI xs i = some v ∧ Q v H
def rIxT (K : PySem.W.Frag) : R2 := fun x y H Q => ∃ p xs i v, x = .ref p ∧ y = .int i ∧ SqT K H p xs ∧ atI xs i = some v ∧ Q v H
theorem ix_list : IxR X (rIxL X.K) := by
  intro value slice pins s σ H x y v u Q I rx ry h hs
  obtain ⟨p, xs, i, z, rfl, rfl, hq, he, q⟩ := h
  cases rx
  obtain ⟨t, rfl⟩ := ry
  obtain ⟨its, r, pl, hz⟩ := I.list hq
  obtain ⟨j, h1, h2, h3, h4, h5⟩ := atI_get he
  obtain ⟨w, ew, rw'⟩ := r.get h2
  have hl := r.length
  have hn := line63
  have fin : EP X pins σ Q w s := ⟨z, H, I, rw', q⟩
  by_cases h0 : 0 ≤ i
  · have hj : i.toNat = j := by
      rw [seqIndex_of h0 h5] at h1
      exact Option.some.inj h1
    exact item_listR pl.isList h0 (by omega) (by rw [hj]; simpa using ew) fin hs
  · have hj : (i + (its.toArray.size : Int)).toNat = j := by
      rw [seqIndex_neg (by omega) h4] at h1
      rw [List.size_toArray, ← hl]
      exact Option.some.inj h1
    exact subscriptTail_builtinR (x := w) pl.isList.typeIs slot_list_getitem.lookup
      (wpAny_getItem_list_neg (Q := fun r s' => r = w ∧ EP X pins σ Q r s') pl.isList (by omega) (by rw [List.size_toArray] <;> omega) (by omega) (by rw [hj]; simpa using ew) ⟨rfl, fin⟩) hs
theorem ix_tup : IxR X (rIxT X.K) := by
  intro value slice pins s σ H x y v u Q I rx ry h hs
  obtain ⟨p, xs, i, z, rfl, rfl, hq, he, q⟩ := h
  cases rx
  obtain ⟨t, rfl⟩ := ry
  obtain ⟨its, r, pl, hz⟩ := I.tuple hq
  obtain ⟨j, h1, h2, h3, h4, h5⟩ := atI_get he
  obtain ⟨w, ew, rw'⟩ := r.get h2
  have hl := r.length
  have hn := line63
  have fin : EP X pins σ Q w s := ⟨z, H, I, rw', q⟩
  exact subscriptTail_builtinR (x := w) pl.typeIs slot_tuple_getitem.lookup
    (getItem_tuple (j := j) (Q := fun r s' => r = w ∧ EP X pins σ Q r s') pl (by omega) (by omega) (by rw [List.size_toArray, ← hl]; exact h1) (by simpa using ew) ⟨rfl, fin⟩) hs
/-- the list's object behind a store -/
theorem mapSeq_set (its : List Value) (n j : Nat) (u : Value) : Obj.mapSeq (·.setIfInBounds j u) { cls := .type "list", data := .seq its.toArray n } = { cls := .type "list", data := .seq (its.set j u).toArray n } := by
  simp [Obj.mapSeq]
theorem Inv.lst {pins : List (Addr × Obj)} {σ : St} {H : Hp} {s : Shared} {p : Addr} {xs : List V} (I : Inv X pins σ H s) (h : H p = some (.lst xs)) :
    ∃ (its : List Value) (n : Nat), Vals xs its ∧ s.heap.get? p = some { cls := .type "list", data := .seq its.toArray n } ∧ xs.length ≤ sizeLine := by
  obtain ⟨z, its, n, r, e⟩ := I.hok p _ h
  exact ⟨its, n, r, e, z⟩
/-- the list at p is written by an update of its object -/
theorem Inv.lstUpd {pins : List (Addr × Obj)} {σ : St} {H : Hp} {s : Shared} {p : Addr} {xs ys : List V} {its its' : List Value} {n n' : Nat} {f : Obj → Obj} (I : Inv X pins σ H s) (h : H p = some (.lst xs))
    (ho : s.heap.get? p = some { cls := .type "list", data := .seq its.toArray n }) (hf : f { cls := .type "list", data := .seq its.toArray n } = { cls := .type "list", data := .seq its'.toArray n' }) (r : Vals ys its') (hz : ys.length ≤ sizeLine) (t : Nat) :
    Inv X pins σ (upd H p (.lst ys)) { s with heap := s.heap.update p f, toks := t } := by
  have e : (s.heap.update p f).get? p = some { cls := .type "list", data := .seq its'.toArray n' } := by
    rw [Heap.get?_update_self f ho (by rw [hf] <;> rfl), hf]
  refine I.write (x := p) (e := p) (by rw [h]; trivial) (.inl rfl) (fun b u hb q => (Heap.get?_update_other _ _ (Ne.symm hb)).trans q) ⟨_, e⟩ ?_
  exact ⟨hz, its', n', r, e⟩
def rSetL : V → V → V → Hp → (Hp → Prop) → Prop := fun o i v H Q => ∃ p xs k j, o = .ref p ∧ i = .int k ∧ H p = some (.lst xs) ∧ ixN xs.length k = some j ∧ Q (upd H p (.lst (xs.set j v)))
theorem set_list : PSet X rSetL := by
  intro pins s σ H o i v ov iv u Q I ro ri rv h
  obtain ⟨p, xs, k, j, rfl, rfl, hp, hj, q⟩ := h
  cases ro
  obtain ⟨t, rfl⟩ := ri
  obtain ⟨its, n, r, ho, hz⟩ := I.lst hp
  obtain ⟨h1, h2, h3, h4⟩ := ixN_seq hj
  have hl := r.length
  have hn := line63
  have I' : Inv X pins σ (upd H p (.lst (xs.set j v))) { s with heap := s.heap.update p (Obj.mapSeq (·.setIfInBounds j u)) } :=
    I.lstUpd hp ho (mapSeq_set its n j u) (r.set rv j) (by rw [List.length_set]; exact hz) s.toks
  by_cases h0 : 0 ≤ k
  · have hk : k.toNat = j := by
      rw [seqIndex_of h0 h4] at h1
      exact Option.some.inj h1
    exact PySem.W.ki_setAt ho h0 (by omega) (by rw [List.size_toArray, ← hl]; exact h4) (by rw [hk]; exact ⟨_, I', q⟩)
  · have hk : (k + (its.toArray.size : Int)).toNat = j := by
      rw [seqIndex_neg (by omega) h3] at h1
      rw [List.size_toArray, ← hl]
      exact Option.some.inj h1
    exact PySem.W.ki_setBack ho (by omega) (by rw [List.size_toArray, ← hl]; exact h3) (by omega) (by rw [hk]; exact ⟨_, I', q⟩)

theorem slice_bounds (lo hi : Option Int) (n : Nat) : (sliceBounds lo hi none n).1 = ((HT.sIx n 0 lo : Nat) : Int) ∧ (sliceBounds lo hi none n).2.1 = ((HT.sIx n n hi : Nat) : Int) ∧ (sliceBounds lo hi none n).2.2 = 1 := by
  have key : ∀ i : Int, (sliceBounds (some i) none none n).1 = ((HT.sIx n 0 (some i) : Nat) : Int) := fun i => by
    simp only [sliceBounds, HT.sIx, Option.getD_none, show (1 : Int) > 0 by decide, if_true]
    by_cases h : i < 0
    · simp only [h, if_true] <;> omega
    · simp only [h, if_false] <;> omega
  refine ⟨?_, ?_, rfl⟩
  · cases lo with
    | none => simp [sliceBounds, HT.sIx]
    | some i => exact key i
  · cases hi with
    | none => simp [sliceBounds, HT.sIx]
    | some i => exact key i
theorem slicePick_cut (its : List Value) (lo hi : Option Int) : slicePick its.toArray lo hi none = ((its.drop (HT.sIx its.length 0 lo)).take (HT.sIx its.length its.length hi - HT.sIx its.length 0 lo)).toArray := by
  obtain ⟨h1, h2, h3⟩ := slice_bounds lo hi its.toArray.size
  unfold slicePick
  rw [h1, h2, h3]
  simp only [sliceRange_one, pick_run, List.size_toArray] <;> rfl
/-- xs[lo:hi] of a list: a new list -/
def rSlL (K : PySem.W.Frag) : V → Option Int → Option Int → Hp → VK → Prop := fun x lo hi H Q => ∃ a xs, x = .ref a ∧ SqL K H a xs ∧ ∀ p, H p = none → Q (.ref p) (upd H p (.lst (cutV xs lo hi)))
theorem sl_list : SlR X (rSlL X.K) := by
  intro pins s σ H x v vl vu lo hi sl Q I rx hs pl pu h
  obtain ⟨a, xs, rfl, hx, q⟩ := h
  cases rx
  obtain ⟨its, r, ht, hz⟩ := I.list hx
  have hlen := r.length
  refine ⟨"list", _, slot_list_getitem.lookup, ht.isList.typeIs, ?_⟩
  refine wpAny_getItem_list_slice ht.isList hs pl pu .none (by simp) ?_ (by rw [List.size_toArray] <;> omega)
  rw [slicePick_cut, ← hlen]
  refine ⟨.ref s.heap.objs.size, _, I.laid (t' := s.toks) (o := .lst (cutV xs lo hi)) (fun b ob q => Heap.get?_push_of_some _ q) (Nat.le_refl _) ?_, rfl, q _ (I.hok.fresh (Nat.le_refl _))⟩
  exact ⟨Nat.le_trans (cutV_length xs lo hi) hz, _, 0, (r.drop (HT.sIx xs.length 0 lo)).take (HT.sIx xs.length xs.length hi - HT.sIx xs.length 0 lo), Heap.get?_push_size _ rfl⟩

theorem call_len_seq : CallR X (.builtin "len") (fun xs H Q => ∃ p ys, xs = [.ref p] ∧ (SqL X.K H p ys ∨ SqT X.K H p ys) ∧ Q (.int ys.length) H) := by
  intro pins s σ H xs us Q I r h
  obtain ⟨p, ys, rfl, hq, q⟩ := h
  obtain ⟨u, rfl, rx⟩ := vals1 r
  cases rx
  have hn := line63
  rcases hq with hq | hq
  · obtain ⟨its, r', pl, hz⟩ := I.list hq
    have hlen := r'.length
    exact Calls.call_len_list pl.isList (by simp only [List.size_toArray] <;> omega) ⟨.int ys.length, H, I.tok _, ⟨s.toks + 1, by rw [List.size_toArray, hlen]⟩, q⟩
  · obtain ⟨its, r', pl, hz⟩ := I.tuple hq
    have hlen := r'.length
    exact len_tuple pl (by simp only [List.size_toArray] <;> omega) ⟨.int ys.length, H, I.tok _, ⟨s.toks + 1, by rw [List.size_toArray, hlen]⟩, q⟩
theorem call_len_str : CallR X (.builtin "len") (fun xs H Q => ∃ z, xs = [.str z] ∧ z.length ≤ sizeLine ∧ Q (.int z.length) H) := by
  intro pins s σ H xs us Q I r h
  obtain ⟨z, rfl, hz, q⟩ := h
  obtain ⟨u, rfl, t, rfl⟩ := vals1 r
  have hn := line63
  exact len_str (by omega) ⟨.int z.length, H, I.tok _, ⟨_, rfl⟩, q⟩
theorem CallR.or {f : Value} {r r' : List V → Hp → VK → Prop} (h : CallR X f r) (h' : CallR X f r') : CallR X f (fun xs H Q => r xs H Q ∨ r' xs H Q) := by
  intro pins s σ H xs us Q I rs q
  rcases q with q | q
  · exact h pins s σ H xs us Q I rs q
  · exact h' pins s σ H xs us Q I rs q
theorem call_tuple_of : CallR X (.type "tuple") (fun xs H Q => ∃ p ys, xs = [.ref p] ∧ ((SqL X.K H p ys ∧ ∀ l, H l = none → Q (.ref l) (upd H l (.tup ys))) ∨ (SqT X.K H p ys ∧ Q (.ref p) H))) := by
  intro pins s σ H xs us Q I r h
  obtain ⟨p, ys, rfl, h⟩ := h
  obtain ⟨u, rfl, rx⟩ := vals1 r
  cases rx
  rcases h with ⟨hq, q⟩ | ⟨hq, q⟩
  · obtain ⟨its, r', pl, hz⟩ := I.list hq
    have hlen := r'.length
    refine call_tuple_list pl.isList (fun h' kp => ?_) (by simp only [List.size_toArray] <;> omega)
    have I1 : Inv X pins σ H { s with heap := h' } := I.kept (t' := s.toks) kp
    have I2 : Inv X pins σ (upd H h'.objs.size (.tup ys)) { s with heap := h'.push { cls := .type "tuple", data := .seq its.toArray } } :=
      I1.laid (t' := s.toks) (fun b o e => Heap.get?_push_of_some _ e) (Nat.le_refl _) (show ObjOk X.prog X.w _ _ _ (.tup ys) from ⟨hz, its, r', IsTup.new _ _⟩)
    exact ⟨.ref h'.objs.size, _, I2, rfl, q _ (I1.hok.fresh (Nat.le_refl _))⟩
  · obtain ⟨its, r', pl, hz⟩ := I.tuple hq
    exact call_tuple_same pl ⟨.ref p, H, I, rfl, q⟩

/-- the value is of that builtin type -/
def tyV (K : PySem.W.Frag) (T : String) (x : V) (H : Hp) : Prop := match x with
  | .str _ => T = "str"
  | .int _ => T = "int"
  | .ref p => (T = "list" ∧ ∃ xs, SqL K H p xs) ∨ (T = "tuple" ∧ ∃ o, K.lookup p = some o ∧ o.cls = .type "tuple" ∧ o.dict = none) ∨
      (T = "dict" ∧ ((∃ kvs, H p = some (.dK kvs)) ∨ ∃ kvs, H p = some (.dT kvs))) ∨ (T = "set" ∧ ∃ S n, H p = some (.set S n))
  | _ => False
theorem tyV_is {pins : List (Addr × Obj)} {σ : St} {H : Hp} {s : Shared} {T : String} {x : V} {v : Value} (I : Inv X pins σ H s) (r : RelV x v) (ty : tyV X.K T x H) :
    s.TypeIs v T ∧ ∀ a, v = .ref a → ∃ ob, s.heap.get? a = some ob ∧ ob.dict = none := by
  cases x with
  | str z =>
    obtain ⟨t, rfl⟩ := r
    cases (show T = "str" from ty)
    exact ⟨typeIs_str s z t, fun _ e => nomatch e⟩
  | int i =>
    obtain ⟨t, rfl⟩ := r
    cases (show T = "int" from ty)
    exact ⟨typeIs_int s i t, fun _ e => nomatch e⟩
  | ref p =>
    cases r
    rcases ty with ⟨rfl, xs, hq⟩ | ⟨rfl, o, hk, hc, hd⟩ | ⟨rfl, hk⟩ | ⟨rfl, S, n, hk⟩
    · obtain ⟨its, _, pl, _⟩ := I.list hq
      refine ⟨pl.isList.typeIs, fun a e => ?_⟩
      cases e
      obtain ⟨o, n, e, c, hd, _⟩ := pl
      exact ⟨o, e, hd⟩
    · refine ⟨⟨o, I.kIn p o hk, hc⟩, fun a e => ?_⟩
      cases e
      exact ⟨o, I.kIn _ o hk, hd⟩
    · have z : ∃ o, s.heap.get? p = some o ∧ o.ExactDict := by
        rcases hk with ⟨kvs, hk⟩ | ⟨kvs, hk⟩
        · obtain ⟨_, _, _, _, o, _, _, e, ex, _⟩ := I.hok p _ hk
          exact ⟨o, e, ex⟩
        · obtain ⟨_, _, _, _, o, _, _, e, ex, _⟩ := I.hok p _ hk
          exact ⟨o, e, ex⟩
      obtain ⟨o, e, ex⟩ := z
      refine ⟨⟨o, e, ex.1⟩, fun a e2 => ?_⟩
      cases e2
      exact ⟨o, e, ex.2.1⟩
    · obtain ⟨o, _, _, _, e, ex, _⟩ := I.hok p _ hk
      refine ⟨⟨o, e, ex.1⟩, fun a e2 => ?_⟩
      cases e2
      exact ⟨o, e, ex.2.1⟩
  | _ => exact False.elim ty
def tBM0 (K : PySem.W.Frag) (T : String) (r : V → List V → Hp → VK → Prop) (to : TE) : TE := fun σ H Q => to σ H fun x H1 => tyV K T x H1 ∧ r x [] H1 Q
variable {o e : Expr} {es : List Expr} {to : TE} {t : TA} {name : Str} {apos cpos : Pos} {T id : String} {r : V → List V → Hp → VK → Prop}
theorem pe_bm0 (pa : PlainAttrs T) (slot : Slot T name id) (hty : typeOf (.builtin id) = pure (.type "method_descriptor")) (hm : MtR X id r) (ho : PE X o to)
    (hbase : attributeBase o name X.env (eval o X.env) = eval o X.env := by rfl) (hline : (apos.endLine == cpos.line) = true := by rfl) : PE X (.Call (.Attribute o name apos) [] [] cpos) (tBM0 X.K T r to) := by
  intro pins s σ H Q I h
  refine wpAny_Call_method0_late hbase hline (thn (ho pins s σ H _ I h) fun v s1 ⟨x, H1, I1, r1, ty, q1⟩ => ?_)
  obtain ⟨h1, h2⟩ := tyV_is I1 r1 ty
  exact ⟨T, id, pa, slot, hty, h1, h2, Calls.callWith_builtin rfl (PySem.evalArgs_none (hm pins s1 σ H1 x [] v [] Q I1 r1 .nil q1))⟩
end
end L2

namespace L2
open PySem PySem.Spec PyProof.Rows

def MtM (X : Cx) (id : String) (r : V → List V → Hp → VK → Prop) : Prop :=
  ∀ (pins : List (Addr × Obj)) (s : Shared) (σ : St) (H : Hp) (x : V) (xs : List V) (v : Value) (us : List Value) (Q : VK), Inv X pins σ H s → RelV x v → Vals xs us → r x xs H Q →
    wpAny (model X.prog X.w) X.A (call (.builtin id) (v :: us)) (EP X pins σ Q) X.xe s

theorem Vals.one : ∀ {x : V} {us : List Value}, Vals [x] us → ∃ u, us = [u] ∧ RelV x u := by
  intro x us h
  cases h with
  | cons r t =>
    cases t
    exact ⟨_, rfl, r⟩
theorem Vals.zero : ∀ {us : List Value}, Vals [] us → us = []
  | _, .nil => rfl
theorem Vals.reverse {xs : List V} {us : List Value} (h : Vals xs us) : Vals xs.reverse us.reverse := by
  induction h with
  | nil => exact .nil
  | cons r t ih => rw [List.reverse_cons, List.reverse_cons]; exact Vals.append ih (.cons r .nil)
theorem Vals.rep {xs : List V} {us : List Value} (h : Vals xs us) : ∀ k : Nat, Vals (List.replicate k xs).flatten (List.replicate k us).flatten
  | 0 => .nil
  | k + 1 => by
    rw [List.replicate_succ, List.replicate_succ, List.flatten_cons, List.flatten_cons]
    exact Vals.append h (Vals.rep h k)
theorem foldl_rep (its : List Value) : ∀ (k : Nat) (acc : List Value),
    List.foldl (fun x1 x2 => x1 ++ x2) acc.toArray (List.replicate k its.toArray) = (acc ++ (List.replicate k its).flatten).toArray
  | 0, acc => by simp
  | k + 1, acc => by
    have e : acc.toArray ++ its.toArray = (acc ++ its).toArray := by simp
    have e2 : (acc ++ its) ++ (List.replicate k its).flatten = acc ++ (List.replicate (k + 1) its).flatten := by
      rw [List.replicate_succ, List.flatten_cons, List.append_assoc]
    rw [← e2, ← foldl_rep its k (acc ++ its), ← e, List.replicate_succ, List.foldl_cons]

section
variable {X : Cx} {pins : List (Addr × Obj)} {σ : St} {H : Hp} {s : Shared} {l b : Addr} {xs ys zs : List V}

theorem Inv.lset {its its' : List Value} {n : Nat} {f : Array Value → Array Value} {t' : Nat} (I : Inv X pins σ H s) (hH : H l = some (.lst xs))
    (e : s.heap.get? l = some { cls := .type "list", data := .seq its.toArray n }) (hf : f its.toArray = its'.toArray) (hv : Vals ys its') (hz : ys.length ≤ sizeLine) :
    Inv X pins σ (upd H l (.lst ys)) { s with heap := s.heap.update l (Obj.mapSeq f), toks := t' } := by
  have q := PySem.IsL.update e f
  rw [hf] at q
  refine I.write (x := l) (e := l) (by rw [hH]; exact trivial) (.inl rfl) (fun b' u hb hu => (Heap.get?_update_other s.heap (Obj.mapSeq f) (Ne.symm hb)).trans hu) ⟨_, q⟩ ?_
  exact ⟨hz, its', _, hv, q⟩
theorem Inv.lnew {its : List Value} {t' : Nat} (I : Inv X pins σ H s) (hv : Vals ys its) (hz : ys.length ≤ sizeLine) :
    Inv X pins σ (upd H s.heap.objs.size (.lst ys)) { s with heap := s.heap.push { cls := .type "list", data := .seq its.toArray }, toks := t' } :=
  I.laid (fun _ _ q => Heap.get?_push_of_some _ q) (Nat.le_refl _) ⟨hz, its, 0, hv, Heap.get?_push_size _ rfl⟩
theorem Inv.fresh (I : Inv X pins σ H s) : H s.heap.objs.size = none := I.hok.fresh (Nat.le_refl _)
theorem Inv.lstM (I : Inv X pins σ H s) (hH : H l = some (.lst xs)) : xs.length ≤ sizeLine ∧ ∃ (its : List Value) (n : Nat), Vals xs its ∧ xs.length = its.length ∧ s.heap.get? l = some { cls := .type "list", data := .seq its.toArray n } := by
  obtain ⟨z, its, n, r, e⟩ := I.hok l _ hH
  exact ⟨z, its, n, r, r.length, e⟩

theorem notLongL {n : Nat} (h : n ≤ sizeLine) : Builtin.List.listTooLong n = false := by
  unfold Builtin.List.listTooLong
  exact decide_eq_false (by omega)
end

section
variable {X : Cx}

def rAppend : V → List V → Hp → VK → Prop := fun x vs H Q => ∃ l xs y, x = .ref l ∧ vs = [y] ∧ H l = some (.lst xs) ∧ xs.length < sizeLine ∧ Q .non (upd H l (.lst (xs ++ [y])))
theorem mt_append : MtM X "list.append" rAppend := by
  intro pins s σ H x vs v us Q I rx rv h
  obtain ⟨l, xs, y, rfl, rfl, hH, hz, q⟩ := h
  cases rx
  obtain ⟨u, rfl, ru⟩ := rv.one
  obtain ⟨z, its, n, r, hl, e⟩ := I.lstM hH
  refine call_meets F.slot_list_append ⟨_, e, rfl⟩ F.entry_list_append (F.args_list_append_2 _ _) (PySem.list_append l its.toArray n u (by rw [List.size_toArray]; omega)) ⟨e, ?_⟩
  refine ⟨.non, _, I.lset (its' := its ++ [u]) hH e (by simp) (r.append (.cons ru .nil)) ?_, rfl, q⟩
  rw [List.length_append, List.length_singleton]
  omega

def rReverse : V → List V → Hp → VK → Prop := fun x vs H Q => ∃ l xs, x = .ref l ∧ vs = [] ∧ H l = some (.lst xs) ∧ Q .non (upd H l (.lst xs.reverse))
theorem mt_reverse : MtM X "list.reverse" rReverse := by
  intro pins s σ H x vs v us Q I rx rv h
  obtain ⟨l, xs, rfl, rfl, hH, q⟩ := h
  cases rx
  have hus := rv.zero
  subst hus
  obtain ⟨z, its, n, r, hl, e⟩ := I.lstM hH
  refine call_meets F.slot_list_reverse ⟨_, e, rfl⟩ F.entry_list_reverse (F.args_list_reverse_1 _) (AutoSeq1.list_reverse_list_0 l its.toArray n (by rw [List.size_toArray]; omega)) ⟨e, ?_⟩
  refine ⟨.non, _, I.lset (its' := its.reverse) hH e (by simp) r.reverse ?_, rfl, q⟩
  rw [List.length_reverse]
  omega

def rCat : R2 := fun x y H Q => ∃ l b xs zs, x = .ref l ∧ y = .ref b ∧ H l = some (.lst xs) ∧ H b = some (.lst zs) ∧ xs.length + zs.length ≤ sizeLine ∧ ∀ p, H p = none → Q (.ref p) (upd H p (.lst (xs ++ zs)))
theorem op_cat : OpR X (binaryOp .Add) rCat := by
  intro pins s σ H x y v u Q I rx ry h
  obtain ⟨l, b, xs, zs, rfl, rfl, hH, hB, hz, q⟩ := h
  cases rx
  cases ry
  obtain ⟨z, its, n, r, hl, e⟩ := I.lstM hH
  obtain ⟨z2, its2, n2, r2, hl2, e2⟩ := I.lstM hB
  refine PySem.P.add_list e e2 ?_ (by rw [List.size_toArray, List.size_toArray]; omega)
  have ea : its.toArray ++ its2.toArray = (its ++ its2).toArray := by simp
  rw [ea]
  exact ⟨.ref _, _, I.lnew (t' := s.toks) (r.append r2) (by rw [List.length_append]; omega), rfl, q _ I.fresh⟩
/-- a list times an int (a negative one is nothing) -/
def rRep : R2 := fun x y H Q => ∃ l k xs, x = .ref l ∧ y = .int k ∧ H l = some (.lst xs) ∧ -(2 ^ 63) ≤ k ∧ k < 2 ^ 63 ∧ xs.length * k.toNat ≤ sizeLine ∧
  ∀ p, H p = none → Q (.ref p) (upd H p (.lst (List.replicate k.toNat xs).flatten))
theorem len_rep {α : Type} (xs : List α) (k : Nat) : (List.replicate k xs).flatten.length = k * xs.length := by
  induction k with
  | zero => simp
  | succ k ih => rw [List.replicate_succ, List.flatten_cons, List.length_append, ih, Nat.succ_mul, Nat.add_comm]
theorem op_rep : OpR X (binaryOp .Mult) rRep := by
  intro pins s σ H x y v u Q I rx ry h
  obtain ⟨l, k, xs, rfl, rfl, hH, h1, h2, hz, q⟩ := h
  cases rx
  obtain ⟨t, rfl⟩ := ry
  obtain ⟨z, its, n, r, hl, e⟩ := I.lstM hH
  have hlen : its.toArray.size * k.toNat ≤ sizeLine := by rw [List.size_toArray, ← hl]; exact hz
  have hcap : ¬ its.toArray.size * k.toNat > (2 ^ 63 - 1) / 8 := by
    have : (sizeLine : Nat) ≤ (2 ^ 63 - 1) / 8 := by decide
    omega
  have hfit : ¬ (!Builtin.List.listFitsIndex k) = true := by
    rw [fitsIndex_both h1 h2]
    exact Bool.false_ne_true
  have hlong : ¬ Builtin.List.listTooLong (its.toArray.size * k.toNat) = true := by
    rw [notLongL hlen]
    exact Bool.false_ne_true
  have hnew : List.foldl (fun x1 x2 => x1 ++ x2) #[] (List.replicate (if its.toArray.isEmpty = true then 0 else k.toNat) its.toArray) = (List.replicate k.toNat its).flatten.toArray := by
    have f0 : ∀ m : Nat, List.foldl (fun x1 x2 => x1 ++ x2) #[] (List.replicate m its.toArray) = (List.replicate m its).flatten.toArray := fun m => by
      have := foldl_rep its m []
      rw [List.nil_append] at this
      exact this
    rw [f0]
    cases its with
    | nil => simp
    | cons a r' => rw [if_neg (by simp)]
  refine wpAny_binaryOp_repeat_ref (T := "list") (U := "int") (by decide) ⟨_, e, rfl⟩ (fun s' => typeIs_int s' k t) noFill_list_mul F.fills_int_mul F.slot_int_rmul repeat_list F.slot_int_index.lookup
    (call_meets F.slot_int_rmul (typeIs_int s k t) F.entry_int_rmul (F.args_int_rmul_2 _ _) (int___rmul___int_list k t l its.toArray n)
      ⟨e, rfl, ⟨_, e, rfl⟩, call_meets F.slot_list_mul ⟨_, e, rfl⟩ F.entry_list_mul (F.args_list_mul_2 _ _) (AutoListH.list___mul___list_int_3 l its.toArray n k t hfit hcap hlong) ⟨e, ?_⟩⟩)
  rw [hnew]
  exact ⟨.ref _, _, I.lnew (t' := s.toks) (r.rep k.toNat) (by rw [len_rep, Nat.mul_comm]; exact hz), rfl, q _ I.fresh⟩

end

section
variable {prog : Program} {w : World} {A : Around} {E : Value → Shared → Prop} {s : Shared}
end

section
variable {X : Cx}
end
end L2

namespace L2
open PySem PySem.Spec PyProof.Rows

section
variable {κ : Type} [DecidableEq κ]
def valV (kvs : List (κ × V)) (k : κ) : Option V := (kvs.find? fun kv => decide (kv.1 = k)).map (·.2)
/-- in its place, or at the end -/
def putK (kvs : List (κ × V)) (k : κ) (v : V) : List (κ × V) :=
  if (kvs.any fun kv => decide (kv.1 = k)) = true then kvs.map (fun kv => if kv.1 = k then (kv.1, v) else kv) else kvs ++ [(k, v)]
def dropK (kvs : List (κ × V)) (k : κ) : List (κ × V) := kvs.filter fun kv => decide (kv.1 ≠ k)

theorem valV_pos {p : κ × V} {r : List (κ × V)} {k : κ} (e : p.1 = k) : valV (p :: r) k = some p.2 := by simp [valV, List.find?_cons, e]
theorem valV_neg {p : κ × V} {r : List (κ × V)} {k : κ} (e : ¬ p.1 = k) : valV (p :: r) k = valV r k := by simp [valV, List.find?_cons, e]
theorem valV_any (k : κ) : ∀ kvs : List (κ × V), (kvs.any fun kv => decide (kv.1 = k)) = (valV kvs k).isSome
  | [] => rfl
  | p :: r => by
    rw [List.any_cons]
    by_cases e : p.1 = k
    · simp only [valV_pos e, decide_eq_true e, Bool.true_or, Option.isSome_some]
    · rw [valV_neg e, decide_eq_false e, Bool.false_or]; exact valV_any k r
theorem RelO.isSome_eq {o : Option V} {u : Option Value} (r : RelO o u) : o.isSome = u.isSome := by
  cases o with
  | none => cases u with
    | none => rfl
    | some _ => exact (show False from r).elim
  | some _ => cases u with
    | none => exact (show False from r).elim
    | some _ => rfl
theorem RelO.getD {o : Option V} {u : Option Value} {d : V} {d' : Value} (r : RelO o u) (rd : RelV d d') : RelV (o.getD d) (u.getD d') := by
  cases o with
  | none => cases u with
    | none => exact rd
    | some _ => exact (show False from r).elim
  | some _ => cases u with
    | none => exact (show False from r).elim
    | some _ => exact r

/-- raw tables of the same keys -/
theorem KV.val {kvs : List (κ × V)} {vs : List (κ × Value)} (r : KV kvs vs) (k : κ) : RelO (valV kvs k) (valueAt vs k) := by
  unfold KV at r
  induction r with
  | nil => exact True.intro
  | @cons p q ps qs h t ih =>
    obtain ⟨h1, h2⟩ := h
    by_cases e : p.1 = k
    · have e' : q.1 = k := h1.symm.trans e
      have b : valueAt (q :: qs) k = some q.2 := by simp [valueAt, List.find?_cons, e']
      rw [valV_pos e, b]; exact h2
    · have e' : ¬ q.1 = k := fun z => e (h1.trans z)
      have b : valueAt (q :: qs) k = valueAt qs k := by simp [valueAt, List.find?_cons, e']
      rw [valV_neg e, b]; exact ih
theorem KV.any {kvs : List (κ × V)} {vs : List (κ × Value)} (r : KV kvs vs) (k : κ) : (kvs.any fun kv => decide (kv.1 = k)) = vs.any fun kv => decide (kv.1 = k) := by
  unfold KV at r
  induction r with
  | nil => rfl
  | cons h t ih => rw [List.any_cons, List.any_cons, ih, h.1]
theorem KV.repl {kvs : List (κ × V)} {vs : List (κ × Value)} (r : KV kvs vs) (k : κ) {y : V} {u : Value} (ry : RelV y u) :
    KV (kvs.map fun kv => if kv.1 = k then (kv.1, y) else kv) (vs.map fun kv => if kv.1 = k then (kv.1, u) else kv) := by
  unfold KV at r ⊢
  induction r with
  | nil => exact .nil
  | @cons p q ps qs h t ih =>
    rw [List.map_cons, List.map_cons]
    refine .cons ?_ ih
    obtain ⟨h1, h2⟩ := h
    by_cases e : p.1 = k
    · rw [if_pos e, if_pos (h1.symm.trans e)]; exact ⟨h1, ry⟩
    · rw [if_neg e, if_neg (fun z => e (h1.trans z))]; exact ⟨h1, h2⟩
theorem KV.put {kvs : List (κ × V)} {vs : List (κ × Value)} (r : KV kvs vs) (k : κ) {y : V} {u : Value} (ry : RelV y u) : KV (putK kvs k y) (stored vs k u) := by
  unfold putK stored
  rw [r.any k]
  by_cases e : (vs.any fun kv => decide (kv.1 = k)) = true
  · rw [if_pos e, if_pos e]; exact r.repl k ry
  · rw [if_neg e, if_neg e]; exact Paired.snoc r ⟨rfl, ry⟩
theorem KV.drop {kvs : List (κ × V)} {vs : List (κ × Value)} (r : KV kvs vs) (k : κ) : KV (dropK kvs k) (without vs k) := by
  unfold KV at r ⊢
  unfold dropK without
  induction r with
  | nil => exact .nil
  | @cons p q ps qs h t ih =>
    obtain ⟨h1, h2⟩ := h
    rw [List.filter_cons, List.filter_cons]
    by_cases e : p.1 = k
    · have a : ¬ decide (p.1 ≠ k) = true := by simp [e]
      have b : ¬ decide (q.1 ≠ k) = true := by simp [h1.symm.trans e]
      rw [if_neg a, if_neg b]; exact ih
    · have e' : ¬ q.1 = k := fun z => e (h1.trans z)
      have a : decide (p.1 ≠ k) = true := by simp [e]
      have b : decide (q.1 ≠ k) = true := by simp [e']
      rw [if_pos a, if_pos b]; exact .cons ⟨h1, h2⟩ ih
theorem KV.length {kvs : List (κ × V)} {vs : List (κ × Value)} (r : KV kvs vs) : kvs.length = vs.length := Paired.length r
end


/-- raw entries of a dict with tuple keys -/
abbrev KT (H : Hp) : List (List Key × V) → List (List Key × Addr × Value) → Prop := Paired fun p q => p.1 = q.1 ∧ H q.2.1 = some (.tup (p.1.map kV)) ∧ RelV p.2 q.2.2
theorem KT.val {H : Hp} {kvs : List (List Key × V)} {xs : List (List Key × Addr × Value)} (r : KT H kvs xs) (k : List Key) : RelO (valV kvs k) ((atKey xs k).map (·.2)) := by
  induction r with
  | nil => exact True.intro
  | @cons p q ps qs h t ih =>
    obtain ⟨h1, _, h2⟩ := h
    by_cases e : p.1 = k
    · have e' : q.1 = k := h1.symm.trans e
      have b : atKey (q :: qs) k = some q.2 := by simp [atKey, List.find?_cons, e']
      rw [valV_pos e, b]; exact h2
    · have e' : ¬ q.1 = k := fun z => e (h1.trans z)
      have b : atKey (q :: qs) k = atKey qs k := by simp [atKey, List.find?_cons, e']
      rw [valV_neg e, b]; exact ih
theorem KT.repl {H : Hp} {kvs : List (List Key × V)} {xs : List (List Key × Addr × Value)} (r : KT H kvs xs) (k : List Key) {y : V} {u : Value} (ry : RelV y u) :
    KT H (kvs.map fun kv => if kv.1 = k then (kv.1, y) else kv) (xs.map (putAt k u)) := by
  induction r with
  | nil => exact .nil
  | @cons p q ps qs h t ih =>
    rw [List.map_cons, List.map_cons]
    refine .cons ?_ ih
    obtain ⟨h1, h2, h3⟩ := h
    unfold putAt
    by_cases e : p.1 = k
    · rw [if_pos e, if_pos (h1.symm.trans e)]; exact ⟨h1, h2, ry⟩
    · rw [if_neg e, if_neg (fun z => e (h1.trans z))]; exact ⟨h1, h2, h3⟩
theorem KT.put {H : Hp} {kvs : List (List Key × V)} {xs : List (List Key × Addr × Value)} (r : KT H kvs xs) (k : List Key) {b : Addr} {y : V} {u : Value} (hb : H b = some (.tup (k.map kV))) (ry : RelV y u) :
    KT H (putK kvs k y) (storedH xs k b u) := by
  have e : (kvs.any fun kv => decide (kv.1 = k)) = (atKey xs k).isSome := by
    rw [valV_any, (r.val k).isSome_eq, Option.isSome_map]
  unfold putK storedH
  rw [e]
  by_cases q : (atKey xs k).isSome = true
  · rw [if_pos q, if_pos q]; exact r.repl k ry
  · rw [if_neg q, if_neg q]; exact Paired.snoc r ⟨rfl, hb, ry⟩
theorem KT.keeps {H H' : Hp} {kvs : List (List Key × V)} {xs : List (List Key × Addr × Value)} (r : KT H kvs xs) (ht : ∀ b ys, H b = some (.tup ys) → H' b = some (.tup ys)) : KT H' kvs xs :=
  Paired.mapP r fun _ _ z => ⟨z.1, ht _ _ z.2.1, z.2.2⟩

section
variable {P : Program} {w : World} {H : Hp} {h : Heap} {a : Addr}
end

/-- what the dict at a holds at the key y -/
def DGet (H : Hp) (a : Addr) (y : V) (r : Option V) : Prop :=
  (∃ kvs k, Rd H a (.dK kvs) ∧ y = kV k ∧ r = valV kvs k) ∨ ∃ kvs k b, Rd H a (.dT kvs) ∧ y = .ref b ∧ H b = some (.tup (k.map kV)) ∧ r = valV kvs k
/-- the heap behind a[y] = v -/
def DPut (H : Hp) (a : Addr) (y v : V) (H' : Hp) : Prop :=
  (∃ kvs k, H a = some (.dK kvs) ∧ y = kV k ∧ kvs.length < sizeLine ∧ H' = upd H a (.dK (putK kvs k v))) ∨
  ∃ kvs k b, H a = some (.dT kvs) ∧ y = .ref b ∧ H b = some (.tup (k.map kV)) ∧ kvs.length < sizeLine ∧ H' = upd H a (.dT (putK kvs k v))
theorem DGet.k {H : Hp} {a : Addr} {kvs : List (Key × V)} {k : Key} (e : H a = some (.dK kvs)) : DGet H a (kV k) (valV kvs k) := .inl ⟨kvs, k, .inl e, rfl, rfl⟩
theorem DGet.t {H : Hp} {a b : Addr} {kvs : List (List Key × V)} {k : List Key} (e : H a = some (.dT kvs)) (eb : H b = some (.tup (k.map kV))) : DGet H a (.ref b) (valV kvs k) := .inr ⟨kvs, k, b, .inl e, rfl, eb, rfl⟩
theorem DPut.k {H : Hp} {a : Addr} {kvs : List (Key × V)} {k : Key} {v : V} (e : H a = some (.dK kvs)) (hl : kvs.length < sizeLine) : DPut H a (kV k) v (upd H a (.dK (putK kvs k v))) := .inl ⟨kvs, k, e, rfl, hl, rfl⟩
theorem DPut.t {H : Hp} {a b : Addr} {kvs : List (List Key × V)} {k : List Key} {v : V} (e : H a = some (.dT kvs)) (eb : H b = some (.tup (k.map kV))) (hl : kvs.length < sizeLine) :
    DPut H a (.ref b) v (upd H a (.dT (putK kvs k v))) := .inr ⟨kvs, k, b, e, rfl, eb, hl, rfl⟩


section
variable {X : Cx} {pins : List (Addr × Obj)} {σ : St} {H : Hp} {s : Shared} {a : Addr} {y v : V} {u r : Value} {o : Option V} {A : Around} {E : Value → Shared → Prop}

end

section
variable {X : Cx} {pins : List (Addr × Obj)} {σ : St} {H : Hp} {s : Shared} {a : Addr} {kvs : List (Key × V)} {k : Key} {u : Value} {A : Around} {E : Value → Shared → Prop}
end


section
variable {X : Cx} {o i e value : Expr} {pos pos' tpos : Pos} {td ty tv : TE}
end


section
variable {X : Cx} {pos : Pos}
end

/-- a method call o.m(e) of a built-in, with one argument: what must be seen of the text -/
structure M1 (X : Cx) (o : Expr) (m : Str) (apos : Pos) (e : Expr) (cpos : Pos) : Prop where
  base : attributeBase o m X.env (eval o X.env) = eval o X.env
  few : ((backTo cpos (starEach [e] X.env)).all (fun x => !x.1) && (backToKw cpos (keywordEach [] X.env)).all (fun x => x.1.isSome)
    && decide (([e] : List Expr).length + ([] : List Keyword).length + (if ([] : List Keyword).isEmpty then 0 else 1) < 30)) = true
  line : (apos.endLine == cpos.line) = true
  trees : backTo cpos (starEach [e] X.env) = [(false, eval e X.env)]
structure M2 (X : Cx) (o : Expr) (m : Str) (apos : Pos) (e f : Expr) (cpos : Pos) : Prop where
  base : attributeBase o m X.env (eval o X.env) = eval o X.env
  few : ((backTo cpos (starEach [e, f] X.env)).all (fun x => !x.1) && (backToKw cpos (keywordEach [] X.env)).all (fun x => x.1.isSome)
    && decide (([e, f] : List Expr).length + ([] : List Keyword).length + (if ([] : List Keyword).isEmpty then 0 else 1) < 30)) = true
  line : (apos.endLine == cpos.line) = true
  trees : backTo cpos (starEach [e, f] X.env) = [(false, eval e X.env), (false, eval f X.env)]

section
variable {X : Cx} {pins : List (Addr × Obj)} {σ : St} {H : Hp} {s : Shared} {a : Addr} {y d : V} {u r : Value} {o : Option V} {A : Around} {E : Value → Shared → Prop}
end

section
variable {X : Cx} {o e f : Expr} {apos cpos : Pos} {td ty tx : TE}
end

section
variable {X : Cx} {pins : List (Addr × Obj)} {σ : St} {H : Hp} {s : Shared} {a : Addr} {kvs : List (Key × V)} {A : Around} {E : Value → Shared → Prop}
end


section
variable {X : Cx} {pins : List (Addr × Obj)} {σ : St} {H : Hp} {s : Shared} {a : Addr} {y : V} {u : Value} {A : Around} {E : Value → Shared → Prop}
end
end L2

namespace Att
open PySem PySem.W PySem.Calls PyProof.Rows

theorem ints_of_wellAll {P : Params} {h : Heap} : ∀ (ns : List Int) (vs : List Value), WellAll P h vs (ns.map WData.int) → IntsAre vs ns := by
  intro ns
  induction ns with
  | nil =>
    intro vs w
    rw [List.map_nil] at w
    cases w
    exact .nil
  | cons n ns ih =>
    intro vs w
    rw [List.map_cons] at w
    cases w with
    | cons a b =>
      cases a
      exact .cons _ _ (ih _ b)

theorem script_of {l : OpenLaw} {n : Nat} (hn : l.most = some n) {P : Params} {h : Heap} {args : List WData} {vals : List Value}
    (hpre : l.row.toRowW.claim.pre args = true) (hwl : WellAll P h vals args) :
    ∃ a vs ns, vals = [Value.ref a] ∧ args = [WData.list (ns.map WData.int)] ∧ h.get? a = some { cls := .type "list", data := .seq vs.toArray } ∧ IntsAre vs ns ∧ ns.length ≤ n := by
  have hsh : WShape.hasAll [] args [.list .int] = true := (pre_splitW hpre).1
  have hc : l.pre.holds [] { args := args } = true := (pre_splitW hpre).2
  obtain ⟨d, r, rfl, h1, h2⟩ := hasAllW_cons hsh
  obtain rfl := hasAllW_nil h2
  obtain ⟨xs, rfl, h3⟩ := hasW_list h1
  obtain ⟨ns, rfl⟩ := items_int h3
  have hlen : ns.length ≤ n := by
    unfold OpenLaw.pre at hc
    have h4 : (WTm.not (.lt (.lit (.int (n : Int))) (.len (.arg 0)))).holds [] { args := [.list (ns.map .int)] } = true := by
      have h4 := (holds_andW hc).1
      rw [hn] at h4
      exact h4
    have h5 := condW_of h4 (w_not (w_lt w_lit (w_len_list (w_arg rfl))))
    rw [List.length_map] at h5
    refine Nat.le_of_not_lt fun q => ?_
    have q' : (n : Int) < ((ns.length : Nat) : Int) := by omega
    first
      | (rw [decide_eq_true q'] at h5; exact absurd h5 (by decide))
      | (simp at h5; omega)
  cases hwl with
  | cons w1 w2 =>
    cases w2
    cases w1 with
    | list ho hall => exact ⟨_, _, ns, rfl, rfl, ho, ints_of_wellAll ns _ hall, hlen⟩

theorem post_true (l : OpenLaw) (args : List WData) : l.row.toRowW.claim.post args (.bool true) args = true :=
  postW_of (r := l.row.toRowW) (X := (true == true))
    (show WShape.has [] (.bool true) .bool = true by first | rfl | decide | simp [WShape.has, WShape.arms, WShape.armsAll])
    (show (WTm.eq .res (.lit (.bool true))).value [] { args := args, res := some (.bool true), after := args } = some (.bool (true == true)) from w_eq_bool (w_res rfl) w_lit) rfl

/-- the same from a codeAny of the CALL (for a layer whose function contracts speak of calls) -/
theorem attach_call {l : OpenLaw} {n : Nat} {q : Program} {loose : List Str} {XP : (Str → Option Value) → Heap → Prop} {YP : World → Heap → Prop} {d : DefRec}
    (hn : l.most = some n) (hdf : d.params.defaults = [])
    (call : ∀ (w : World) (s₀ s₁ : Shared) (mg mb : Str → Option Value) (fa : Addr) (o : Obj) (pm cd doc : Value) (a : Addr) (vs : List Value) (ns : List Int),
      Ground q loose [] XP w s₀ mg mb s₁.heap → YP w s₁.heap →
      s₁.heap.get? fa = some o → o.data = .func (docDef d.name d.params d.body d.scope pm cd doc) → s₁.heap.CodeRec cd d.name → mg d.name = some (.ref fa) →
      s₁.heap.get? a = some { cls := .type "list", data := .seq vs.toArray } → IntsAre vs ns → ns.length ≤ n → s₁.gens = #[] →
      codeAny (model l.prog w) callerA (.call (.ref fa) ⟨[.ref a], []⟩) (fun r s' => r = .ok (.ret (.bool true)) ∧ OldK s₁.heap s'.heap ∧ s'.os = s₁.os ∧ AllBare s'.gens) s₁) :
    WalkO q loose XP YP l.row.toRowW d [] (fun f vs => PySem.call f vs) := by
  intro w s₀ s₁ mg mb G Y fa o pm cd doc dV kV ho hd hcd hD hmg hg args vals as hpre hlay hrd hwl hlo
  obtain rfl : dV = .none := Dflts.none hD hdf
  obtain rfl : kV = .none := Dflts.noKw hD
  obtain ⟨a, vs, ns, rfl, rfl, hobj, hints, hlen⟩ := script_of hn hpre hwl
  refine enter_call (codeAny_mono (call w s₀ s₁ mg mb fa o pm cd doc a vs ns G Y ho (fd_plain hd) hcd hmg hobj hints hlen hg) fun r s' hq => ?_)
  obtain ⟨rfl, h2, h3, h4⟩ := hq
  exact ⟨.inl ⟨.bool true, .bool true, [], rfl, fun _ => rfl, .bool true, post_true l _, fun _ => ⟨List.Pairwise.nil, fun _ hm => (nomatch hm)⟩⟩, h2, h3, h4⟩

section
variable {prog : Program} {w : World} {A : Around} {E : Value → Shared → Prop} {s : Shared} {K : Frag}

end
end Att

namespace L2
open PySem PySem.Spec PyProof.Rows

theorem vals_ints : ∀ {vs : List Value} {ns : List Int}, IntsAre vs ns → Vals (ns.map V.int) vs
  | _, _, .nil => .nil
  | _, _, .cons n t h => .cons ⟨t, rfl⟩ (vals_ints h)

/-- nothing is tracked but the script, known to the object (or it is an object of the module) -/
def Only (H : Hp) : Prop := ∀ b, H b = none ∨ ∃ o xs, H b = some (.frz o (.lst xs))

/-- THE HEAD: the law's promise, at the heap behind the top. F, the promise of the law's def, may use that base is part of the heap (so K.In base, base.Ns mainGlobals mg stand in Mod) -/
theorem law_call {P : Program} {w : World} {K : PySem.W.Frag} {mg mb : Str → Option Value} {CX : CXT} {k : Nat} {fa a : Addr} {fd : FuncData} {x : Str} {sp : Sp} {s₁ : Shared} {vs : List Value} {ns : List Int}
    (KX : K.In s₁.heap) (hns : s₁.heap.Ns mainGlobals mg) (hb : s₁.heap.Ns builtinsNs mb) (hbb : ∀ x : Str, x ≠ "__name__" → mb x = bootBuiltins x) (hlim : s₁.heap.NoLimit) (hg : s₁.gens = #[])
    (ha : s₁.heap.get? a = some { cls := .type "list", data := .seq vs.toArray }) (hi : IntsAre vs ns) (hl : ns.length ≤ sizeLine) (hr : Room k callerA)
    (F : ∀ base : Heap, K.In base → base.Ns mainGlobals mg → FnOk P w K mg base CX k fa fd [x] sp) (hbind : ∀ (s : Shared) (u : Value), BindsTo s fd ⟨[u], []⟩ [(x, u)])
    (hsp : ∀ H : Hp, Only H → SqL K H a (ns.map V.int) → sp [.ref a] H (fun v _ => v = .bl true) fun _ _ _ => False)
    (hCX : ∀ H e s', CX [] H s₁ (fun _ _ _ => False) e s' → False) :
    codeAny (model P w) callerA (.call (.ref fa) ⟨[.ref a], []⟩) (fun r s' => r = .ok (.ret (.bool true)) ∧ OldK s₁.heap s'.heap ∧ s'.os = s₁.os ∧ AllBare s'.gens) s₁ := by
  have rv := vals_ints hi
  have lenV := hi.length
  -- from an abstract heap in which nothing but the script may be tracked
  have core : ∀ H : Hp, Only H → SqL K H a (ns.map V.int) → HOk P w H s₁.heap → (∀ b, H b ≠ none → b = a) → (H a ≠ none → K.lookup a = none) →
      codeAny (model P w) callerA (.call (.ref fa) ⟨[.ref a], []⟩) (fun r s' => r = .ok (.ret (.bool true)) ∧ OldK s₁.heap s'.heap ∧ s'.os = s₁.os ∧ AllBare s'.gens) s₁ := by
    intro H hO hS hok hA hK
    have base_of : ∀ {b : Addr} {o : Obj}, s₁.heap.get? b = some o → H b = none → (hidT s₁.heap H).get? b = some o := fun e n => hidT_get e n
    have noA : ∀ {b : Addr} {o : Obj} {es : Array DictEntry} {ep : Nat}, s₁.heap.get? b = some o → o.data = .dict es ep → H b = none := fun {b o es ep} e d => by
      cases q : H b with
      | none => rfl
      | some u =>
        have e' : b = a := hA b (by rw [q]; simp)
        subst e'
        rw [ha] at e; cases e
        have d' : Data.seq vs.toArray _ = Data.dict es ep := d
        cases d'
    have nsK : ∀ {b : Addr} {m : Str → Option Value}, s₁.heap.Ns b m → (hidT s₁.heap H).Ns b m := fun {b m} ⟨o, es, ep, e, d, r⟩ => ⟨o, es, ep, base_of e (noA e d), d, r⟩
    have hKb : K.In (hidT s₁.heap H) := fun b o e => base_of (KX b o e) (by
      cases q : H b with
      | none => rfl
      | some u =>
        have e' : b = a := hA b (by rw [q]; simp)
        subst e'
        rw [hK (by rw [q]; simp)] at e; cases e)
    have hM : Mod K mg (hidT s₁.heap H) := ⟨hKb, nsK hns, ⟨mb, nsK hb, hbb⟩, let ⟨mc, h1, h2⟩ := hlim; ⟨mc, nsK h1, h2⟩⟩
    have e0 : Env0 P w K mg (hidT s₁.heap H) callerA [] s₁ H := ⟨rfl, hM, fun b o e => of_hidT e, Nat.le_of_eq (hidT_size _ _), trivial, fun b hb => absurd (show b ∈ ([] : List Addr) from hb) (by simp), hok, .of_eq hg⟩
    refine codeAny_mono ((F _ hKb (nsK hns)).run callerA [] s₁ H ⟨[.ref a], []⟩ [.ref a] [.ref a] _ _ hr e0 (hbind s₁ (.ref a)) (.cons rfl .nil) (hsp H hO hS)) fun r s' h => ?_
    cases r with
    | error e => exact (hCX H e s' h).elim
    | ok fl =>
      cases fl with
      | next => exact False.elim h
      | brk => exact False.elim h
      | cont => exact False.elim h
      | ret u =>
        obtain ⟨v, H', os, bare, un, hok', r', q⟩ := h
        have q' : v = .bl true := q
        subst q'
        obtain rfl : u = Value.bool true := r'
        refine ⟨rfl, OldK.of_keep fun b o e => ?_, os, bare⟩
        cases q : H b with
        | none => exact un.keep b o e q (by intro z; exact absurd (show b ∈ ([] : List Addr) from z) (by simp)) (by simp)
        | some u =>
          rcases hO b with z | ⟨ob, xs, z⟩
          · rw [q] at z; cases z
          · have z2 := un.frzs b ob _ z
            obtain ⟨e1, _⟩ := hok b _ z
            obtain ⟨e2, _⟩ := hok' b _ z2
            rw [e] at e1; cases e1
            exact e2
  cases hk : K.lookup a with
  | some o =>
    -- the script is one of the module's own objects
    have e := KX a o hk
    rw [ha] at e
    cases e
    refine core (fun _ => none) (fun _ => .inl rfl) (.inr ⟨_, vs.toArray, _, hk, rfl, rfl, rfl, by rw [List.size_toArray, lenV]; exact hl, by simpa using rv⟩) (fun b u z => by have z' : (none : Option HO) = some u := z; cases z') (fun b z => absurd rfl z) fun z => absurd rfl z
  | none =>
    refine core (fun b => if b = a then some (.frz { cls := .type "list", data := .seq vs.toArray } (.lst (ns.map V.int))) else none) (fun b => ?_) (.inl (.inr ⟨{ cls := .type "list", data := .seq vs.toArray }, if_pos rfl⟩)) (fun b u z => ?_) (fun b z => ?_) fun _ => hk
    · by_cases hb : b = a
      · exact .inr ⟨_, _, if_pos hb⟩
      · exact .inl (if_neg hb)
    · by_cases hb : b = a
      · have z' := (if_pos hb).symm.trans z
        cases z'
        subst hb
        exact ⟨ha, by rw [List.length_map]; exact hl, vs, _, rv, ha⟩
      · have z' := (if_neg hb).symm.trans z
        cases z'
    · by_cases hb : b = a
      · exact hb
      · exact absurd (if_neg hb) z
end L2

namespace L2
open PySem PySem.Spec PyProof.Rows

/-- the goal that k_head leaves (case hc), from the law's promise. F gives the function object fd (K's own) once, then the promise over every base -/
theorem walk_of {l : PySem.W.OpenLaw} {n k : Nat} {q : Program} {loose : List Str} {XP : (Str → Option Value) → Heap → Prop} {YP : World → Heap → Prop} {d : DefRec} {K : Params → PySem.W.Frag} {CX : World → CXT} {sp : World → Sp} {x : Str}
    (hn : l.most = some n) (hn2 : n ≤ sizeLine) (hdf : d.params.defaults = []) (hr : Room k callerA)
    (hY : ∀ (w : World) (h : Heap), YP w h → (K w.params).In h)
    (F : ∀ (w : World) (mg : Str → Option Value) (fa : Addr) (h : Heap), (K w.params).In h → h.Ns mainGlobals mg → mg d.name = some (.ref fa) →
      ∃ fd : FuncData, (∀ (s : Shared) (u : Value), BindsTo s fd ⟨[u], []⟩ [(x, u)]) ∧
        ∀ base : Heap, (K w.params).In base → base.Ns mainGlobals mg → FnOk l.prog w (K w.params) mg base (CX w) k fa fd [x] (sp w))
    (hsp : ∀ (w : World) (H : Hp) (a : Addr) (ns : List Int), ns.length ≤ n → Only H → SqL (K w.params) H a (ns.map V.int) → sp w [.ref a] H (fun v _ => v = .bl true) fun _ _ _ => False)
    (hCX : ∀ (w : World) (H : Hp) (s : Shared) (e : Value) (s' : Shared), CX w [] H s (fun _ _ _ => False) e s' → False) :
    PySem.W.WalkO q loose XP YP l.row.toRowW d [] (fun f vs => PySem.call f vs) := by
  refine Att.attach_call hn hdf fun w s₀ s₁ mg mb fa o pm cd doc a vs ns G Y ho hd hcd hmg hobj hints hlen hg => ?_
  have KX := hY w _ Y
  obtain ⟨fd, hb, hF⟩ := F w mg fa _ KX G.T.g hmg
  exact law_call KX G.T.g G.T.b G.T.builtins G.T.nolimit hg hobj hints (Nat.le_trans hlen hn2) hr hF hb (fun H hO hS => hsp w H a ns hlen hO hS) fun H e s' => hCX w H s₁ e s'
end L2


namespace L2
open PySem PySem.Spec PyProof.Rows

def defArgs (s : Stmt) : Arguments := match s with
  | .FunctionDef _ a _ _ _ _ _ _ _ _ => a
  | _ => { posonlyargs := [], args := [], vararg := none, kwonlyargs := [], kw_defaults := [], kwarg := none, defaults := [] }
def defBody (s : Stmt) : List Stmt := match s with
  | .FunctionDef _ _ b _ _ _ _ _ _ _ => b
  | _ => []
def defScope (s : Stmt) : Scope := match s with
  | .FunctionDef _ _ _ _ _ _ sc _ _ _ => sc
  | _ => { kind := .function, names := [], isGenerator := false, isCoroutine := false }

abbrev CX0 : CXT := fun _ _ _ _ _ _ => False
abbrev E0 : XK := fun _ _ _ => False
theorem pass0 {X : Cx} : Passes CX0 X E0 := fun _ _ _ _ _ _ _ h => h.elim

structure Fun (K : PySem.W.Frag) (x qual : Str) (st : Stmt) (f : Addr) (fd : FuncData) : Prop where
  ex : ∃ (oc : Value) (od : Option Addr) (kV doc pm : Value) (an : Option Addr) (cdv ct : Value) (osl : Array (Option Value)),
    fd = PySem.W.fnOf x qual (defArgs st) (defBody st) (defScope st) .none kV doc pm an cdv ct ∧ K.lookup f = some ⟨oc, od, .func fd, osl⟩ ∧ PySem.W.codeIn K cdv qual = true
  kp : PySem.W.keepIn K (.ref f) = true
section
variable {P : Program} {w : World} {K : PySem.W.Frag} {mg : Str → Option Value} {base : Heap}
/-- THE RULE for a def: its body as a term of rules, and the reading of that term -/
theorem Fun.ok {x qual : Str} {st : Stmt} {f : Addr} {fd : FuncData} {N ps : List Str} {k : Nat} {sp : Sp} (F : Fun K x qual st f fd) (S : FnScope N ps (defScope st)) (len : ∀ vs H Q E, sp vs H Q E → vs.length = ps.length)
    (hbody : ∀ (cdv : Value) (A : Around) (outer : List Env) (s : Shared) (H : Hp) (vs : List V) (Q : VK) (E : XK), Room k (A.deeper (envOfC qual (defScope st) s.heap.objs.size f cdv)) → sp vs H Q E →
      ∃ t, PSs (cxOf CX0 P w K mg base N qual (defScope st) f cdv A outer s H E).nox (defBody st) t ∧ t { nx := fun _ H' => Q .non H', rt := Q } (start N vs) H) : FnOk P w K mg base CX0 (k + 1) f fd ps sp := by
  obtain ⟨oc, od, kV, doc, pm, an, cdv, ct, osl, rfl, lk, hcd⟩ := F.ex
  refine fn_of lk hcd S len fun A outer s H vs Q E hr hsp => ?_
  obtain ⟨t, h, q⟩ := hbody cdv A outer s H vs Q E hr hsp
  exact ⟨t, h.nox, q⟩
/-- how its arguments bind (no defaults): h is «fun _ _ _ _ _ _ us hl => match us, hl with | [_, _], _ => rfl», one _ a parameter -/
theorem Fun.binds {x qual : Str} {st : Stmt} {f : Addr} {fd : FuncData} {ps : List Str} (F : Fun K x qual st f fd)
    (h : ∀ (kV doc pm : Value) (an : Option Addr) (cdv ct : Value) (us : List Value), us.length = ps.length → bindArgs (PySem.W.fnOf x qual (defArgs st) (defBody st) (defScope st) .none kV doc pm an cdv ct) ⟨us, []⟩ = pure (ps.zip us)) : Binds K fd ps [] := by
  obtain ⟨oc, od, kV, doc, pm, an, cdv, ct, osl, rfl, lk, hcd⟩ := F.ex
  exact .all (h kV doc pm an cdv ct)
theorem fun_mk {x qual : Str} {st : Stmt} {f : Addr} {oc : Value} {od an : Option Addr} {osl : Array (Option Value)} {kV doc pm cdv ct : Value} (l : K.lookup f = some ⟨oc, od, .func (PySem.W.fnOf x qual (defArgs st) (defBody st) (defScope st) .none kV doc pm an cdv ct), osl⟩)
    (c : PySem.W.codeIn K cdv qual = true) (k : PySem.W.keepIn K (.ref f) = true) : Fun K x qual st f (PySem.W.fnOf x qual (defArgs st) (defBody st) (defScope st) .none kV doc pm an cdv ct) := ⟨⟨oc, od, kV, doc, pm, an, cdv, ct, osl, rfl, l, c⟩, k⟩
end
section
variable {X : Cx}
theorem pv (i : Nat) {x : Str} {pos : Pos} (hN : X.N[i]? = some x := by rfl) (hv : Vis X.env.scope x := by first | exact Or.inl rfl | exact Or.inr (Or.inl rfl) | exact Or.inr (Or.inr rfl)) (hd : (x == ("__debug__" : Str)) = false := by decide)
    (hcd : (x == ("__classdict__" : Str)) = false := by decide) : PE X (.Name x pos) (tVar i) := pe_var hN hv hd hcd
end

theorem iteF {A B : Prop} (h : B) : if false = true then A else B := by
  rw [if_neg Bool.false_ne_true]
  exact h
theorem iteT {A B : Prop} (h : A) : if true = true then A else B := by
  rw [if_pos rfl]
  exact h
/-- all that was tracked is as it was -/
def Same (H H' : Hp) : Prop := ∀ b o, H b = some o → H' b = some o
theorem Same.refl (H : Hp) : Same H H := fun _ _ h => h
theorem Same.trans {H H1 H2 : Hp} (a : Same H H1) (b : Same H1 H2) : Same H H2 := fun c o h => b c o (a c o h)
theorem Same.free {H H' : Hp} (e : Same H H') {l : Addr} (h : H' l = Option.none) : H l = Option.none := by
  cases q : H l with
  | none => rfl
  | some o =>
    rw [e l o q] at h
    cases h
theorem Same.seq {K : PySem.W.Frag} {H H' : Hp} {a : Addr} {xs : List V} (e : Same H H') (h : SqL K H a xs) : SqL K H' a xs := by
  rcases h with (h | ⟨o, h⟩) | h
  · exact .inl (.inl (e _ _ h))
  · exact .inl (.inr ⟨o, e _ _ h⟩)
  · exact .inr h

section
variable {κ : Type} [DecidableEq κ]
end
end L2

namespace L2
open PySem PySem.Spec PyProof.Rows

/-- the block's context: the captured names and the walked ones -/
def blk (X : Cx) (N' : List Str) (scope : Scope) (cl : List (Str × Addr)) (C : Addr) (s0 : Shared) (H0 : Hp) (ex : List Addr) : Cx :=
  { X with N := N', env := compEnvC scope cl C X.env, s₀ := s0, H₀ := H0, outer := X.stack, stack := X.stack, ex := ex, fn := fun _ => false, pn := [], xe := fun _ _ => False }
/-- the clauses' tests -/
def PIfs (X : Cx) (ifs : List Expr) (t : TT) : Prop :=
  ∀ (pins : List (Addr × Obj)) (s : Shared) (σ : St) (H : Hp) (Q : Bool → Hp → Prop), Inv X pins σ H s → t σ H Q →
    wpAny (model X.prog X.w) X.A (forIn ifs true fun c r => if r = true then do let ok ← isTrue c X.env (eval c X.env); pure (ForInStep.yield ok) else pure (ForInStep.yield r)) (TP X pins σ Q) X.xe s
def tYes : TT := fun _ H Q => Q true H
theorem pifs_nil {X : Cx} : PIfs X [] tYes := fun pins s σ H Q I h => wpAny_tests_nil ⟨H, I, h⟩
/-- the block's names at a turn's start: the walked ones open, the captured ones as they are outside -/
def blkS (n : Nat) (idx : List Nat) (σ : St) : St := List.replicate n none ++ idx.map fun i => (σ[i]?).join
def tComp (n : Nat) (idx : List Nat) (wi : TI) (g : TG) (tc : TT) (te : TE) : TE := fun σ H Q => wi σ H fun J H1 => ∀ D, H1 D = none →
  ∃ W : Nat → Nat → Hp → Prop, (∃ m, W 0 m (upd H1 D (.lst []))) ∧ ∀ i m H, W i m H →
    (J.stop i H ∧ Q (.ref D) H) ∨ (J.go i H ∧ ∀ x H', J.yld i H x H' → g x (blkS n idx σ) H' fun σ2 H2 => (σ2.length = (blkS n idx σ).length ∧ ∀ (j : Nat) (v : V), (blkS n idx σ)[j]? = some (some v) → σ2[j]? = some (some v)) ∧ tc σ2 H2 fun b H3 =>
      if b = true then te σ2 H3 fun v H4 => ∃ ys, H4 D = some (.lst ys) ∧ ys.length < sizeLine ∧ ∃ m', m' < m ∧ W (i + 1) m' (upd H4 D (.lst (ys ++ [v]))) else ∃ m', m' < m ∧ W (i + 1) m' H3)
/-- what a comprehension's text must have, seen from around it -/
structure CompOk (X : Cx) (scope : Scope) (cl : List (Str × Addr)) (N' : List Str) (n : Nat) (idx : List Nat) : Prop where
  clos : closureFor scope X.env = pure cl
  sub : ∀ x c, cl.lookup x = some c → X.env.cells.lookup x = some c
  cell : ∀ y ∈ scope.names, y.2 ≠ .cell
  kind : scope.kind = .function
  names : ∀ y ∈ scope.names, y.2 = .local → scope.names.lookup y.1 = some .local
  has : ∀ x, ((relabel scope X.env).names.lookup x = some .cell ∨ (relabel scope X.env).names.lookup x = some .free) → ∃ c, cl.lookup x = some c
  len : N'.length = n + idx.length
  cap : ∀ (j i : Nat) (y : Str), idx[j]? = some i → N'[n + j]? = some y → X.N[i]? = some y ∧ (X.env.scope.names.lookup y = some .cell ∨ X.env.scope.names.lookup y = some .free) ∧ ((relabel scope X.env).names.lookup y = some .cell ∨ (relabel scope X.env).names.lookup y = some .free)
section
variable {X : Cx} {scope : Scope} {cl : List (Str × Addr)} {N' : List Str} {n : Nat} {idx : List Nat} {tg iter elt : Expr} {ifs : List Expr} {pos : Pos} {wi : TI} {g : TG} {tc : TT} {te : TE}
theorem blkS_len (σ : St) : (blkS n idx σ).length = n + idx.length := by simp [blkS]
theorem blkS_get {σ : St} {j : Nat} {v : V} (h : (blkS n idx σ)[j]? = some (some v)) : ∃ k i, j = n + k ∧ idx[k]? = some i ∧ σ[i]? = some (some v) := by
  unfold blkS at h
  by_cases hj : j < n
  · rw [List.getElem?_append_left (by simpa using hj)] at h
    simp [hj] at h
  · rw [List.getElem?_append_right (by simpa using Nat.le_of_not_lt hj)] at h
    simp only [List.length_replicate, List.getElem?_map] at h
    refine ⟨j - n, ?_⟩
    cases e : idx[j - n]? with
    | none => rw [e] at h; simp at h
    | some i =>
      rw [e] at h
      simp only [Option.map_some, Option.some.injEq] at h
      exact ⟨i, by omega, rfl, by simpa using Option.join_eq_some_iff.mp h⟩
/-- the block begins -/
theorem blk_start (k : CompOk X scope cl N' n idx) {pins : List (Addr × Obj)} {s2 : Shared} {σ : St} {H2 : Hp} {fp : List Addr} {C : Addr} {h4 : Heap} {t4 : Nat} {m : Str → Option Value} (I : Inv X pins σ H2 s2) (f : ∀ b ∈ fp, FpOk X pins H2 b) (fo : ∀ b ∈ fp, b < s2.heap.objs.size)
    (hC : s2.heap.objs.size + 1 ≤ C) (ns : h4.Ns C m) (keep : ∀ b o, s2.heap.get? b = some o → h4.get? b = some o) (hD : h4.get? s2.heap.objs.size = some { cls := .type "list", data := .seq ([] : List Value).toArray }) :
    Inv (blk X N' scope cl C s2 H2 fp) [] (blkS n idx σ) (upd H2 s2.heap.objs.size (.lst [])) { s2 with heap := h4, toks := t4 } := by
  have fresh : H2 s2.heap.objs.size = none := I.hok.fresh (Nat.le_refl _)
  have fC : H2 C = none := I.hok.fresh (by omega)
  have cellsub : ∀ x c, (blk X N' scope cl C s2 H2 fp).env.cells.lookup x = some c → X.env.cells.lookup x = some c := fun x c e => k.sub x c e
  have cellLt : ∀ x c, X.env.cells.lookup x = some c → c < s2.heap.objs.size := fun x c e => by
    obtain ⟨v, q⟩ := I.cell x c e
    exact q.lt
  have ok : (blk X N' scope cl C s2 H2 fp).Ok := {
    mod := I.ok.mod
    kind := k.kind
    glob := I.ok.glob
    blt := I.ok.blt
    above := by show s2.heap.objs.size ≤ C; omega
    inj := fun x y c e1 e2 => I.ok.inj x y c (cellsub x c e1) (cellsub y c e2)
    has := fun x h => k.has x h
    cab := fun x c h _ => by cases h
    hd := I.ok.hd
    frames := I.ok.frames
    stk := .inl rfl
    exf := fun b hb => ⟨Nat.ne_of_lt (Nat.lt_of_lt_of_le (fo b hb) (by show s2.heap.objs.size ≤ C; omega)), fun x c e z => (f b hb).2.2.2.2.1 x c (cellsub x c e) z⟩
    bs := fun b o e => I.bs b o e
    bsz := Nat.le_trans I.ok.bsz I.sz
    noex := fun b o e hb => by
      rcases (f b hb).2.2.2.1 with z | z
      · exact I.ok.noex b o e z
      · exact absurd (Nat.lt_of_lt_of_le (Heap.lt_size e) (Nat.le_trans I.ok.bsz z)) (Nat.lt_irrefl _)
    exfs := fun b hb z => by
      rcases List.mem_cons.mp (I.stkSub b z) with y | y
      · exact (f b hb).2.1 y
      · exact (f b hb).2.2.1 y
    funs := I.stack
    frf := I.stkFree }
  refine ⟨ok, rfl, I.bare, Un.laid keep (Nat.le_refl _) fresh, ⟨m, ns, fun j y v e1 e2 e3 => ?_⟩, fun x c e => ?_, ?_, fun x c e => ?_, fun p hp => (by cases hp), I.hok.laid keep (Nat.le_refl _) ⟨Nat.zero_le _, [], _, .nil, hD⟩, ?_⟩
  · obtain ⟨kk, i, rfl, hk, hv⟩ := blkS_get e2
    obtain ⟨hN, ok, hkind⟩ := k.cap kk i y hk e1
    obtain ⟨c, hc⟩ := k.has y hkind
    obtain ⟨m0, _, hl⟩ := I.loc
    have hc' := k.sub y c hc
    obtain ⟨u, r, l⟩ := hl i y v hN hv (by rcases ok with z | z; exact .inr (.inl z); exact .inr (.inr z))
    refine ⟨u, r, .inr ⟨hkind, c, hc, ?_⟩⟩
    rcases l with ⟨z, _⟩ | ⟨_, c', e', q⟩
    · have z' : X.env.scope.names.lookup y = some .local := z
      rcases ok with w | w <;> · rw [w] at z'; cases z'
    · rw [hc'] at e'; cases e'
      obtain ⟨o, ho, hd⟩ := q
      exact ⟨o, keep _ o ho, hd⟩
  · obtain ⟨v, q⟩ := I.cell x c (cellsub x c e)
    obtain ⟨o, ho, hd⟩ := q
    exact ⟨v, o, keep c o ho, hd⟩
  · show upd H2 s2.heap.objs.size (.lst []) C = none
    rw [upd_ne (Nat.ne_of_gt hC)]; exact fC
  · have := cellLt x c (cellsub x c e)
    rw [upd_ne (Nat.ne_of_lt this)]
    exact I.freeC x c (cellsub x c e)
  · rw [blkS_len, ← k.len]; rfl
/-- the loop's turns, the step that lets an owned tuple go among them -/
theorem comp_loop {prog : Program} {w : World} {A : Around} {R : Result → Shared → Prop} {s : Shared} {elt target iter : Expr} {ifs : List Expr} {scope : Scope} {pos : Pos} {it acc : Value} {env : Env} (I : Nat → Shared → Prop)
    (turn : ∀ n s, I n s → wpAny (model prog w) A (pyNext it) (fun r s1 => match r with
      | none => R (.ok .next) s1
      | some v => wpAny (model prog w) A (letOwnedTupleGo target it v) (fun _ s1' => wpAny (model prog w) A (assign target env v) (fun _ s2 =>
          wpAny (model prog w) A (forIn ifs true fun c r => if r = true then do let ok ← isTrue c env (eval c env); pure (ForInStep.yield ok) else pure (ForInStep.yield r)) (fun ok s3 =>
            if ok = true then wpAny (model prog w) A (eval elt env) (fun x s4 =>
              wpAny (model prog w) A (call (.builtin "list.append") [acc, x]) (fun _ s5 => ∃ m, m < n ∧ I m s5) (notedBy (model prog w) A env fun e s' => R (.error e) s') s4) (notedBy (model prog w) A env fun e s' => R (.error e) s') s3
            else ∃ m, m < n ∧ I m s3) (notedBy (model prog w) A env fun e s' => R (.error e) s') s2) (notedBy (model prog w) A env fun e s' => R (.error e) s') s1') (notedBy (model prog w) A env fun e s' => R (.error e) s') s1) (notedBy (model prog w) A env fun e s' => R (.error e) s') s)
    (n : Nat) (h : I n s) :
    codeAny (model prog w) A (.compLoop (.ListComp elt [⟨target, iter, ifs, 0⟩] scope pos) 0 it acc env) R s := by
  refine codeAny_loop rfl I (fun n s hI => ?_) n h
  show wpAny _ A ((compTurn (.ListComp elt [⟨target, iter, ifs, 0⟩] scope pos) 0 it acc env).onRaise (fun x => do noteFrame x env; theTreesLotGoes x)) _ _ s
  refine wpAny_noted ?_
  rw [compTurn_list]
  refine wpAny_bind (wpAny_standAt (wpAny_bind (wpAny_mono (turn n s hI) (fun r s₁ h₁ => ?_) fun _ _ h' => h')))
  cases r with
  | none => exact wpAny_pure h₁
  | some v =>
    refine wpAny_bind (wpAny_mono h₁ (fun _ s1' h1' => ?_) fun _ _ h' => h')
    refine wpAny_bind (wpAny_mono h1' (fun _ s₂ h₂ => wpAny_bind (wpAny_mono h₂ (fun ok s₃ h₃ => ?_) fun _ _ h' => h')) fun _ _ h' => h')
    cases ok with
    | false => exact wpAny_pure ⟨rfl, h₃⟩
    | true =>
      exact wpAny_bind (wpAny_bind (wpAny_mono h₃ (fun x s₄ h₄ => wpAny_bind (wpAny_mono h₄ (fun _ s₅ h₅ => wpAny_pure (wpAny_pure ⟨rfl, h₅⟩)) fun _ _ h' => h')) fun _ _ h' => h'))
end
end L2

namespace L2
open PySem PySem.Spec PyProof.Rows
section
variable {X : Cx} {scope : Scope} {cl : List (Str × Addr)} {N' : List Str} {n : Nat} {idx : List Nat} {tg iter elt : Expr} {ifs : List Expr} {pos : Pos} {wi : TI} {g : TG} {tc : TT} {te : TE}
/-- a comprehension, whatever is done with what comes -/
theorem comp_gen {use : Option (Value → Sem Unit)} {Q' : Value → Shared → Prop} {pos2 : Pos} (hc : X.calm = true) (k : CompOk X scope cl N' n idx) (hi : PI X tg iter wi)
    (hg : ∀ C s0 H0 ex, PG (blk X N' scope cl C s0 H0 ex) tg g) (ht : ∀ C s0 H0 ex, PIfs (blk X N' scope cl C s0 H0 ex) ifs tc) (he : ∀ C s0 H0 ex, PE (blk X N' scope cl C s0 H0 ex) elt te)
    (hs : ∀ x, foldedSetIterable iter X.env x = pure x) {pins : List (Addr × Obj)} {s : Shared} {σ : St} {H : Hp} {Q : VK} (I0 : Inv X pins σ H s) (h : tComp n idx wi g tc te σ H Q)
    (last : ∀ (C D : Addr) (s' : Shared) (H' : Hp) (m : Str → Option Value), Inv X pins σ H' s' → FpOk X pins H' C → s'.heap.Ns C m → Q (.ref D) H' → compPost (model X.prog X.w) X.A X.xe use Q' (.ref D) C (.ok .next) s') :
    wpAny (model X.prog X.w) X.A (comprehension (.ListComp elt [⟨tg, iter, ifs, 0⟩] scope pos) scope X.env pos2 (newList []) false (eval iter X.env) use) Q' X.xe s := by
  refine wpAny_comprehension_free (use := use) rfl hs k.clos k.kind k.names (thn (hi pins s σ H _ I0 h) fun v s1 h1 => thn h1 fun itv s2 h2 => ?_)
  obtain ⟨it, fp, tn, J, H2, e, I2, T, st2, f2, hW⟩ := h2
  subst e
  have fo2 : ∀ b ∈ fp, b < s2.heap.objs.size := fun b hb => by
    obtain ⟨o, e, _⟩ := T.obj _ _ st2 b hb
    exact Heap.lt_size e
  obtain ⟨W, ⟨m0, w0⟩, turn⟩ := hW s2.heap.objs.size (I2.hok.fresh (Nat.le_refl _))
  refine wpAny_newObj_type (wpAny_newFunctionEnv k.cell (by intro y hy; simp at hy) (fun h4 hns4 hsb4 => ?_) k.kind)
  dsimp only at hns4 hsb4 ⊢
  generalize hH3 : s2.heap.push { cls := .type "list", dict := none, data := .seq ([] : List Value).toArray } = h3 at hns4 hsb4 ⊢
  have hCe : h3.objs.size = s2.heap.objs.size + 1 := by rw [← hH3, Heap.size_push]
  have k34 : ∀ b o, b ≠ h3.objs.size → h3.get? b = some o → h4.get? b = some o := fun b o nb e => hsb4.extBut b o nb (Heap.get?_push_of_some _ e)
  have keep : ∀ b o, s2.heap.get? b = some o → h4.get? b = some o := fun b o e => k34 b o (Nat.ne_of_lt (by rw [hCe]; exact Nat.lt_succ_of_lt (Heap.lt_size e))) (by rw [← hH3]; exact Heap.get?_push_of_some _ e)
  have hD : h4.get? s2.heap.objs.size = some { cls := .type "list", data := .seq ([] : List Value).toArray } := k34 _ _ (Nat.ne_of_lt (by rw [hCe]; exact Nat.lt_succ_self _)) (by rw [← hH3]; exact Heap.get?_push_size _ rfl)
  have I4 := blk_start k I2 f2 fo2 (Nat.le_of_eq hCe.symm) hns4 keep hD (t4 := s2.toks + ([] : List (Str × Value)).length)
  -- the iterator's objects within the block
  have stat : ∀ {H' : Hp}, (∀ b ∈ fp, H' b = none) → ∀ b ∈ fp, FpOk (blk X N' scope cl h3.objs.size s2 H2 fp) [] H' b := fun hn b hb =>
    ⟨hn b hb, Nat.ne_of_lt (by rw [hCe]; exact Nat.lt_succ_of_lt (fo2 b hb)), fun z => (List.mem_cons.mp (I2.stkSub b z)).elim (f2 b hb).2.1 (f2 b hb).2.2.1, .inl hb, fun x c e => (f2 b hb).2.2.2.2.1 x c (k.sub x c e), fun p hp => (by cases hp)⟩
  have fr4 : ∀ b ∈ fp, upd H2 s2.heap.objs.size (.lst []) b = none := fun b hb => by rw [upd_ne (Nat.ne_of_lt (fo2 b hb))]; exact (f2 b hb).1
  have fin : ∀ (s' : Shared) (H' : Hp), Inv (blk X N' scope cl h3.objs.size s2 H2 fp) [] (blkS n idx σ) H' s' → Q (.ref s2.heap.objs.size) H' →
      compPost (model X.prog X.w) X.A X.xe use Q' (.ref s2.heap.objs.size) h3.objs.size (.ok .next) s' := fun s' H' I' q => by
    obtain ⟨m', hn', _⟩ := I'.loc
    have B := I'.base
    refine last _ _ s' H' m' ?_ (I2.fpOk (by rw [hCe]; exact Nat.le_succ _) I'.free) hn' q
    refine I2.call' (s' := s') (ch := fp) (show s'.os = s2.os from I'.os) ⟨fun b o e nn hb hx => B.keep b o e nn hb hx, fun b o e nn hb hx => B.slot b o e nn hb hx, B.free, fun b o e hx => B.there b o e hx, B.tups, B.frzs, B.tbls⟩ I'.hok I'.bare fun b hb => ?_
    obtain ⟨p1, p2, p3, p4, p5, p6⟩ := f2 b hb
    exact ⟨p4, p2, p5, p6⟩
  have loop : ∀ s4 : Shared, s4 = { s2 with heap := h4, toks := s2.toks + ([] : List (Str × Value)).length } →
      codeAny (model X.prog X.w) X.A (.compLoop (.ListComp elt [⟨tg, iter, ifs, 0⟩] scope pos) 0 (.ref it) (.ref s2.heap.objs.size) (compEnvC scope cl h3.objs.size X.env)) (compPost (model X.prog X.w) X.A X.xe use Q' (.ref s2.heap.objs.size) h3.objs.size) s4 := by
    rintro s4 rfl
    refine comp_loop (fun m s' => ∃ i H', Inv (blk X N' scope cl h3.objs.size s2 H2 fp) [] (blkS n idx σ) H' s' ∧ tn i s'.heap ∧ (∀ b ∈ fp, H' b = none) ∧ W i m H') ?_ m0 ⟨0, _, I4, T.keep _ _ _ st2 (fun b _ o e => keep b o e), fr4, w0⟩
    rintro m s3 ⟨i, H3, I3, st3, fr3, w3⟩
    rcases turn i m H3 w3 with ⟨stop, q⟩ | ⟨go, step⟩
    · refine wpAny_mono (T.done (blk X N' scope cl h3.objs.size s2 H2 fp) rfl rfl rfl hc i [] s3 _ H3 (fun _ _ => False) I3 (stat fr3) st3 stop) (fun r s5 ⟨hr, I5⟩ => ?_) fun _ _ z => z.elim
      subst hr
      exact fin s5 H3 I5 q
    · refine wpAny_mono (T.item (blk X N' scope cl h3.objs.size s2 H2 fp) rfl rfl rfl hc i [] s3 _ H3 (fun _ _ => False) I3 (stat fr3) st3 go) (fun r s5 ⟨u, hr, h5⟩ => ?_) fun _ _ z => z.elim
      subst hr
      refine wpAny_mono h5 (fun _ s6 ⟨x, H6, I6, r6, y6, st6, fr6⟩ => ?_) fun _ _ z => z.elim
      have I6' := I6.pinned (stat fr6) (T.obj _ _ st6)
      have again : ∀ {σ7 : St} {H7 : Hp} {s7 : Shared}, Inv (blk X N' scope cl h3.objs.size s2 H2 fp) ([] ++ pinsAt fp s6.heap) σ7 H7 s7 → σ7.length = (blkS n idx σ).length → (∀ (j : Nat) v, (blkS n idx σ)[j]? = some (some v) → σ7[j]? = some (some v)) → (∃ m', m' < m ∧ W (i + 1) m' H7) →
          ∃ m', m' < m ∧ ∃ i H', Inv (blk X N' scope cl h3.objs.size s2 H2 fp) [] (blkS n idx σ) H' s7 ∧ tn i s7.heap ∧ (∀ b ∈ fp, H' b = none) ∧ W i m' H' := fun {σ7 H7 s7} I7 hl hw ⟨m', hm, w7⟩ => by
        refine ⟨m', hm, i + 1, H7, (I7.unpinned).weak hl.symm hw, T.keep _ _ _ st6 fun b hb o e => (I7.pin (b, o) (List.mem_append_right _ (List.mem_append_right _ (mem_pinsAt hb e)))).1, fun b hb => ?_, w7⟩
        obtain ⟨o, e, d⟩ := T.obj _ _ st6 b hb
        exact (I7.pin (b, o) (List.mem_append_right _ (List.mem_append_right _ (mem_pinsAt hb e)))).2.1
      refine wpAny_mono (hg _ _ _ _ _ s6 _ H6 x u _ I6' r6 (step x H6 y6)) (fun _ s7 ⟨σ7, H7, I7, ⟨hl, hw⟩, q7⟩ => ?_) fun _ _ z => z.elim
      refine wpAny_mono (ht _ _ _ _ _ s7 σ7 H7 _ I7 q7) (fun ok s8 ⟨H8, I8, q8⟩ => ?_) fun _ _ z => z.elim
      cases ok with
      | false =>
        rw [if_neg Bool.false_ne_true] at q8 ⊢
        exact again I8 hl hw q8
      | true =>
        rw [if_pos rfl] at q8 ⊢
        refine wpAny_mono (he _ _ _ _ _ s8 σ7 H8 _ I8 q8) (fun v9 s9 ⟨x9, H9, I9, r9, ys, e9, l9, q9⟩ => ?_) fun _ _ z => z.elim
        refine wpAny_mono (mt_append (X := blk X N' scope cl h3.objs.size s2 H2 fp) _ s9 σ7 H9 (.ref s2.heap.objs.size) [x9] (.ref s2.heap.objs.size) [v9] (fun _ H' => H' = upd H9 s2.heap.objs.size (.lst (ys ++ [x9]))) I9 rfl (.cons r9 .nil) ⟨s2.heap.objs.size, ys, x9, rfl, rfl, e9, l9, rfl⟩) (fun _ s10 ⟨_, H10, I10, _, e10⟩ => ?_) fun _ _ z => z.elim
        subst e10
        exact again I10 hl hw q9
  exact codeAny_compStart_list (loop _ rfl) (T.self _ 0 _ _ _ (T.keep _ _ _ st2 (fun b _ o e => keep b o e)) (loop _ rfl))

theorem pe_comp (hc : X.calm = true) (k : CompOk X scope cl N' n idx) (hi : PI X tg iter wi)
    (hg : ∀ C s0 H0 ex, PG (blk X N' scope cl C s0 H0 ex) tg g) (ht : ∀ C s0 H0 ex, PIfs (blk X N' scope cl C s0 H0 ex) ifs tc) (he : ∀ C s0 H0 ex, PE (blk X N' scope cl C s0 H0 ex) elt te)
    (hs : ∀ x, foldedSetIterable iter X.env x = pure x := by intro _; rfl) : PE X (.ListComp elt [⟨tg, iter, ifs, 0⟩] scope pos) (tComp n idx wi g tc te) := by
  intro pins s σ H Q I0 h
  rw [eval_ListComp]
  refine comp_gen (use := none) (Q' := EP X pins σ Q) hc k hi hg ht he hs I0 h ?_
  intro C D' s' H' m IX fC hn q
  exact ⟨m, hn, fun h' hsb => ⟨.ref D', H', IX.turned (t' := s'.toks) (it := C) (h' := h') (fun b o nb e => (hsb.2 b nb).trans e) fC.1 fC.2.1 fC.2.2.2.1 fC.2.2.2.2.1 fC.2.2.2.2.2, rfl, q⟩⟩
theorem ps_setC {i : Nat} {y : Str} {py spos : Pos} (hN : X.N.Nodup) (hi' : X.N[i]? = some y) (hx : Loc X.env.scope y) (hc : X.calm = true) (k : CompOk X scope cl N' n idx) (hi : PI X tg iter wi)
    (hg : ∀ C s0 H0 ex, PG (blk X N' scope cl C s0 H0 ex) tg g) (ht : ∀ C s0 H0 ex, PIfs (blk X N' scope cl C s0 H0 ex) ifs tc) (he : ∀ C s0 H0 ex, PE (blk X N' scope cl C s0 H0 ex) elt te)
    (hs : ∀ x, foldedSetIterable iter X.env x = pure x := by intro _; rfl) (hsw : swapsWith (.ListComp elt [⟨tg, iter, ifs, 0⟩] scope pos) (some (.Name y py)) spos.line X.env = pure true := by rfl)
    (hf : X.fn y = true ∨ X.env.scope.names.lookup y = some .local := by first | exact .inl rfl | exact .inr rfl | assumption) :
    PS X (.Assign [.Name y py] (.ListComp elt [⟨tg, iter, ifs, 0⟩] scope pos) spos) (tAsg (tComp n idx wi g tc te) (gName i)) := by
  intro pins s σ H D I h
  rw [exec_Assign_Name_used _ _ _ _ hsw]
  refine wpAny_bind (wpAny_standAt (wpAny_bind ?_))
  show wpAny _ X.A (do let _ ← comprehension (.ListComp elt [⟨tg, iter, ifs, 0⟩] scope pos) scope X.env _ (newList []) false (eval iter X.env) (some (assign (.Name y py) X.env))) _ _ s
  refine wpAny_bind (wpAny_mono (comp_gen (use := some (assign (.Name y py) X.env)) (Q' := fun _ s' => SP X pins D .next s') hc k hi hg ht he hs I h ?_) (fun _ s' hq => wpAny_pure (wpAny_pure hq)) fun _ _ e => e)
  intro C D' s' H' m IX fC hn q
  show wpAny _ X.A (assign (.Name y py) X.env (.ref D')) _ _ _
  obtain ⟨o, es, ep, ho, hd, hr⟩ := hn
  have IP := IX.pinned (fp := [C]) (fun b hb => by rw [List.mem_singleton.mp hb]; exact fC) (fun b hb => by rw [List.mem_singleton.mp hb]; exact ⟨o, ho, fun v z => by rw [hd] at z; cases z⟩)
  refine wpAny_mono (pg_name hN hi' hx hf _ s' σ H' (.ref D') (.ref D') D.nx IP rfl q) (fun _ s'' ⟨σ2, H2, I2, q2⟩ => ?_) fun _ _ e => e
  have pn := I2.pin (C, o) (List.mem_append_right _ (List.mem_append_right _ (mem_pinsAt (List.mem_singleton.mpr rfl) ho)))
  refine ⟨m, ⟨o, es, ep, pn.1, hd, hr⟩, fun h' hsb => ⟨σ2, H2, ?_, q2⟩⟩
  have It := I2.unpinned.turned (t' := s''.toks) (it := C) (h' := h') (fun b o nb e => (hsb.2 b nb).trans e) pn.2.1 fC.2.1 fC.2.2.2.1 fC.2.2.2.2.1 fC.2.2.2.2.2
  exact It
end
end L2

namespace DL
open PySem PySem.Spec L2
theorem bindP {α β γ : Type} {o : Option (α × β)} {f : α × β → Option γ} {r : γ} {G : Prop} (h : o.bind f = some r) (k : ∀ x y, o = some (x, y) → f (x, y) = some r → G) : G := by
  obtain ⟨⟨x, y⟩, a, b⟩ := Option.bind_eq_some_iff.mp h
  exact k x y a b
theorem bindQ {α γ : Type} {o : Option α} {f : α → Option γ} {r : γ} {G : Prop} (h : o.bind f = some r) (k : ∀ x, o = some x → f x = some r → G) : G := by
  obtain ⟨x, a, b⟩ := Option.bind_eq_some_iff.mp h
  exact k x a b
theorem mapP {α β γ : Type} {o : Option (α × β)} {f : α × β → γ} {r : γ} {G : Prop} (h : o.map f = some r) (k : ∀ x y, o = some (x, y) → f (x, y) = r → G) : G := by
  obtain ⟨⟨x, y⟩, a, b⟩ := Option.map_eq_some_iff.mp h
  exact k x y a b
theorem mapQ {α γ : Type} {o : Option α} {f : α → γ} {r : γ} {G : Prop} (h : o.map f = some r) (k : ∀ x, o = some x → f x = r → G) : G := by
  obtain ⟨x, a, b⟩ := Option.map_eq_some_iff.mp h
  exact k x a b

inductive D where
  | non | bl (b : Bool) | int (i : Int) | str (x : Str) | tup (ds : List D) | lst (ds : List D)
  | feed | scr (ns : List Int)

mutual
def D.py : D → PyData
  | .non => .none
  | .bl b => .bool b
  | .int i => .int i
  | .str x => .str x
  | .tup ds => .tuple (D.pys ds)
  | .lst ds => .list (D.pys ds)
  | .feed => .none
  | .scr _ => .none
def D.pys : List D → List PyData
  | [] => []
  | d :: r => D.py d :: D.pys r
end
mutual
def D.plain : D → Bool
  | .non => true
  | .bl _ => true
  | .int _ => true
  | .str _ => true
  | .tup ds => D.plains ds
  | .lst ds => D.plains ds
  | .feed => false
  | .scr _ => false
def D.plains : List D → Bool
  | [] => true
  | d :: r => D.plain d && D.plains r
end

/-- the law's feed -/
structure FS where
  cells : List Int
  pos : Int
  left : Int
  turn : Int
  kind : Nat

/-- a tape: a list of three, of four -/
def titems (c : Addr) (f : FS) : List V := if f.kind = 1 then [V.ref c, V.int f.pos, V.int f.left] else [V.ref c, V.int f.pos, V.int f.left, V.int f.turn]
/-- as it lies: a dict (kind 0), or a list -/
def fho (c : Addr) (f : FS) : HO := if f.kind = 0 then .dK [(Sum.inr ("cells" : Str), V.ref c), (Sum.inr ("at" : Str), V.int f.pos), (Sum.inr ("left" : Str), V.int f.left), (Sum.inr ("turn" : Str), V.int f.turn)] else .lst (titems c f)
theorem fho_t {c : Addr} {f : FS} (h : ¬ f.kind = 0) : fho c f = .lst (titems c f) := if_neg h
theorem fho_tup {c : Addr} {f : FS} {xs : List V} (h : fho c f = .tup xs) : False := by unfold fho at h; split at h <;> cases h
theorem fho_frz {c : Addr} {f : FS} {o : Obj} {u : HO} (h : fho c f = .frz o u) : False := by unfold fho at h; split at h <;> cases h
def FeedR (N : Addr → Prop) (H : Hp) : Option Addr → Option FS → Prop
  | none, none => True
  | some a, some f => f.cells.length ≤ 63 ∧ ∃ c, H a = some (fho c f) ∧ ¬ N c ∧ H c = some (.lst (f.cells.map V.int))
  | _, _ => False

/-- the script: never written -/
def SqF (K : PySem.W.Frag) (H : Hp) (a : Addr) (xs : List V) : Prop :=
  (∃ o, H a = some (.frz o (.lst xs))) ∨
    ∃ (o : Obj) (its : Array Value) (n : Nat), K.lookup a = some o ∧ o.cls = .type "list" ∧ o.dict = none ∧ o.data = .seq its n ∧ its.size ≤ sizeLine ∧ Vals xs its.toList
theorem SqF.sq {K : PySem.W.Frag} {H : Hp} {a : Addr} {xs : List V} (h : SqF K H a xs) : SqL K H a xs := by
  rcases h with ⟨o, h⟩ | h
  · exact .inl (.inr ⟨o, h⟩)
  · exact .inr h

mutual
def Rep (K : PySem.W.Frag) (N : Addr → Prop) (fa : Option Addr) (H : Hp) : D → V → Prop
  | .non, v => v = .non
  | .bl b, v => v = .bl b
  | .int i, v => v = .int i
  | .str x, v => v = .str x ∧ x.length ≤ sizeLine
  | .tup ds, v => ∃ a xs, v = .ref a ∧ SqT K H a xs ∧ Reps K N fa H ds xs
  | .lst ds, v => ∃ a xs, v = .ref a ∧ ¬ N a ∧ H a = some (.lst xs) ∧ Reps K N fa H ds xs
  | .feed, v => ∃ a, fa = some a ∧ v = .ref a
  | .scr ns, v => ns.length ≤ 63 ∧ ∃ a, v = .ref a ∧ SqF K H a (ns.map V.int)
def Reps (K : PySem.W.Frag) (N : Addr → Prop) (fa : Option Addr) (H : Hp) : List D → List V → Prop
  | [], xs => xs = []
  | d :: r, xs => ∃ x ys, xs = x :: ys ∧ Rep K N fa H d x ∧ Reps K N fa H r ys
end
/-- .. where the thing itself may be a list that is being built -/
def RepB (K : PySem.W.Frag) (N : Addr → Prop) (fa : Option Addr) (H : Hp) : D → V → Prop
  | .lst ds, v => ∃ a xs, v = .ref a ∧ fa ≠ some a ∧ H a = some (.lst xs) ∧ Reps K N fa H ds xs
  | d, v => Rep K N fa H d v
def RepBs (K : PySem.W.Frag) (N : Addr → Prop) (fa : Option Addr) (H : Hp) : List D → List V → Prop
  | [], xs => xs = []
  | d :: r, xs => ∃ x ys, xs = x :: ys ∧ RepB K N fa H d x ∧ RepBs K N fa H r ys

/-- what carries from one moment to another -/
structure Car (K : PySem.W.Frag) (N : Addr → Prop) (fa : Option Addr) (H : Hp) (N' : Addr → Prop) (fa' : Option Addr) (H' : Hp) : Prop where
  ls : ∀ b xs, ¬ N b → H b = some (.lst xs) → H' b = some (.lst xs) ∧ ¬ N' b
  tp : ∀ b xs, SqT K H b xs → SqT K H' b xs
  fz : ∀ b xs, SqF K H b xs → SqF K H' b xs
  fe : ∀ a, fa = some a → fa' = some a
section
variable {K : PySem.W.Frag} {N N' : Addr → Prop} {fa fa' : Option Addr} {H H' : Hp}
mutual
theorem Rep.go (c : Car K N fa H N' fa' H') : ∀ (d : D) (v : V), Rep K N fa H d v → Rep K N' fa' H' d v
  | .non, v, h => by simpa only [Rep] using h
  | .bl b, v, h => by simpa only [Rep] using h
  | .int i, v, h => by simpa only [Rep] using h
  | .str x, v, h => by simpa only [Rep] using h
  | .tup ds, v, h => by
    simp only [Rep] at h ⊢
    obtain ⟨a, xs, e, q, r⟩ := h
    exact ⟨a, xs, e, c.tp a xs q, Reps.go c ds xs r⟩
  | .lst ds, v, h => by
    simp only [Rep] at h ⊢
    obtain ⟨a, xs, e, n, q, r⟩ := h
    obtain ⟨q', n'⟩ := c.ls a xs n q
    exact ⟨a, xs, e, n', q', Reps.go c ds xs r⟩
  | .feed, v, h => by
    simp only [Rep] at h ⊢
    obtain ⟨a, e, q⟩ := h
    exact ⟨a, c.fe a e, q⟩
  | .scr ns, v, h => by
    simp only [Rep] at h ⊢
    obtain ⟨l, a, e, q⟩ := h
    exact ⟨l, a, e, c.fz a _ q⟩
theorem Reps.go (c : Car K N fa H N' fa' H') : ∀ (ds : List D) (xs : List V), Reps K N fa H ds xs → Reps K N' fa' H' ds xs
  | [], xs, h => by simpa only [Reps] using h
  | d :: r, xs, h => by
    simp only [Reps] at h ⊢
    obtain ⟨x, ys, e, h1, h2⟩ := h
    exact ⟨x, ys, e, Rep.go c d x h1, Reps.go c r ys h2⟩
end
theorem Rep.b (hN : ∀ a, fa = some a → N a) {d : D} {v : V} (h : Rep K N fa H d v) : RepB K N fa H d v := by
  cases d with
  | lst ds =>
    simp only [Rep] at h
    obtain ⟨a, xs, e, n, q, r⟩ := h
    exact ⟨a, xs, e, fun z => n (hN a z), q, r⟩
  | _ => simpa only [RepB] using h
/-- .. wherever it lies -/
def RepO (K : PySem.W.Frag) (N : Addr → Prop) (fa : Option Addr) (H : Hp) : D → V → Prop
  | .lst ds, v => ∃ a xs, v = .ref a ∧ H a = some (.lst xs) ∧ Reps K N fa H ds xs
  | d, v => Rep K N fa H d v
theorem Rep.o {d : D} {v : V} (h : Rep K N fa H d v) : RepO K N fa H d v := by
  cases d with
  | lst ds =>
    simp only [Rep] at h
    obtain ⟨a, xs, e, _, q, r⟩ := h
    exact ⟨a, xs, e, q, r⟩
  | _ => simpa only [RepO] using h
theorem RepB.o {d : D} {v : V} (h : RepB K N fa H d v) : RepO K N fa H d v := by
  cases d with
  | lst ds =>
    obtain ⟨a, xs, e, _, q, r⟩ := h
    exact ⟨a, xs, e, q, r⟩
  | _ => simpa only [RepO, RepB] using h
theorem Reps.b (hN : ∀ a, fa = some a → N a) : ∀ {ds : List D} {xs : List V}, Reps K N fa H ds xs → RepBs K N fa H ds xs
  | [], xs, h => by simpa only [Reps, RepBs] using h
  | d :: r, xs, h => by
    simp only [Reps] at h
    obtain ⟨x, ys, e, h1, h2⟩ := h
    exact ⟨x, ys, e, h1.b hN, Reps.b hN h2⟩
theorem Reps.length : ∀ {ds : List D} {xs : List V}, Reps K N fa H ds xs → xs.length = ds.length
  | [], xs, h => by simp only [Reps] at h; subst h; rfl
  | d :: r, xs, h => by
    simp only [Reps] at h
    obtain ⟨x, ys, e, h1, h2⟩ := h
    subst e
    simp [Reps.length h2]
theorem Reps.get : ∀ {ds : List D} {xs : List V} {i : Nat} {d : D}, Reps K N fa H ds xs → ds[i]? = some d → ∃ x, xs[i]? = some x ∧ Rep K N fa H d x
  | [], xs, i, d, h, e => by simp at e
  | d :: r, xs, 0, d', h, e => by
    simp only [Reps] at h
    obtain ⟨x, ys, e1, h1, h2⟩ := h
    simp at e
    subst e1; subst e
    exact ⟨x, rfl, h1⟩
  | d :: r, xs, i + 1, d', h, e => by
    simp only [Reps] at h
    obtain ⟨x, ys, e1, h1, h2⟩ := h
    subst e1
    obtain ⟨y, e2, h3⟩ := Reps.get h2 (by simpa using e)
    exact ⟨y, by simpa using e2, h3⟩
theorem Reps.get' : ∀ {ds : List D} {xs : List V} {i : Nat} {x : V}, Reps K N fa H ds xs → xs[i]? = some x → ∃ d, ds[i]? = some d ∧ Rep K N fa H d x := fun {ds xs i x} h e => by
  have hl := h.length
  have hi : i < xs.length := (List.getElem?_eq_some_iff.mp e).1
  obtain ⟨y, e2, h3⟩ := Reps.get h (List.getElem?_eq_getElem (show i < ds.length by omega))
  rw [e] at e2; cases e2
  exact ⟨_, List.getElem?_eq_getElem (show i < ds.length by omega), h3⟩
theorem Reps.append : ∀ {ds es : List D} {xs ys : List V}, Reps K N fa H ds xs → Reps K N fa H es ys → Reps K N fa H (ds ++ es) (xs ++ ys)
  | [], es, xs, ys, h, q => by simp only [Reps] at h; subst h; simpa using q
  | d :: r, es, xs, ys, h, q => by
    simp only [Reps] at h
    obtain ⟨x, zs, e1, h1, h2⟩ := h
    subst e1
    simp only [List.cons_append, Reps]
    exact ⟨x, _, rfl, h1, Reps.append h2 q⟩
theorem Reps.one {d : D} {x : V} (h : Rep K N fa H d x) : Reps K N fa H [d] [x] := by
  simp only [Reps]
  exact ⟨x, [], rfl, h, rfl⟩
theorem Reps.nil : Reps K N fa H [] [] := by simp only [Reps]
theorem Reps.take : ∀ {ds : List D} {xs : List V} (n : Nat), Reps K N fa H ds xs → Reps K N fa H (ds.take n) (xs.take n)
  | _, _, 0, _ => by simp only [List.take_zero, Reps]
  | [], xs, n + 1, h => by simp only [Reps] at h; subst h; simp only [List.take_nil, Reps]
  | d :: r, xs, n + 1, h => by
    simp only [Reps] at h
    obtain ⟨x, zs, e1, h1, h2⟩ := h
    subst e1
    simp only [List.take_succ_cons, Reps]
    exact ⟨x, _, rfl, h1, Reps.take n h2⟩
theorem Reps.drop : ∀ {ds : List D} {xs : List V} (n : Nat), Reps K N fa H ds xs → Reps K N fa H (ds.drop n) (xs.drop n)
  | _, _, 0, h => by simpa using h
  | [], xs, n + 1, h => by simp only [Reps] at h; subst h; simp only [List.drop_nil, Reps]
  | d :: r, xs, n + 1, h => by
    simp only [Reps] at h
    obtain ⟨x, zs, e1, h1, h2⟩ := h
    subst e1
    simpa using Reps.drop n h2
theorem Reps.ints : ∀ {ns : List Int}, Reps K N fa H (ns.map D.int) (ns.map V.int)
  | [] => by simp only [List.map_nil, Reps]
  | n :: r => by
    simp only [List.map_cons, Reps, Rep]
    exact ⟨_, _, rfl, rfl, Reps.ints⟩
theorem Reps.reverse : ∀ {ds : List D} {xs : List V}, Reps K N fa H ds xs → Reps K N fa H ds.reverse xs.reverse
  | [], xs, h => by simp only [Reps] at h; subst h; simp only [List.reverse_nil, Reps]
  | d :: r, xs, h => by
    simp only [Reps] at h
    obtain ⟨x, zs, e1, h1, h2⟩ := h
    subst e1
    simp only [List.reverse_cons]
    exact Reps.append (Reps.reverse h2) (Reps.one h1)
end

inductive Sl where
  | no | val (d : D) | own (ds : List D)
structure DS where
  sl : List Sl
  fs : Option FS

/-- what no thing may reach: F (the callers' own), the lists that are being built here, the feed -/
def NN (F : Addr → Prop) (fa : Option Addr) (O : List Addr) : Addr → Prop := fun b => F b ∨ b ∈ O ∨ fa = some b

def SlR (K : PySem.W.Frag) (N : Addr → Prop) (fa : Option Addr) (H : Hp) : List Sl → List (Option V) → List Addr → Prop
  | [], σ, O => σ = [] ∧ O = []
  | .no :: r, σ, O => ∃ v τ, σ = v :: τ ∧ SlR K N fa H r τ O
  | .val d :: r, σ, O => ∃ u τ, σ = some u :: τ ∧ Rep K N fa H d u ∧ SlR K N fa H r τ O
  | .own ds :: r, σ, O => ∃ a xs τ P, σ = some (.ref a) :: τ ∧ O = a :: P ∧ H a = some (.lst xs) ∧ Reps K N fa H ds xs ∧ SlR K N fa H r τ P

/-- from one moment to a later one: all that is tracked stays but the feed and the lists that were being built; what is being built later was so or is new -/
structure Stp (fa : Option Addr) (O : List Addr) (H : Hp) (fa' : Option Addr) (O' : List Addr) (H' : Hp) : Prop where
  sub : ∀ b ∈ O', b ∈ O ∨ H b = none
  fe : fa' = fa ∨ (fa = none ∧ ∀ a, fa' = some a → H a = none)
  same : ∀ b u, H b = some u → b ∉ O → fa ≠ some b → H' b = some u
  mon : ∀ b, H' b = none → H b = none
/-- .. an expression's: the lists that are being built stay, too -/
structure StE (fa : Option Addr) (O : List Addr) (H : Hp) (fa' : Option Addr) (O' : List Addr) (H' : Hp) : Prop where
  sub : ∀ b ∈ O', b ∈ O
  fe : fa' = fa ∨ (fa = none ∧ ∀ a, fa' = some a → H a = none)
  same : ∀ b u, H b = some u → fa ≠ some b → H' b = some u
  mon : ∀ b, H' b = none → H b = none

structure DI (K : PySem.W.Frag) (F : Addr → Prop) (H0 : Hp) (fa0 : Option Addr) (σ : St) (H : Hp) (fa : Option Addr) (O : List Addr) (s : DS) : Prop where
  nd : O.Nodup
  sl : SlR K (NN F fa O) fa H s.sl σ O
  fr : ∀ b ∈ O, H0 b = none
  st : Stp fa0 [] H0 fa [] H
  tr : ∀ b, F b → H0 b ≠ none
  ff : ∀ a, fa0 = some a → F a
  fd : FeedR (NN F fa O) H fa s.fs
  nf : ∀ a, fa = some a → a ∉ O

section
variable {fa fa' fa'' : Option Addr} {O O' O'' : List Addr} {H H' H'' : Hp}
theorem StE.stp (h : StE fa O H fa' O' H') : Stp fa O H fa' O' H' := ⟨fun b hb => .inl (h.sub b hb), h.fe, fun b u e _ n => h.same b u e n, h.mon⟩
theorem StE.refl : StE fa O H fa O H := ⟨fun _ h => h, .inl rfl, fun _ _ e _ => e, fun _ h => h⟩
theorem Stp.refl : Stp fa O H fa O H := StE.refl.stp
theorem StE.trans (a : StE fa O H fa' O' H') (b : StE fa' O' H' fa'' O'' H'') : StE fa O H fa'' O'' H'' := by
  refine ⟨fun c hc => a.sub c (b.sub c hc), ?_, fun c u e n => ?_, fun c h => a.mon c (b.mon c h)⟩
  · rcases a.fe with e | ⟨e, h⟩
    · rcases b.fe with e' | ⟨e', h'⟩
      · exact .inl (e'.trans e)
      · exact .inr ⟨e ▸ e', fun c z => a.mon c (h' c z)⟩
    · rcases b.fe with e' | ⟨e', h'⟩
      · exact .inr ⟨e, fun c z => h c (e' ▸ z)⟩
      · exact .inr ⟨e, fun c z => a.mon c (h' c z)⟩
  · refine b.same c u (a.same c u e n) fun z => ?_
    rcases a.fe with q | ⟨q, h⟩
    · rw [q] at z; exact n z
    · rw [h c z] at e; cases e
theorem Stp.trans (a : Stp fa O H fa' O' H') (b : Stp fa' O' H' fa'' O'' H'') : Stp fa O H fa'' O'' H'' := by
  refine ⟨fun c hc => ?_, ?_, fun c u e hc n => ?_, fun c h => a.mon c (b.mon c h)⟩
  · rcases b.sub c hc with q | q
    · exact a.sub c q
    · exact .inr (a.mon c q)
  · rcases a.fe with e | ⟨e, h⟩
    · rcases b.fe with e' | ⟨e', h'⟩
      · exact .inl (e'.trans e)
      · exact .inr ⟨e ▸ e', fun c z => a.mon c (h' c z)⟩
    · rcases b.fe with e' | ⟨e', h'⟩
      · exact .inr ⟨e, fun c z => h c (e' ▸ z)⟩
      · exact .inr ⟨e, fun c z => a.mon c (h' c z)⟩
  · refine b.same c u (a.same c u e hc n) (fun z => ?_) fun z => ?_
    · rcases a.sub c z with q | q
      · exact hc q
      · rw [q] at e; cases e
    · rcases a.fe with q | ⟨q, h⟩
      · rw [q] at z; exact n z
      · rw [h c z] at e; cases e
theorem Stp.fa_keep (a : Stp fa O H fa' O' H') {x : Addr} (h : fa = some x) : fa' = some x := by
  rcases a.fe with e | ⟨e, _⟩
  · rw [e, h]
  · rw [h] at e; cases e
variable {K : PySem.W.Frag} {F : Addr → Prop} {H0 : Hp} {fa0 : Option Addr} {σ : St} {s : DS}
/-- the feed's own address holds nothing frozen -/
theorem FeedR.no_frz {N : Addr → Prop} {fs : Option FS} {a : Addr} {o : Obj} {u : HO} (h : FeedR N H fa fs) (e : fa = some a) (q : H a = some (.frz o u)) : False := by
  subst e
  cases fs with
  | none => exact h
  | some f =>
    obtain ⟨_, c, h1, _⟩ := h
    rw [h1] at q; exact fho_frz (Option.some.inj q)
theorem FeedR.no_tup {N : Addr → Prop} {fs : Option FS} {a : Addr} {xs : List V} (h : FeedR N H fa fs) (e : fa = some a) (z : Rd H a (.tup xs)) : False := by
  rcases z with z | ⟨o, z⟩
  · subst e
    cases fs with
    | none => exact h
    | some f =>
      obtain ⟨_, c, h1, _⟩ := h
      rw [h1] at z; exact fho_tup (Option.some.inj z)
  · exact h.no_frz e z
theorem FeedR.tracked {N : Addr → Prop} {fs : Option FS} {a : Addr} (h : FeedR N H fa fs) (e : fa = some a) : H a ≠ none := by
  subst e
  cases fs with
  | none => exact h.elim
  | some f =>
    obtain ⟨_, c, h1, _⟩ := h
    rw [h1]; simp
theorem SqT.stp' (a : Stp fa O H fa' O' H') (hf : ∀ x, fa = some x → ∀ xs, ¬ Rd H x (.tup xs)) (hO : ∀ x ∈ O, ∀ xs, ¬ Rd H x (.tup xs)) {b : Addr} {xs : List V} (h : SqT K H b xs) : SqT K H' b xs := by
  rcases h with h | h
  · refine .inl ?_
    have n1 : b ∉ O := fun z => hO b z xs h
    have n2 : fa ≠ some b := fun z => hf b z xs h
    rcases h with h | ⟨o, h⟩
    · exact .inl (a.same _ _ h n1 n2)
    · exact .inr ⟨o, a.same _ _ h n1 n2⟩
  · exact .inr h
theorem SlR.owned : ∀ {sl : List Sl} {N : Addr → Prop} {σ : List (Option V)} {O : List Addr}, SlR K N fa H sl σ O → ∀ b ∈ O, ∃ xs, H b = some (.lst xs)
  | [], N, σ, O, h, b, hb => by simp only [SlR] at h; rw [h.2] at hb; cases hb
  | .no :: r, N, σ, O, h, b, hb => by
    simp only [SlR] at h
    obtain ⟨v, τ, _, h⟩ := h
    exact SlR.owned h b hb
  | .val d :: r, N, σ, O, h, b, hb => by
    simp only [SlR] at h
    obtain ⟨v, τ, _, _, h⟩ := h
    exact SlR.owned h b hb
  | .own ds :: r, N, σ, O, h, b, hb => by
    simp only [SlR] at h
    obtain ⟨a, xs, τ, P, _, rfl, e, _, h⟩ := h
    rcases List.mem_cons.mp hb with z | z
    · subst z; exact ⟨xs, e⟩
    · exact SlR.owned h b z
theorem DI.owned (I : DI K F H0 fa0 σ H fa O s) {b : Addr} (hb : b ∈ O) : ∃ xs, H b = some (.lst xs) := SlR.owned I.sl b hb
theorem DI.trF (I : DI K F H0 fa0 σ H fa O s) {b : Addr} (hb : F b) : H b ≠ none := fun z => I.tr b hb (I.st.mon b z)
theorem DI.nn_tracked (I : DI K F H0 fa0 σ H fa O s) {b : Addr} (h : NN F fa O b) : H b ≠ none := by
  rcases h with h | h | h
  · exact I.trF h
  · obtain ⟨xs, e⟩ := I.owned h
    rw [e]; simp
  · exact I.fd.tracked h
theorem DI.nf_step (I : DI K F H0 fa0 σ H fa O s) (h : fa' = fa ∨ (fa = none ∧ ∀ a, fa' = some a → H a = none)) : ∀ a, fa' = some a → a ∉ O := fun a e m => by
  rcases h with z | ⟨z, y⟩
  · rw [z] at e; exact I.nf a e m
  · obtain ⟨xs, q⟩ := I.owned m
    rw [y a e] at q; cases q
/-- what carries over a step -/
theorem DI.car (I : DI K F H0 fa0 σ H fa O s) (a : Stp fa O H fa' O' H') : Car K (NN F fa O) fa H (NN F fa' O') fa' H' := by
  have nt : ∀ x xs, H x = some (.lst xs) → ∀ ys, ¬ Rd H x (.tup ys) := fun x xs e ys z => by
    rcases z with z | ⟨o, z⟩ <;> · rw [e] at z; cases z
  refine ⟨fun b xs n q => ?_, fun b xs q => ?_, fun b xs q => ?_, fun x e => a.fa_keep e⟩
  · have n1 : b ∉ O := fun z => n (.inr (.inl z))
    have n2 : fa ≠ some b := fun z => n (.inr (.inr z))
    have tr : H b ≠ none := by rw [q]; simp
    refine ⟨a.same _ _ q n1 n2, fun z => ?_⟩
    · rcases z with z | z | z
      · exact n (.inl z)
      · rcases a.sub b z with y | y
        · exact n1 y
        · exact tr y
      · rcases a.fe with e | ⟨e, h⟩
        · rw [e] at z; exact n2 z
        · exact tr (h b z)
  · refine SqT.stp' a (fun x e ys z => ?_) (fun x hx ys => ?_) q
    · exact I.fd.no_tup e z
    · obtain ⟨xs, e⟩ := I.owned hx
      exact nt x xs e ys
  · rcases q with ⟨o, q⟩ | q
    · refine .inl ⟨o, a.same _ _ q (fun z => ?_) fun z => ?_⟩
      · obtain ⟨ys, e⟩ := I.owned z
        rw [e] at q; cases q
      · exact I.fd.no_frz z q
    · exact .inr q
end
end DL

namespace DL
open PySem PySem.Spec L2

/-- what stands fixed through a def's body -/
structure Gh where
  F : Addr → Prop
  H0 : Hp
  fa0 : Option Addr
abbrev GI (K : PySem.W.Frag) (g : Gh) := DI K g.F g.H0 g.fa0

section
variable {K : PySem.W.Frag} {N N' : Addr → Prop} {fa fa' : Option Addr} {H H' : Hp} {g : Gh} {σ : L2.St} {O O' : List Addr} {s : DS}
theorem SlR.go (c : Car K N fa H N' fa' H') : ∀ {sl : List Sl} {σ : List (Option V)} {O : List Addr}, (∀ a xs, a ∈ O → H a = some (.lst xs) → H' a = some (.lst xs)) → SlR K N fa H sl σ O → SlR K N' fa' H' sl σ O
  | [], σ, O, _, h => by simpa only [SlR] using h
  | .no :: r, σ, O, ho, h => by
    simp only [SlR] at h ⊢
    obtain ⟨v, τ, e, h⟩ := h
    exact ⟨v, τ, e, SlR.go c ho h⟩
  | .val d :: r, σ, O, ho, h => by
    simp only [SlR] at h ⊢
    obtain ⟨u, τ, e, q, h⟩ := h
    exact ⟨u, τ, e, Rep.go c d u q, SlR.go c ho h⟩
  | .own ds :: r, σ, O, ho, h => by
    simp only [SlR] at h ⊢
    obtain ⟨a, xs, τ, P, e, rfl, ha, q, h⟩ := h
    exact ⟨a, xs, τ, P, e, rfl, ho a xs (List.mem_cons_self ..) ha, Reps.go c ds xs q, SlR.go c (fun b ys hb => ho b ys (List.mem_cons_of_mem _ hb)) h⟩
theorem SlR.val : ∀ {sl : List Sl} {σ : List (Option V)} {O : List Addr} {i : Nat} {d : D}, SlR K N fa H sl σ O → sl[i]? = some (.val d) → ∃ u, σ[i]? = some (some u) ∧ Rep K N fa H d u
  | [], σ, O, i, d, h, e => by simp at e
  | .no :: r, σ, O, i, d, h, e => by
    simp only [SlR] at h
    obtain ⟨v, τ, rfl, h⟩ := h
    cases i with
    | zero => simp at e
    | succ i => simpa using SlR.val h (by simpa using e)
  | .val d' :: r, σ, O, i, d, h, e => by
    simp only [SlR] at h
    obtain ⟨u, τ, rfl, q, h⟩ := h
    cases i with
    | zero => simp at e; subst e; exact ⟨u, rfl, q⟩
    | succ i => simpa using SlR.val h (by simpa using e)
  | .own ds :: r, σ, O, i, d, h, e => by
    simp only [SlR] at h
    obtain ⟨a, xs, τ, P, rfl, rfl, ha, q, h⟩ := h
    cases i with
    | zero => simp at e
    | succ i => simpa using SlR.val h (by simpa using e)
theorem SlR.own : ∀ {sl : List Sl} {σ : List (Option V)} {O : List Addr} {i : Nat} {ds : List D}, SlR K N fa H sl σ O → sl[i]? = some (.own ds) → ∃ a xs, σ[i]? = some (some (.ref a)) ∧ a ∈ O ∧ H a = some (.lst xs) ∧ Reps K N fa H ds xs
  | [], σ, O, i, d, h, e => by simp at e
  | .no :: r, σ, O, i, d, h, e => by
    simp only [SlR] at h
    obtain ⟨v, τ, rfl, h⟩ := h
    cases i with
    | zero => simp at e
    | succ i => simpa using SlR.own h (by simpa using e)
  | .val d' :: r, σ, O, i, d, h, e => by
    simp only [SlR] at h
    obtain ⟨u, τ, rfl, q, h⟩ := h
    cases i with
    | zero => simp at e
    | succ i => simpa using SlR.own h (by simpa using e)
  | .own ds :: r, σ, O, i, d, h, e => by
    simp only [SlR] at h
    obtain ⟨a, xs, τ, P, rfl, rfl, ha, q, h⟩ := h
    cases i with
    | zero => simp at e; subst e; exact ⟨a, xs, rfl, List.mem_cons_self .., ha, q⟩
    | succ i =>
      obtain ⟨b, ys, e1, m, e2, q2⟩ := SlR.own h (by simpa using e)
      exact ⟨b, ys, by simpa using e1, List.mem_cons_of_mem _ m, e2, q2⟩
theorem SlR.len : ∀ {sl : List Sl} {σ : List (Option V)} {O : List Addr}, SlR K N fa H sl σ O → σ.length = sl.length
  | [], σ, O, h => by simp only [SlR] at h; rw [h.1]; rfl
  | .no :: r, σ, O, h => by
    simp only [SlR] at h
    obtain ⟨v, τ, rfl, h⟩ := h
    simp [SlR.len h]
  | .val d' :: r, σ, O, h => by
    simp only [SlR] at h
    obtain ⟨u, τ, rfl, q, h⟩ := h
    simp [SlR.len h]
  | .own ds :: r, σ, O, h => by
    simp only [SlR] at h
    obtain ⟨a, xs, τ, P, rfl, rfl, ha, q, h⟩ := h
    simp [SlR.len h]
/-- a slot takes a thing: what was being built there is let go -/
theorem SlR.put : ∀ {sl : List Sl} {σ : List (Option V)} {O : List Addr} (i : Nat) {d : D} {u : V}, SlR K N fa H sl σ O → Rep K N fa H d u →
    ∃ P, P.Sublist O ∧ SlR K N fa H (sl.set i (.val d)) (σ.set i (some u)) P ∧ (O.Nodup → ∀ a, sl[i]?.isSome = true → (∃ ds, sl[i]? = some (.own ds)) → σ[i]? = some (some (.ref a)) → a ∉ P)
  | [], σ, O, i, d, u, h, q => by
    simp only [SlR] at h
    refine ⟨O, List.Sublist.refl _, ?_, fun _ a z => by simp at z⟩
    rw [h.1, h.2]
    simp [SlR]
  | .no :: r, σ, O, i, d, u, h, q => by
    simp only [SlR] at h
    obtain ⟨v, τ, rfl, h⟩ := h
    cases i with
    | zero => exact ⟨O, List.Sublist.refl _, by simp only [List.set_cons_zero, SlR]; exact ⟨u, τ, rfl, q, h⟩, fun _ a _ z => by obtain ⟨ds, z⟩ := z; simp at z⟩
    | succ i =>
      obtain ⟨P, hs, h1, h2⟩ := SlR.put i h q
      exact ⟨P, hs, by simp only [List.set_cons_succ, SlR]; exact ⟨v, _, rfl, h1⟩, by simpa using h2⟩
  | .val d' :: r, σ, O, i, d, u, h, q => by
    simp only [SlR] at h
    obtain ⟨v, τ, rfl, qv, h⟩ := h
    cases i with
    | zero => exact ⟨O, List.Sublist.refl _, by simp only [List.set_cons_zero, SlR]; exact ⟨u, τ, rfl, q, h⟩, fun _ a _ z => by obtain ⟨ds, z⟩ := z; simp at z⟩
    | succ i =>
      obtain ⟨P, hs, h1, h2⟩ := SlR.put i h q
      exact ⟨P, hs, by simp only [List.set_cons_succ, SlR]; exact ⟨v, _, rfl, qv, h1⟩, by simpa using h2⟩
  | .own ds :: r, σ, O, i, d, u, h, q => by
    simp only [SlR] at h
    obtain ⟨a, xs, τ, P, rfl, rfl, ha, qv, h⟩ := h
    cases i with
    | zero =>
      refine ⟨P, List.sublist_cons_self .., by simp only [List.set_cons_zero, SlR]; exact ⟨u, τ, rfl, q, h⟩, fun nd b _ _ e => ?_⟩
      simp at e; subst e
      exact (List.nodup_cons.mp nd).1
    | succ i =>
      obtain ⟨P', hs, h1, h2⟩ := SlR.put i h q
      refine ⟨a :: P', hs.cons_cons a, by simp only [List.set_cons_succ, SlR]; exact ⟨a, xs, _, P', rfl, rfl, ha, qv, h1⟩, fun nd b e1 e2 e3 => ?_⟩
      have nd' := List.nodup_cons.mp nd
      have n1 := h2 nd'.2 b (by simpa using e1) (by simpa using e2) (by simpa using e3)
      intro z
      rcases List.mem_cons.mp z with z | z
      · subst z
        obtain ⟨dz, e2⟩ := e2
        obtain ⟨b', _, e4, m, _⟩ := SlR.own h (i := i) (by simpa using e2)
        rw [List.getElem?_cons_succ] at e3
        rw [e3] at e4
        cases e4
        exact nd'.1 m
      · exact n1 z
/-- a slot takes a new list -/
theorem SlR.putN : ∀ {sl : List Sl} {σ : List (Option V)} {O : List Addr} (i : Nat) {ds : List D} {p : Addr} {xs : List V}, SlR K N fa H sl σ O → i < sl.length → p ∉ O → O.Nodup → H p = some (.lst xs) → Reps K N fa H ds xs →
    ∃ P, (∀ b ∈ P, b = p ∨ b ∈ O) ∧ P.Nodup ∧ SlR K N fa H (sl.set i (.own ds)) (σ.set i (some (.ref p))) P
  | [], σ, O, i, ds, p, xs, h, hi, hp, nd, e, q => by simp at hi
  | .no :: r, σ, O, i, ds, p, xs, h, hi, hp, nd, e, q => by
    simp only [SlR] at h
    obtain ⟨v, τ, rfl, h⟩ := h
    cases i with
    | zero => exact ⟨p :: O, fun b hb => List.mem_cons.mp hb, List.nodup_cons.mpr ⟨hp, nd⟩, by simp only [List.set_cons_zero, SlR]; exact ⟨p, xs, τ, O, rfl, rfl, e, q, h⟩⟩
    | succ i =>
      obtain ⟨P, h1, h2, h3⟩ := SlR.putN i h (by simpa using hi) hp nd e q
      exact ⟨P, h1, h2, by simp only [List.set_cons_succ, SlR]; exact ⟨v, _, rfl, h3⟩⟩
  | .val d' :: r, σ, O, i, ds, p, xs, h, hi, hp, nd, e, q => by
    simp only [SlR] at h
    obtain ⟨v, τ, rfl, qv, h⟩ := h
    cases i with
    | zero => exact ⟨p :: O, fun b hb => List.mem_cons.mp hb, List.nodup_cons.mpr ⟨hp, nd⟩, by simp only [List.set_cons_zero, SlR]; exact ⟨p, xs, τ, O, rfl, rfl, e, q, h⟩⟩
    | succ i =>
      obtain ⟨P, h1, h2, h3⟩ := SlR.putN i h (by simpa using hi) hp nd e q
      exact ⟨P, h1, h2, by simp only [List.set_cons_succ, SlR]; exact ⟨v, _, rfl, qv, h3⟩⟩
  | .own ds' :: r, σ, O, i, ds, p, xs, h, hi, hp, nd, e, q => by
    simp only [SlR] at h
    obtain ⟨a, ys, τ, P, rfl, rfl, ha, qv, h⟩ := h
    have nd' := List.nodup_cons.mp nd
    cases i with
    | zero =>
      refine ⟨p :: P, fun b hb => (List.mem_cons.mp hb).imp id fun z => List.mem_cons_of_mem _ z, List.nodup_cons.mpr ⟨fun z => hp (List.mem_cons_of_mem _ z), nd'.2⟩, ?_⟩
      simp only [List.set_cons_zero, SlR]
      exact ⟨p, xs, τ, P, rfl, rfl, e, q, h⟩
    | succ i =>
      obtain ⟨P', h1, h2, h3⟩ := SlR.putN i h (by simpa using hi) (fun z => hp (List.mem_cons_of_mem _ z)) nd'.2 e q
      refine ⟨a :: P', fun b hb => ?_, List.nodup_cons.mpr ⟨fun z => ?_, h2⟩, by simp only [List.set_cons_succ, SlR]; exact ⟨a, ys, _, P', rfl, rfl, ha, qv, h3⟩⟩
      · rcases List.mem_cons.mp hb with z | z
        · exact .inr (by rw [z]; exact List.mem_cons_self ..)
        · exact (h1 b z).imp id fun y => List.mem_cons_of_mem _ y
      · rcases h1 a z with y | y
        · exact hp (by rw [y]; exact List.mem_cons_self ..)
        · exact nd'.1 y
/-- the list of a slot is rewritten -/
theorem SlR.rew : ∀ {sl : List Sl} {σ : List (Option V)} {O : List Addr} {i : Nat} {ds es : List D} {a : Addr} {ys : List V}, SlR K N fa H sl σ O → O.Nodup → (∀ b ∈ O, N b) → sl[i]? = some (.own ds) → σ[i]? = some (some (.ref a)) → H' a = some (.lst ys) →
    Car K N fa H N fa H' → (∀ b u, b ≠ a → H b = some u → H' b = some u) → Reps K N fa H' es ys → SlR K N fa H' (sl.set i (.own es)) σ O
  | [], σ, O, i, ds, es, a, ys, h, nd, hN, e1, e2, e3, c, k, q => by simp at e1
  | .no :: r, σ, O, i, ds, es, a, ys, h, nd, hN, e1, e2, e3, c, k, q => by
    simp only [SlR] at h
    obtain ⟨v, τ, rfl, h⟩ := h
    cases i with
    | zero => simp at e1
    | succ i => simp only [List.set_cons_succ, SlR]; exact ⟨v, τ, rfl, SlR.rew h nd hN (by simpa using e1) (by simpa using e2) e3 c k q⟩
  | .val d' :: r, σ, O, i, ds, es, a, ys, h, nd, hN, e1, e2, e3, c, k, q => by
    simp only [SlR] at h
    obtain ⟨v, τ, rfl, qv, h⟩ := h
    cases i with
    | zero => simp at e1
    | succ i => simp only [List.set_cons_succ, SlR]; exact ⟨v, τ, rfl, Rep.go c _ _ qv, SlR.rew h nd hN (by simpa using e1) (by simpa using e2) e3 c k q⟩
  | .own ds' :: r, σ, O, i, ds, es, a, ys, h, nd, hN, e1, e2, e3, c, k, q => by
    simp only [SlR] at h
    obtain ⟨b, zs, τ, P, rfl, rfl, ha, qv, h⟩ := h
    have nd' := List.nodup_cons.mp nd
    cases i with
    | zero =>
      simp at e2
      subst e2
      simp only [List.set_cons_zero, SlR]
      exact ⟨b, ys, τ, P, rfl, rfl, e3, q, SlR.go c (fun x xs hx z => k x _ (fun y => nd'.1 (y ▸ hx)) z) h⟩
    | succ i =>
      have nb : b ≠ a := fun z => by
        obtain ⟨a', _, e4, m, _⟩ := SlR.own h (i := i) (by simpa using e1)
        rw [List.getElem?_cons_succ] at e2
        rw [e2] at e4
        cases e4
        exact nd'.1 (z ▸ m)
      simp only [List.set_cons_succ, SlR]
      exact ⟨b, zs, τ, P, rfl, rfl, k b _ nb ha, Reps.go c _ _ qv, SlR.rew h nd'.2 (fun x hx => hN x (List.mem_cons_of_mem _ hx)) (by simpa using e1) (by simpa using e2) e3 c k q⟩

theorem RepB.stp {d : D} {v : V} (I : GI K g σ H fa O s) (a : StE fa O H fa' O' H') (h : RepB K (NN g.F fa O) fa H d v) : RepB K (NN g.F fa' O') fa' H' d v := by
  have c := I.car a.stp
  cases d with
  | lst ds =>
    obtain ⟨x, xs, e, nf, q, r⟩ := h
    refine ⟨x, xs, e, fun z => ?_, a.same _ _ q nf, Reps.go c ds xs r⟩
    rcases a.fe with y | ⟨_, y⟩
    · rw [y] at z; exact nf z
    · rw [y x z] at q; cases q
  | _ =>
    simp only [RepB] at h ⊢
    exact Rep.go c _ _ h
theorem RepBs.stp (I : GI K g σ H fa O s) (a : StE fa O H fa' O' H') : ∀ {ds : List D} {xs : List V}, RepBs K (NN g.F fa O) fa H ds xs → RepBs K (NN g.F fa' O') fa' H' ds xs
  | [], xs, h => by simpa only [RepBs] using h
  | d :: r, xs, h => by
    obtain ⟨x, ys, e, h1, h2⟩ := h
    exact ⟨x, ys, e, RepB.stp I a h1, RepBs.stp I a h2⟩
theorem Rep.stp {d : D} {v : V} (I : GI K g σ H fa O s) (a : Stp fa O H fa' O' H') (h : Rep K (NN g.F fa O) fa H d v) : Rep K (NN g.F fa' O') fa' H' d v := Rep.go (I.car a) d v h
theorem Reps.stp {ds : List D} {xs : List V} (I : GI K g σ H fa O s) (a : Stp fa O H fa' O' H') (h : Reps K (NN g.F fa O) fa H ds xs) : Reps K (NN g.F fa' O') fa' H' ds xs := Reps.go (I.car a) ds xs h

theorem stE_new {p : Addr} {o : HO} (h : H p = none) : StE fa O H fa O (upd H p o) :=
  ⟨fun _ h => h, .inl rfl, fun b u e _ => by rw [upd_ne (ne_of_none e h)]; exact e, fun b z => by
    by_cases hb : b = p
    · subst hb; exact h
    · rw [upd_ne hb] at z; exact z⟩
theorem FeedR.car {fs : Option FS} (c : Car K N fa H N' fa H') (h : ∀ a, fa = some a → H' a = H a) (f : FeedR N H fa fs) : FeedR N' H' fa fs := by
  cases fa with
  | none => cases fs <;> simpa only [FeedR] using f
  | some a =>
    cases fs with
    | none => simpa only [FeedR] using f
    | some x =>
      simp only [FeedR] at f ⊢
      obtain ⟨l, b, h1, h2, h3⟩ := f
      obtain ⟨q, n⟩ := c.ls b _ h2 h3
      exact ⟨l, b, by rw [h a rfl]; exact h1, n, q⟩
theorem FeedR.same_new {fs : Option FS} {p : Addr} {o : HO} (f : FeedR N H fa fs) (h : H p = none) : ∀ a, fa = some a → upd H p o a = H a := fun a e => upd_ne fun z => f.tracked e (z ▸ h)
theorem DI.new {p : Addr} {o : HO} (I : GI K g σ H fa O s) (h : H p = none) : GI K g σ (upd H p o) fa O s := by
  have a : StE fa O H fa O (upd H p o) := stE_new h
  refine ⟨I.nd, SlR.go (I.car a.stp) (fun b xs hb e => ?_) I.sl, I.fr, I.st.trans ((stE_new (O := []) h).stp), I.tr, I.ff, I.fd.car (I.car a.stp) (I.fd.same_new h), I.nf⟩
  rw [upd_ne (ne_of_none e h)]; exact e
end

abbrev DE := DS → Option (D × DS)
abbrev DT := DS → Option (Bool × DS)
abbrev DA := DS → Option (List D × DS)
inductive Fl where
  | next | brk | cont | ret (d : D)
abbrev DM := DS → Option (Fl × DS)

/-- a list at p that nothing reaches yet -/
structure NewL (K : PySem.W.Frag) (g : Gh) (σ : L2.St) (H : Hp) (fa : Option Addr) (O : List Addr) (s : DS) (p : Addr) (xs : List V) (ds : List D) : Prop where
  gi : GI K g σ H fa O s
  ls : H p = some (.lst xs)
  sl : SlR K (fun b => NN g.F fa O b ∨ b = p) fa H s.sl σ O
  fd : FeedR (fun b => NN g.F fa O b ∨ b = p) H fa s.fs
  rs : Reps K (fun b => NN g.F fa O b ∨ b = p) fa H ds xs
  nf : fa ≠ some p
section
variable (K : PySem.W.Frag) (g : Gh)
def liftE (f : DE) : TE := fun σ H Q => ∃ fa O s d s', GI K g σ H fa O s ∧ f s = some (d, s') ∧
  ∀ v H' fa' O', StE fa O H fa' O' H' → GI K g σ H' fa' O' s' → Rep K (NN g.F fa' O') fa' H' d v → Q v H'
def liftB (f : DE) : TE := fun σ H Q => ∃ fa O s d s', GI K g σ H fa O s ∧ f s = some (d, s') ∧
  ∀ v H' fa' O', StE fa O H fa' O' H' → GI K g σ H' fa' O' s' → RepB K (NN g.F fa' O') fa' H' d v → Q v H'
/-- a new list -/
def liftF (f : DA) : TE := fun σ H Q => ∃ fa O s ds s', GI K g σ H fa O s ∧ f s = some (ds, s') ∧
  ∀ p xs H' fa' O', StE fa O H fa' O' H' → NewL K g σ H' fa' O' s' p xs ds → H p = none → Q (.ref p) H'
def liftT (f : DT) : TT := fun σ H Q => ∃ fa O s d s', GI K g σ H fa O s ∧ f s = some (d, s') ∧
  ∀ H' fa' O', StE fa O H fa' O' H' → GI K g σ H' fa' O' s' → Q d H'
def liftA (f : DA) : TA := fun σ H Q => ∃ fa O s ds s', GI K g σ H fa O s ∧ f s = some (ds, s') ∧
  ∀ vs H' fa' O', StE fa O H fa' O' H' → GI K g σ H' fa' O' s' → Reps K (NN g.F fa' O') fa' H' ds vs → Q vs H'
def liftBA (f : DA) : TA := fun σ H Q => ∃ fa O s ds s', GI K g σ H fa O s ∧ f s = some (ds, s') ∧
  ∀ vs H' fa' O', StE fa O H fa' O' H' → GI K g σ H' fa' O' s' → RepBs K (NN g.F fa' O') fa' H' ds vs → Q vs H'
def FlK (E : Ends) (fa : Option Addr) (O : List Addr) (H : Hp) (fl : Fl) (s' : DS) : Prop :=
  match fl with
  | .next => ∀ σ' H' fa' O', Stp fa O H fa' O' H' → GI K g σ' H' fa' O' s' → E.nx σ' H'
  | .brk => ∀ σ' H' fa' O', Stp fa O H fa' O' H' → GI K g σ' H' fa' O' s' → E.bk σ' H'
  | .cont => ∀ σ' H' fa' O', Stp fa O H fa' O' H' → GI K g σ' H' fa' O' s' → E.ct σ' H'
  | .ret d => ∀ σ' v H' fa' O', Stp fa O H fa' O' H' → GI K g σ' H' fa' O' s' → Rep K (NN g.F fa' O') fa' H' d v → E.rt v H'
def liftS (f : DM) : TS := fun E σ H => ∃ fa O s fl s', GI K g σ H fa O s ∧ f s = some (fl, s') ∧ FlK K g E fa O H fl s'
end
section
variable {K : PySem.W.Frag} {g : Gh} {σ : L2.St} {H : Hp} {G : Prop}
theorem liftE.elim {f : DE} {Q : VK} (h : liftE K g f σ H Q) (k : ∀ fa O s d s', GI K g σ H fa O s → f s = some (d, s') → (∀ v H' fa' O', StE fa O H fa' O' H' → GI K g σ H' fa' O' s' → Rep K (NN g.F fa' O') fa' H' d v → Q v H') → G) : G := by
  obtain ⟨fa, O, s, d, s', a, b, c⟩ := h
  exact k fa O s d s' a b c
theorem liftB.elim {f : DE} {Q : VK} (h : liftB K g f σ H Q) (k : ∀ fa O s d s', GI K g σ H fa O s → f s = some (d, s') → (∀ v H' fa' O', StE fa O H fa' O' H' → GI K g σ H' fa' O' s' → RepB K (NN g.F fa' O') fa' H' d v → Q v H') → G) : G := by
  obtain ⟨fa, O, s, d, s', a, b, c⟩ := h
  exact k fa O s d s' a b c
theorem liftF.elim {f : DA} {Q : VK} (h : liftF K g f σ H Q) (k : ∀ fa O s d s', GI K g σ H fa O s → f s = some (d, s') → (∀ p xs H' fa' O', StE fa O H fa' O' H' → NewL K g σ H' fa' O' s' p xs d → H p = none → Q (.ref p) H') → G) : G := by
  obtain ⟨fa, O, s, d, s', a, b, c⟩ := h
  exact k fa O s d s' a b c
theorem liftT.elim {f : DT} {Q : Bool → Hp → Prop} (h : liftT K g f σ H Q) (k : ∀ fa O s d s', GI K g σ H fa O s → f s = some (d, s') → (∀ H' fa' O', StE fa O H fa' O' H' → GI K g σ H' fa' O' s' → Q d H') → G) : G := by
  obtain ⟨fa, O, s, d, s', a, b, c⟩ := h
  exact k fa O s d s' a b c
theorem liftA.elim {f : DA} {Q : List V → Hp → Prop} (h : liftA K g f σ H Q) (k : ∀ fa O s d s', GI K g σ H fa O s → f s = some (d, s') → (∀ vs H' fa' O', StE fa O H fa' O' H' → GI K g σ H' fa' O' s' → Reps K (NN g.F fa' O') fa' H' d vs → Q vs H') → G) : G := by
  obtain ⟨fa, O, s, d, s', a, b, c⟩ := h
  exact k fa O s d s' a b c
theorem liftBA.elim {f : DA} {Q : List V → Hp → Prop} (h : liftBA K g f σ H Q) (k : ∀ fa O s d s', GI K g σ H fa O s → f s = some (d, s') → (∀ vs H' fa' O', StE fa O H fa' O' H' → GI K g σ H' fa' O' s' → RepBs K (NN g.F fa' O') fa' H' d vs → Q vs H') → G) : G := by
  obtain ⟨fa, O, s, d, s', a, b, c⟩ := h
  exact k fa O s d s' a b c
theorem liftS.elim {f : DM} {E : Ends} (h : liftS K g f E σ H) (k : ∀ fa O s d s', GI K g σ H fa O s → f s = some (d, s') → (FlK K g E fa O H d s') → G) : G := by
  obtain ⟨fa, O, s, d, s', a, b, c⟩ := h
  exact k fa O s d s' a b c
end
structure EO (X : Cx) (g : Gh) (e : Expr) (f : DE) : Prop where
  pe : PE X e (liftE X.K g f)
structure BO (X : Cx) (g : Gh) (e : Expr) (f : DE) : Prop where
  pe : PE X e (liftB X.K g f)
structure FO (X : Cx) (g : Gh) (e : Expr) (f : DA) : Prop where
  pe : PE X e (liftF X.K g f)
structure TO (X : Cx) (g : Gh) (e : Expr) (f : DT) : Prop where
  pe : PT X e (liftT X.K g f)
structure WO (X : Cx) (g : Gh) (e : Expr) (f : DT) : Prop where
  pe : PW X e (liftT X.K g f)
structure AO (X : Cx) (g : Gh) (es : List Expr) (f : DA) : Prop where
  pe : PA X es (liftA X.K g f)
structure BAO (X : Cx) (g : Gh) (es : List Expr) (f : DA) : Prop where
  pe : PA X es (liftBA X.K g f)
structure SO (X : Cx) (g : Gh) (st : Stmt) (f : DM) : Prop where
  pe : PS X st (liftS X.K g f)
structure SSO (X : Cx) (g : Gh) (st : List Stmt) (f : DM) : Prop where
  pe : PSs X st (liftS X.K g f)

section
variable {X : Cx} {g : Gh} {e : Expr} {f : DE}
theorem PEw {t t' : TE} (h : PE X e t) (w : ∀ σ H Q, t' σ H Q → t σ H Q) : PE X e t' := fun pins s σ H Q I q => h pins s σ H Q I (w σ H Q q)
theorem PTw {t t' : TT} (h : PT X e t) (w : ∀ σ H Q, t' σ H Q → t σ H Q) : PT X e t' := fun pins s σ H Q I q => h pins s σ H Q I (w σ H Q q)
theorem PWw {t t' : TT} (h : PW X e t) (w : ∀ σ H Q, t' σ H Q → t σ H Q) : PW X e t' := fun wh pins s σ H Q I q => h wh pins s σ H Q I (w σ H Q q)
theorem PAw {es : List Expr} {t t' : TA} (h : PA X es t) (w : ∀ σ H Q, t' σ H Q → t σ H Q) : PA X es t' := fun pos pins s σ H Q I q => h pos pins s σ H Q I (w σ H Q q)
theorem PSw {st : Stmt} {t t' : TS} (h : PS X st t) (w : ∀ E σ H, t' E σ H → t E σ H) : PS X st t' := fun pins s σ H E I q => h pins s σ H E I (w E σ H q)
theorem PSsw {st : List Stmt} {t t' : TS} (h : PSs X st t) (w : ∀ E σ H, t' E σ H → t E σ H) : PSs X st t' := fun pins s σ H E I q => h pins s σ H E I (w E σ H q)
theorem EO.w {f : DE} {t : TE} (h : PE X e t) (w : ∀ σ H Q, liftE X.K g f σ H Q → t σ H Q) : EO X g e f := ⟨PEw h w⟩
theorem BO.w {f : DE} {t : TE} (h : PE X e t) (w : ∀ σ H Q, liftB X.K g f σ H Q → t σ H Q) : BO X g e f := ⟨PEw h w⟩
theorem FO.w {f : DA} {t : TE} (h : PE X e t) (w : ∀ σ H Q, liftF X.K g f σ H Q → t σ H Q) : FO X g e f := ⟨PEw h w⟩
theorem TO.w {f : DT} {t : TT} (h : PT X e t) (w : ∀ σ H Q, liftT X.K g f σ H Q → t σ H Q) : TO X g e f := ⟨PTw h w⟩
theorem WO.w {f : DT} {t : TT} (h : PW X e t) (w : ∀ σ H Q, liftT X.K g f σ H Q → t σ H Q) : WO X g e f := ⟨PWw h w⟩
theorem AO.w {es : List Expr} {f : DA} {t : TA} (h : PA X es t) (w : ∀ σ H Q, liftA X.K g f σ H Q → t σ H Q) : AO X g es f := ⟨PAw h w⟩
theorem BAO.w {es : List Expr} {f : DA} {t : TA} (h : PA X es t) (w : ∀ σ H Q, liftBA X.K g f σ H Q → t σ H Q) : BAO X g es f := ⟨PAw h w⟩
theorem SO.w {st : Stmt} {f : DM} {t : TS} (h : PS X st t) (w : ∀ E σ H, liftS X.K g f E σ H → t E σ H) : SO X g st f := ⟨PSw h w⟩
theorem SSO.w {st : List Stmt} {f : DM} {t : TS} (h : PSs X st t) (w : ∀ E σ H, liftS X.K g f E σ H → t E σ H) : SSO X g st f := ⟨PSsw h w⟩
theorem EO.b (h : EO X g e f) : BO X g e f := BO.w h.pe fun σ H Q ⟨fa, O, s, d, s', I, e, k⟩ => ⟨fa, O, s, d, s', I, e, fun v H' fa' O' a I' r => k v H' fa' O' a I' (r.b fun _ z => .inr (.inr z))⟩
def dNew (f : DA) : DE := fun s => (f s).map fun p => (.lst p.1, p.2)
theorem new_out {K : PySem.W.Frag} {σ : L2.St} {H H' : Hp} {fa fa' : Option Addr} {O O' : List Addr} {s s' : DS} {p : Addr} (I : GI K g σ H fa O s) (a : StE fa O H fa' O' H') (I' : GI K g σ H' fa' O' s') (e : H p = none) (e' : fa' ≠ some p) : ¬ NN g.F fa' O' p := by
  rintro (z | z | z)
  · exact I.trF z e
  · obtain ⟨ys, q⟩ := I.owned (a.sub p z)
    rw [e] at q; cases q
  · exact e' z
theorem FO.v {f : DA} (h : FO X g e f) : EO X g e (dNew f) := EO.w h.pe fun σ H Q hQ => by
  refine hQ.elim fun fa O s d s' I e k => ?_
  simp only [dNew] at e
  cases q : f s with
  | none => rw [q] at e; cases e
  | some p =>
    obtain ⟨ds, s1⟩ := p
    rw [q] at e
    simp only [Option.map_some, Option.some.injEq, Prod.mk.injEq] at e
    obtain ⟨e1, e2⟩ := e
    subst e1; subst e2
    refine ⟨fa, O, s, ds, s1, I, q, fun p xs H' fa' O' a L e1 => k _ H' fa' O' a L.gi ?_⟩
    simp only [Rep]
    exact ⟨p, xs, rfl, new_out I a L.gi e1 L.nf, L.ls, Reps.go ⟨fun b ys n q => ⟨q, fun z => n (.inl z)⟩, fun _ _ q => q, fun _ _ q => q, fun _ q => q⟩ ds xs L.rs⟩
end
end DL

namespace DL
open PySem PySem.Spec L2

/-- the context is a plain def's body -/
structure Fit (X : Cx) : Prop where
  calm : X.calm = true
  un : X.A.units + 100 < cLine
  gd : X.A.guards = some []

theorem car_new {g : Gh} {K : PySem.W.Frag} {σ : L2.St} {H : Hp} {fa : Option Addr} {O : List Addr} {s : DS} {p : Addr} {o : HO} (I : GI K g σ H fa O s) (hp : H p = none) : Car K (NN g.F fa O) fa H (fun b => NN g.F fa O b ∨ b = p) fa (upd H p o) := by
  have c := I.car (stE_new (fa := fa) (O := O) (o := o) hp).stp
  refine ⟨fun b xs n q => ?_, c.tp, c.fz, c.fe⟩
  obtain ⟨q', n'⟩ := c.ls b xs n q
  refine ⟨q', ?_⟩
  rintro (z | z)
  · exact n' z
  · subst z
    rw [hp] at q; cases q
theorem newL {g : Gh} {K : PySem.W.Frag} {σ : L2.St} {H : Hp} {fa : Option Addr} {O : List Addr} {s : DS} {p : Addr} {ds : List D} {xs : List V} (I : GI K g σ H fa O s) (hp : H p = none) (r : Reps K (NN g.F fa O) fa H ds xs) : NewL K g σ (upd H p (.lst xs)) fa O s p xs ds :=
  ⟨I.new hp, upd_same, SlR.go (car_new I hp) (fun b ys _ e => by rw [upd_ne (ne_of_none e hp)]; exact e) I.sl, I.fd.car (car_new I hp) (I.fd.same_new hp), Reps.go (car_new I hp) ds xs r, fun z => I.fd.tracked z hp⟩

def dC (d : D) : DE := fun s => some (d, s)
/-- a name as a value: a list that is being built there is finished -/
def dV (i : Nat) : DE := fun s => match s.sl[i]? with
  | some (.val d) => some (d, s)
  | some (.own ds) => some (.lst ds, { s with sl := s.sl.set i (.val (.lst ds)) })
  | _ => none
/-- a name that is only looked at -/
def dL (i : Nat) : DE := fun s => match s.sl[i]? with
  | some (.val d) => some (d, s)
  | some (.own ds) => some (.lst ds, s)
  | _ => none
section
variable {X : Cx} {g : Gh}
theorem bo_var {i : Nat} {x : Str} {pos : Pos} (h : PE X (.Name x pos) (tVar i)) : BO X g (.Name x pos) (dL i) := BO.w h fun σ H Q hQ => by
  refine hQ.elim fun fa O s d s' I e k => ?_
  simp only [dL] at e
  cases q : s.sl[i]? with
  | none => rw [q] at e; cases e
  | some z =>
    rw [q] at e
    cases z with
    | no => cases e
    | val d' =>
      cases e
      obtain ⟨u, e1, r⟩ := SlR.val I.sl q
      exact ⟨u, e1, k u H fa O StE.refl I (r.b fun _ z => .inr (.inr z))⟩
    | own ds =>
      cases e
      obtain ⟨a, xs, e1, m, e2, r⟩ := SlR.own I.sl q
      exact ⟨_, e1, k _ H fa O StE.refl I ⟨a, xs, rfl, fun z => I.nf a z m, e2, r⟩⟩
theorem eo_var {i : Nat} {x : Str} {pos : Pos} (h : PE X (.Name x pos) (tVar i)) : EO X g (.Name x pos) (dV i) := EO.w h fun σ H Q hQ => by
  refine hQ.elim fun fa O s d s' I e k => ?_
  simp only [dV] at e
  cases q : s.sl[i]? with
  | none => rw [q] at e; cases e
  | some z =>
    rw [q] at e
    cases z with
    | no => cases e
    | val d' =>
      cases e
      obtain ⟨u, e1, r⟩ := SlR.val I.sl q
      exact ⟨u, e1, k u H fa O StE.refl I r⟩
    | own ds =>
      cases e
      obtain ⟨a, xs, e1, m, e2, r⟩ := SlR.own I.sl q
      -- the wider view: a is not among what is out of reach
      have i' : i < s.sl.length := (List.getElem?_eq_some_iff.mp q).1
      -- first with N without a
      let N1 : Addr → Prop := fun b => NN g.F fa O b ∧ b ≠ a
      have c1 : Car X.K (NN g.F fa O) fa H N1 fa H := ⟨fun b ys n z => ⟨z, fun y => n y.1⟩, fun _ _ z => z, fun _ _ z => z, fun _ z => z⟩
      have S1 := SlR.go c1 (fun _ _ _ z => z) I.sl
      have R1 : Rep X.K N1 fa H (.lst ds) (.ref a) := by
        simp only [Rep]
        exact ⟨a, xs, rfl, fun z => z.2 rfl, e2, Reps.go c1 ds xs r⟩
      obtain ⟨P, hs, S2, hn⟩ := SlR.put i S1 R1
      have na : a ∉ P := hn I.nd a (by rw [q]; rfl) ⟨ds, q⟩ e1
      have eσ : σ.set i (some (V.ref a)) = σ := by
        apply List.ext_getElem?
        intro j
        by_cases hj : j = i
        · subst hj
          rw [e1, List.getElem?_set_self (List.getElem?_eq_some_iff.mp e1).1]
        · rw [List.getElem?_set_ne (Ne.symm hj)]
      rw [eσ] at S2
      have sub : ∀ b ∈ P, b ∈ O := fun b hb => hs.subset hb
      have a1 : StE fa O H fa P H := ⟨sub, .inl rfl, fun _ _ z _ => z, fun _ z => z⟩
      have c2 : Car X.K N1 fa H (NN g.F fa P) fa H := ⟨fun b ys n z => ⟨z, fun y => n ⟨by
          rcases y with y | y | y
          · exact .inl y
          · exact .inr (.inl (sub b y))
          · exact .inr (.inr y), fun w => by
          subst w
          rcases y with y | y | y
          · exact I.tr b y (I.fr b m)
          · exact na y
          · exact I.nf b y m⟩⟩, fun _ _ z => z, fun _ _ z => z, fun _ z => z⟩
      refine ⟨_, e1, k _ H fa P a1 ⟨hs.nodup I.nd, SlR.go c2 (fun _ _ _ z => z) S2, fun b hb => I.fr b (sub b hb), I.st, I.tr, I.ff, (I.fd.car c1 fun _ _ => rfl).car c2 fun _ _ => rfl, fun b z y => I.nf b z (sub b y)⟩ (Rep.go c2 _ _ R1)⟩
theorem eo_C {e : Expr} {v : V} {d : D} (h : PE X e (tC v)) (r : ∀ K N fa H, Rep K N fa H d v) : EO X g e (dC d) := EO.w h fun σ H Q hQ => by
  refine hQ.elim fun fa O s d' s' I q k => ?_
  simp only [dC, Option.some.injEq, Prod.mk.injEq] at q
  obtain ⟨q1, q2⟩ := q
  subst q1; subst q2
  exact k v H fa O StE.refl I (r _ _ _ _)
theorem eo_int {i j pos} : EO X g (.Constant (.int i) j pos) (dC (.int i)) := eo_C pe_int fun _ _ _ _ => by simp only [Rep]
theorem eo_bl {i j pos} : EO X g (.Constant (.bool i) j pos) (dC (.bl i)) := eo_C pe_bl fun _ _ _ _ => by simp only [Rep]
theorem eo_non {j pos} : EO X g (.Constant .none j pos) (dC .non) := eo_C pe_non fun _ _ _ _ => by simp only [Rep]
theorem eo_str {x j pos} (hx : x.length ≤ sizeLine) : EO X g (.Constant (.str x) j pos) (dC (.str x)) := eo_C pe_str fun _ _ _ _ => by simp only [Rep]; exact ⟨trivial, hx⟩
end

def R2D (K : PySem.W.Frag) (r : R2) (p : D → D → Option D) : Prop :=
  ∀ (g : Gh) (σ : L2.St) (H : Hp) (fa : Option Addr) (O : List Addr) (s : DS) (x y : V) (d1 d2 d : D) (Q : VK), GI K g σ H fa O s → RepB K (NN g.F fa O) fa H d1 x → RepB K (NN g.F fa O) fa H d2 y → p d1 d2 = some d →
    (∀ v H', StE fa O H fa O H' → GI K g σ H' fa O s → Rep K (NN g.F fa O) fa H' d v → Q v H') → r x y H Q
def R1D (K : PySem.W.Frag) (r : V → Hp → VK → Prop) (p : D → Option D) : Prop :=
  ∀ (g : Gh) (σ : L2.St) (H : Hp) (fa : Option Addr) (O : List Addr) (s : DS) (x : V) (d1 d : D) (Q : VK), GI K g σ H fa O s → RepB K (NN g.F fa O) fa H d1 x → p d1 = some d →
    (∀ v H', StE fa O H fa O H' → GI K g σ H' fa O s → Rep K (NN g.F fa O) fa H' d v → Q v H') → r x H Q
/-- a builtin's call -/
def RCD (K : PySem.W.Frag) (r : List V → Hp → VK → Prop) (p : List D → Option D) : Prop :=
  ∀ (g : Gh) (σ : L2.St) (H : Hp) (fa : Option Addr) (O : List Addr) (s : DS) (xs : List V) (ds : List D) (d : D) (Q : VK), GI K g σ H fa O s → RepBs K (NN g.F fa O) fa H ds xs → p ds = some d →
    (∀ v H', StE fa O H fa O H' → GI K g σ H' fa O s → Rep K (NN g.F fa O) fa H' d v → Q v H') → r xs H Q
def dOp (p : D → D → Option D) (a b : DE) : DE := fun s => (a s).bind fun x => (b x.2).bind fun y => (p x.1 y.1).map fun d => (d, y.2)
def dUn (p : D → Option D) (a : DE) : DE := fun s => (a s).bind fun x => (p x.1).map fun d => (d, x.2)
theorem dOp_some {α : Type} {p : D → D → Option α} {a b : DE} {s s' : DS} {d : α} (h : ((a s).bind fun x => (b x.2).bind fun y => (p x.1 y.1).map fun d => (d, y.2)) = some (d, s')) : ∃ x s1 y, a s = some (x, s1) ∧ b s1 = some (y, s') ∧ p x y = some d := by
  refine bindP h fun x s1 h1 h => ?_
  refine bindP h fun y s2 h2 h => ?_
  refine mapQ h fun d' h3 h => ?_
  simp only [Prod.mk.injEq] at h
  obtain ⟨e1, e2⟩ := h
  subst e1; subst e2
  exact ⟨x, s1, y, h1, h2, h3⟩
section
variable {X : Cx} {g : Gh} {a b : Expr} {fa fb : DE} {pos : Pos} {r : R2} {p : D → D → Option D}
theorem op_w {r : R2} {p : D → D → Option D} (hr : R2D X.K r p) (σ : L2.St) (H : Hp) (Q : VK) (h : liftE X.K g (dOp p fa fb) σ H Q) : tOp r (liftB X.K g fa) (liftB X.K g fb) σ H Q := by
  obtain ⟨f0, O, s, d, s', I, e, k⟩ := h
  obtain ⟨x, s1, y, h1, h2, h3⟩ := dOp_some e
  refine ⟨f0, O, s, x, s1, I, h1, fun v H1 f1 O1 a1 I1 r1 => ⟨f1, O1, s1, y, s', I1, h2, fun u H2 f2 O2 a2 I2 r2 => ?_⟩⟩
  exact hr g σ H2 f2 O2 s' v u x y d Q I2 (RepB.stp I1 a2 r1) r2 h3 fun z H3 a3 I3 r3 => k z H3 f2 O2 (a1.trans (a2.trans a3)) I3 r3
theorem eo_op {op : Operator} (ho : OpR X (binaryOp op) r) (hr : R2D X.K r p) (ha : BO X g a fa) (hb : BO X g b fb) : EO X g (.BinOp a op b pos) (dOp p fa fb) := EO.w (pe_op ho ha.pe hb.pe) (op_w hr)
theorem eo_cmp {op : CmpOp} (ho : OpR X (compareOp op) r) (hr : R2D X.K r p) (ha : BO X g a fa) (hb : BO X g b fb) (hm : behindInMarks op b = false) : EO X g (.Compare a [op] [b] pos) (dOp p fa fb) := EO.w (pe_cmpR ho ha.pe hb.pe hm) (op_w hr)
theorem eo_ix {r : R2} (ho : IxR X r) (hr : R2D X.K r p) (ha : BO X g a fa) (hb : BO X g b fb) (hs : PlainIx b) : EO X g (.Subscript a b pos) (dOp p fa fb) := EO.w (pe_ix ho ha.pe hb.pe hs) (op_w hr)
theorem eo_un {op : UnaryOp} {r : V → Hp → VK → Prop} {p : D → Option D} (ho : UnR X (unaryOp op) r) (hr : R1D X.K r p) (ha : BO X g a fa) : EO X g (.UnaryOp op a pos) (dUn p fa) := EO.w (pe_un ho ha.pe) fun σ H Q hQ => by
  refine hQ.elim fun f0 O s d s' I e k => ?_
  refine bindP e fun x s1 h1 h => ?_
  refine mapQ h fun d' h3 h => ?_
  simp only [Prod.mk.injEq] at h
  obtain ⟨e1, e2⟩ := h
  subst e1; subst e2
  exact ⟨f0, O, s, x, s1, I, h1, fun v H1 f1 O1 a1 I1 r1 => hr g σ H1 f1 O1 s1 v x d' Q I1 r1 h3 fun z H3 a3 I3 r3 => k z H3 f1 O1 (a1.trans a3) I3 r3⟩
/-- a value that is a truth -/
def dB (f : DE) : DT := fun s => (f s).bind fun x => match x.1 with | .bl b => some (b, x.2) | _ => none
theorem dB_some {f : DE} {s s' : DS} {b : Bool} (h : dB f s = some (b, s')) : f s = some (.bl b, s') := by
  refine bindP h fun x s1 h1 h => ?_
  cases x with
  | bl c => simp only [Option.some.injEq, Prod.mk.injEq] at h; rw [h1, h.1, h.2]
  | _ => cases h
theorem to_cmp {op : CmpOp} (ho : OpR X (compareOp op) r) (hr : R2D X.K r p) (ha : BO X g a fa) (hb : BO X g b fb) (hm : behindInMarks op b = false) : TO X g (.Compare a [op] [b] pos) (dB (dOp p fa fb)) :=
  TO.w (pt_cmpR ho ha.pe hb.pe hm) fun σ H Q ⟨f0, O, s, d, s', I, e, k⟩ => op_w hr σ H _ ⟨f0, O, s, .bl d, s', I, dB_some e, fun v H' f1 O1 a I1 r => by
    simp only [Rep] at r
    exact ⟨d, r, k H' f1 O1 a I1⟩⟩
/-- any thing's truth -/
def dTru : D → Option Bool
  | .non => some false
  | .bl b => some b
  | .int i => some (i != 0)
  | .str x => some ((x.length : Int) != 0)
  | .tup ds => some (!ds.isEmpty)
  | .lst ds => some (!ds.isEmpty)
  | _ => none
def dTr (f : DE) : DT := fun s => (f s).bind fun x => (dTru x.1).map fun b => (b, x.2)
theorem isEmpty_len {α β : Type} {xs : List α} {ys : List β} (h : xs.length = ys.length) : xs.isEmpty = ys.isEmpty := by cases xs <;> cases ys <;> simp_all
theorem to_truth {e : Expr} {f : DE} (h : BO X g e f) (he : ∀ whole, isTrue e X.env whole = (do let v ← whole; standAt e.pos; holding [v] (truthy v)) := by intro _; rfl) : TO X g e (dTr f) :=
  TO.w (pt_truth h.pe he) fun σ H Q hQ => by
    refine hQ.elim fun f0 O s d s' I e k => ?_
    obtain ⟨⟨x, s1⟩, h1, h.pe⟩ := Option.bind_eq_some_iff.mp e
    obtain ⟨d', h3, h.pe⟩ := Option.map_eq_some_iff.mp h.pe
    simp only [Prod.mk.injEq] at h.pe
    obtain ⟨e1, e2⟩ := h.pe
    subst e1; subst e2
    refine ⟨f0, O, s, x, s1, I, h1, fun v H' f1 O1 a I1 r => ⟨d', ?_, k H' f1 O1 a I1⟩⟩
    cases x with
    | non => simp only [RepB, Rep] at r; subst r; cases h3; rfl
    | bl b => simp only [RepB, Rep] at r; subst r; cases h3; rfl
    | int i => simp only [RepB, Rep] at r; subst r; cases h3; rfl
    | str x => simp only [RepB, Rep] at r; obtain ⟨r, l⟩ := r; subst r; cases h3; exact ⟨l, rfl⟩
    | tup ds =>
      simp only [RepB, Rep] at r
      obtain ⟨c, xs, r, q, w⟩ := r
      subst r; cases h3
      exact .inr (.inl ⟨xs, q, by rw [isEmpty_len w.length]⟩)
    | lst ds =>
      obtain ⟨c, xs, r, _, q, w⟩ := r
      subst r; cases h3
      exact .inl ⟨xs, SqL.of q, by rw [isEmpty_len w.length]⟩
    | feed => cases h3
    | scr _ => cases h3
def dAnd (a b : DT) : DT := fun s => (a s).bind fun x => if x.1 = true then b x.2 else some (false, x.2)
def dOr (a b : DT) : DT := fun s => (a s).bind fun x => if x.1 = true then some (true, x.2) else b x.2
def dNot (a : DT) : DT := fun s => (a s).map fun x => (!x.1, x.2)
def dAndV (a b : DE) : DE := fun s => (dB a s).bind fun x => if x.1 = true then b x.2 else some (.bl false, x.2)
def dOrV (a b : DE) : DE := fun s => (dB a s).bind fun x => if x.1 = true then some (.bl true, x.2) else b x.2
def dNotV (a : DE) : DE := fun s => (dB a s).map fun x => (.bl (!x.1), x.2)
variable {ta tb : DT} {rest : List Expr}
theorem wo_and1 (h : TO X g a ta) : WO X g (.BoolOp .And [a] pos) ta := ⟨pw_and1 h.pe⟩
theorem wo_or1 (h : TO X g a ta) : WO X g (.BoolOp .Or [a] pos) ta := ⟨pw_or1 h.pe⟩
theorem wo_and (ha : TO X g a ta) (hb : WO X g (.BoolOp .And (b :: rest) pos) tb) : WO X g (.BoolOp .And (a :: b :: rest) pos) (dAnd ta tb) := WO.w (pw_and ha.pe hb.pe) fun σ H Q hQ => by
  refine hQ.elim fun f0 O s d s' I e k => ?_
  refine bindP e fun x s1 h1 h => ?_
  refine ⟨f0, O, s, x, s1, I, h1, fun H1 f1 O1 a1 I1 => ?_⟩
  cases x with
  | true => rw [if_pos rfl] at h ⊢; exact ⟨f1, O1, s1, d, s', I1, h, fun H2 f2 O2 a2 I2 => k H2 f2 O2 (a1.trans a2) I2⟩
  | false =>
    rw [if_neg Bool.false_ne_true] at h ⊢
    simp only [Option.some.injEq, Prod.mk.injEq] at h
    obtain ⟨e1, e2⟩ := h
    subst e1; subst e2
    exact k H1 f1 O1 a1 I1
theorem wo_or (ha : TO X g a ta) (hb : WO X g (.BoolOp .Or (b :: rest) pos) tb) : WO X g (.BoolOp .Or (a :: b :: rest) pos) (dOr ta tb) := WO.w (pw_or ha.pe hb.pe) fun σ H Q hQ => by
  refine hQ.elim fun f0 O s d s' I e k => ?_
  refine bindP e fun x s1 h1 h => ?_
  refine ⟨f0, O, s, x, s1, I, h1, fun H1 f1 O1 a1 I1 => ?_⟩
  cases x with
  | false => rw [if_neg Bool.false_ne_true] at h ⊢; exact ⟨f1, O1, s1, d, s', I1, h, fun H2 f2 O2 a2 I2 => k H2 f2 O2 (a1.trans a2) I2⟩
  | true =>
    rw [if_pos rfl] at h ⊢
    simp only [Option.some.injEq, Prod.mk.injEq] at h
    obtain ⟨e1, e2⟩ := h
    subst e1; subst e2
    exact k H1 f1 O1 a1 I1
theorem WO.t {e : Expr} {f : DT} (h : WO X g e f) : TO X g e f := ⟨h.pe.pt⟩
theorem to_not (ha : TO X g a ta) : TO X g (.UnaryOp .Not a pos) (dNot ta) := TO.w (pt_not ha.pe) fun σ H Q hQ => by
  refine hQ.elim fun f0 O s d s' I e k => ?_
  refine mapP e fun x s1 h1 h => ?_
  simp only [Prod.mk.injEq] at h
  obtain ⟨e1, e2⟩ := h
  subst e1; subst e2
  exact ⟨f0, O, s, x, s1, I, h1, fun H1 f1 O1 a1 I1 => k H1 f1 O1 a1 I1⟩
theorem eo_one {op} {f : DE} (h : EO X g a f) : EO X g (.BoolOp op [a] pos) f := ⟨pe_one h.pe⟩
theorem eo_and (ha : EO X g a fa) (hb : EO X g (.BoolOp .And (b :: rest) pos) fb) : EO X g (.BoolOp .And (a :: b :: rest) pos) (dAndV fa fb) := EO.w (pe_and ha.pe hb.pe) fun σ H Q hQ => by
  refine hQ.elim fun f0 O s d s' I e k => ?_
  refine bindP e fun x s1 h1 h => ?_
  refine ⟨f0, O, s, _, s1, I, dB_some h1, fun v H1 f1 O1 a1 I1 r => ⟨x, by simpa only [Rep] using r, ?_⟩⟩
  cases x with
  | true => rw [if_pos rfl] at h ⊢; exact ⟨f1, O1, s1, d, s', I1, h, fun v H2 f2 O2 a2 I2 => k v H2 f2 O2 (a1.trans a2) I2⟩
  | false =>
    rw [if_neg Bool.false_ne_true] at h ⊢
    simp only [Option.some.injEq, Prod.mk.injEq] at h
    obtain ⟨e1, e2⟩ := h
    subst e1; subst e2
    exact k _ H1 f1 O1 a1 I1 (by simp only [Rep])
theorem eo_or (ha : EO X g a fa) (hb : EO X g (.BoolOp .Or (b :: rest) pos) fb) : EO X g (.BoolOp .Or (a :: b :: rest) pos) (dOrV fa fb) := EO.w (pe_or ha.pe hb.pe) fun σ H Q hQ => by
  refine hQ.elim fun f0 O s d s' I e k => ?_
  refine bindP e fun x s1 h1 h => ?_
  refine ⟨f0, O, s, _, s1, I, dB_some h1, fun v H1 f1 O1 a1 I1 r => ⟨x, by simpa only [Rep] using r, ?_⟩⟩
  cases x with
  | false => rw [if_neg Bool.false_ne_true] at h ⊢; exact ⟨f1, O1, s1, d, s', I1, h, fun v H2 f2 O2 a2 I2 => k v H2 f2 O2 (a1.trans a2) I2⟩
  | true =>
    rw [if_pos rfl] at h ⊢
    simp only [Option.some.injEq, Prod.mk.injEq] at h
    obtain ⟨e1, e2⟩ := h
    subst e1; subst e2
    exact k _ H1 f1 O1 a1 I1 (by simp only [Rep])
theorem eo_not (ha : EO X g a fa) : EO X g (.UnaryOp .Not a pos) (dNotV fa) := EO.w (pe_not ha.pe) fun σ H Q hQ => by
  refine hQ.elim fun f0 O s d s' I e k => ?_
  refine mapP e fun x s1 h1 h => ?_
  simp only [Prod.mk.injEq] at h
  obtain ⟨e1, e2⟩ := h
  subst e1; subst e2
  exact ⟨f0, O, s, _, s1, I, dB_some h1, fun v H1 f1 O1 a1 I1 r => ⟨x, by simpa only [Rep] using r, k _ H1 f1 O1 a1 I1 (by simp only [Rep])⟩⟩
def dIf (c : DT) (a b : DE) : DE := fun s => (c s).bind fun x => if x.1 = true then a x.2 else b x.2
theorem eo_if {c : Expr} {fc : DT} (hc : TO X g c fc) (ha : EO X g a fa) (hb : EO X g b fb) : EO X g (.IfExp c a b pos) (dIf fc fa fb) := EO.w (pe_ifExp hc.pe ha.pe hb.pe) fun σ H Q hQ => by
  refine hQ.elim fun f0 O s d s' I e k => ?_
  refine bindP e fun x s1 h1 h => ?_
  refine ⟨f0, O, s, x, s1, I, h1, fun H1 f1 O1 a1 I1 => ?_⟩
  cases x with
  | false => rw [if_neg Bool.false_ne_true] at h ⊢; exact ⟨f1, O1, s1, d, s', I1, h, fun v H2 f2 O2 a2 I2 => k v H2 f2 O2 (a1.trans a2) I2⟩
  | true => rw [if_pos rfl] at h ⊢; exact ⟨f1, O1, s1, d, s', I1, h, fun v H2 f2 O2 a2 I2 => k v H2 f2 O2 (a1.trans a2) I2⟩

def dNil : DA := fun s => some ([], s)
def dCons (a : DE) (r : DA) : DA := fun s => (a s).bind fun x => (r x.2).map fun y => (x.1 :: y.1, y.2)
theorem dCons_some {a : DE} {r : DA} {s s' : DS} {ds : List D} (h : dCons a r s = some (ds, s')) : ∃ d s1 es, a s = some (d, s1) ∧ r s1 = some (es, s') ∧ ds = d :: es := by
  refine bindP h fun x s1 h1 h => ?_
  refine mapP h fun y s2 h2 h => ?_
  simp only [Prod.mk.injEq] at h
  exact ⟨x, s1, y, h1, by rw [h2, h.2], h.1.symm⟩
variable {es : List Expr} {fr : DA}
theorem ao_nil : AO X g [] dNil := AO.w pa_nil fun σ H Q hQ => by
  refine hQ.elim fun f0 O s d s' I e k => ?_
  simp only [dNil, Option.some.injEq, Prod.mk.injEq] at e
  obtain ⟨e1, e2⟩ := e
  subst e1; subst e2
  exact k [] H f0 O StE.refl I (by simp only [Reps])
theorem ao_cons (ha : EO X g a fa) (hr : AO X g es fr) (hs : starEach (a :: es) X.env = (false, eval a X.env) :: starEach es X.env := by rfl) : AO X g (a :: es) (dCons fa fr) := AO.w (pa_cons ha.pe hr.pe hs) fun σ H Q hQ => by
  refine hQ.elim fun f0 O s ds s' I e k => ?_
  obtain ⟨d, s1, es, h1, h2, h3⟩ := dCons_some e
  subst h3
  refine ⟨f0, O, s, d, s1, I, h1, fun v H1 f1 O1 a1 I1 r1 => ⟨f1, O1, s1, es, s', I1, h2, fun vs H2 f2 O2 a2 I2 r2 => ?_⟩⟩
  refine k (v :: vs) H2 f2 O2 (a1.trans a2) I2 ?_
  simp only [Reps]
  exact ⟨v, vs, rfl, Rep.stp I1 a2.stp r1, r2⟩
theorem bao_nil : BAO X g [] dNil := BAO.w pa_nil fun σ H Q hQ => by
  refine hQ.elim fun f0 O s d s' I e k => ?_
  simp only [dNil, Option.some.injEq, Prod.mk.injEq] at e
  obtain ⟨e1, e2⟩ := e
  subst e1; subst e2
  exact k [] H f0 O StE.refl I (by simp only [RepBs])
theorem bao_cons (ha : BO X g a fa) (hr : BAO X g es fr) (hs : starEach (a :: es) X.env = (false, eval a X.env) :: starEach es X.env := by rfl) : BAO X g (a :: es) (dCons fa fr) := BAO.w (pa_cons ha.pe hr.pe hs) fun σ H Q hQ => by
  refine hQ.elim fun f0 O s ds s' I e k => ?_
  obtain ⟨d, s1, es, h1, h2, h3⟩ := dCons_some e
  subst h3
  refine ⟨f0, O, s, d, s1, I, h1, fun v H1 f1 O1 a1 I1 r1 => ⟨f1, O1, s1, es, s', I1, h2, fun vs H2 f2 O2 a2 I2 r2 => ?_⟩⟩
  exact k (v :: vs) H2 f2 O2 (a1.trans a2) I2 ⟨v, vs, rfl, RepB.stp I1 a2 r1, r2⟩
def dTup (f : DA) : DE := fun s => (f s).bind fun x => if x.1.length ≤ sizeLine then some (.tup x.1, x.2) else none
def dLst (f : DA) : DA := fun s => (f s).bind fun x => if x.1.length ≤ sizeLine then some (x.1, x.2) else none
theorem eo_tup {x1} (h : AO X g es fr) : EO X g (.Tuple es x1 pos) (dTup fr) := EO.w (pe_tup h.pe) fun σ H Q hQ => by
  refine hQ.elim fun f0 O s d s' I e k => ?_
  obtain ⟨⟨ds, s1⟩, h1, h.pe⟩ := Option.bind_eq_some_iff.mp e
  by_cases hl : ds.length ≤ sizeLine
  · rw [if_pos hl] at h.pe
    simp only [Option.some.injEq, Prod.mk.injEq] at h.pe
    obtain ⟨e1, e2⟩ := h.pe
    subst e1; subst e2
    refine ⟨f0, O, s, ds, s1, I, h1, fun vs H1 f1 O1 a1 I1 r1 => ⟨by rw [r1.length]; exact hl, fun p hp => ?_⟩⟩
    have a2 : StE f1 O1 H1 f1 O1 (upd H1 p (.tup vs)) := stE_new hp
    refine k _ _ f1 O1 (a1.trans a2) (I1.new hp) ?_
    simp only [Rep]
    exact ⟨p, vs, rfl, SqT.of upd_same, Reps.stp I1 a2.stp r1⟩
  · rw [if_neg hl] at h.pe; cases h.pe
theorem fo_lst (h : AO X g es fr) : FO X g (.List es pos) (dLst fr) := FO.w (pe_lst h.pe) fun σ H Q hQ => by
  refine hQ.elim fun f0 O s d s' I e k => ?_
  obtain ⟨⟨ds, s1⟩, h1, h.pe⟩ := Option.bind_eq_some_iff.mp e
  by_cases hl : ds.length ≤ sizeLine
  · rw [if_pos hl] at h.pe
    simp only [Option.some.injEq, Prod.mk.injEq] at h.pe
    obtain ⟨e1, e2⟩ := h.pe
    subst e1; subst e2
    refine ⟨f0, O, s, ds, s1, I, h1, fun vs H1 f1 O1 a1 I1 r1 => ⟨by rw [r1.length]; exact hl, fun p hp => ?_⟩⟩
    have a2 : StE f1 O1 H1 f1 O1 (upd H1 p (.lst vs)) := stE_new hp
    exact k p vs _ f1 O1 (a1.trans a2) (newL I1 hp r1) (a1.mon _ hp)
  · rw [if_neg hl] at h.pe; cases h.pe
end
end DL

namespace DL
open PySem PySem.Spec L2

section
variable {K : PySem.W.Frag} {g : Gh} {σ : L2.St} {H H' : Hp} {fa fa' : Option Addr} {O O' : List Addr} {s s' : DS}
theorem NN.mono {F : Addr → Prop} {P : List Addr} (h : ∀ b ∈ P, b ∈ O) {b : Addr} (z : NN F fa P b) : NN F fa O b := by
  rcases z with z | z | z
  · exact .inl z
  · exact .inr (.inl (h b z))
  · exact .inr (.inr z)
theorem car_less {F : Addr → Prop} {N : Addr → Prop} (h : ∀ b, NN F fa O b → N b) : Car K N fa H (NN F fa O) fa H := ⟨fun b xs n q => ⟨q, fun z => n (h b z)⟩, fun _ _ q => q, fun _ _ q => q, fun _ q => q⟩
/-- a slot takes a thing -/
theorem DI.put (I : GI K g σ H fa O s) (i : Nat) {d : D} {v : V} (r : Rep K (NN g.F fa O) fa H d v) : ∃ P, (∀ b ∈ P, b ∈ O) ∧ GI K g (σ.set i (some v)) H fa P { s with sl := s.sl.set i (.val d) } := by
  obtain ⟨P, hs, S, _⟩ := SlR.put i I.sl r
  have sub : ∀ b ∈ P, b ∈ O := fun b hb => hs.subset hb
  have c : Car K (NN g.F fa O) fa H (NN g.F fa P) fa H := car_less fun b => NN.mono sub
  exact ⟨P, sub, hs.nodup I.nd, SlR.go c (fun _ _ _ z => z) S, fun b hb => I.fr b (sub b hb), I.st, I.tr, I.ff, I.fd.car c fun _ _ => rfl, fun b z y => I.nf b z (sub b y)⟩
theorem stE_sub {P : List Addr} (h : ∀ b ∈ P, b ∈ O) : StE fa O H fa P H := ⟨h, .inl rfl, fun _ _ e _ => e, fun _ e => e⟩
/-- a slot takes a new list -/
theorem NewL.put {p : Addr} {xs : List V} {ds : List D} (L : NewL K g σ H fa O s p xs ds) (i : Nat) (hi : i < s.sl.length) (h0 : g.H0 p = none) (hp : p ∉ O) : ∃ P, (∀ b ∈ P, b = p ∨ b ∈ O) ∧ GI K g (σ.set i (some (.ref p))) H fa P { s with sl := s.sl.set i (.own ds) } := by
  obtain ⟨P, h1, h2, S⟩ := SlR.putN i L.sl hi hp L.gi.nd L.ls L.rs
  have c : Car K (fun b => NN g.F fa O b ∨ b = p) fa H (NN g.F fa P) fa H := car_less fun b z => by
    rcases z with z | z | z
    · exact .inl (.inl z)
    · rcases h1 b z with y | y
      · exact .inr y
      · exact .inl (.inr (.inl y))
    · exact .inl (.inr (.inr z))
  refine ⟨P, h1, h2, SlR.go c (fun _ _ _ z => z) S, fun b hb => ?_, L.gi.st, L.gi.tr, L.gi.ff, L.fd.car c fun _ _ => rfl, fun b z hb => ?_⟩
  · rcases h1 b hb with y | y
    · rw [y]; exact h0
    · exact L.gi.fr b y
  · rcases h1 b hb with y | y
    · rw [y] at z; exact L.nf z
    · exact L.gi.nf b z y
/-- the list of a slot is rewritten -/
theorem DI.rew (I : GI K g σ H fa O s) {i : Nat} {ds es : List D} {a : Addr} {xs ys : List V} (e1 : s.sl[i]? = some (.own ds)) (e2 : σ[i]? = some (some (.ref a))) (m : a ∈ O) (e3 : H a = some (.lst xs)) (r : Reps K (NN g.F fa O) fa H es ys) :
    GI K g σ (upd H a (.lst ys)) fa O { s with sl := s.sl.set i (.own es) } ∧ Stp fa O H fa O (upd H a (.lst ys)) := by
  have a1 : Stp fa O H fa O (upd H a (.lst ys)) := ⟨fun b hb => .inl hb, .inl rfl, fun b u e n _ => by
    rw [upd_ne (show b ≠ a from fun z => n (by rw [z]; exact m))]; exact e, fun b z => by
    by_cases hb : b = a
    · subst hb; rw [upd_same] at z; cases z
    · rw [upd_ne hb] at z; exact z⟩
  have c := I.car a1
  have k : ∀ b u, b ≠ a → H b = some u → upd H a (.lst ys) b = some u := fun b u n e => by rw [upd_ne n]; exact e
  refine ⟨⟨I.nd, SlR.rew I.sl I.nd (fun b hb => .inr (.inl hb)) e1 e2 upd_same c k (Reps.go c es ys r), I.fr, ?_, I.tr, I.ff, I.fd.car c fun b hb => ?_, I.nf⟩, a1⟩
  · refine ⟨fun b hb => (by cases hb), I.st.fe, fun b u e n f => ?_, fun b z => I.st.mon b (a1.mon b z)⟩
    refine k b u (fun z => ?_) (I.st.same b u e n f)
    rw [z, I.fr a m] at e; cases e
  · refine upd_ne fun z => ?_
    subst z
    exact I.nf _ hb m
end

theorem FlK.shift {K : PySem.W.Frag} {g : Gh} {E : Ends} {fa fa' : Option Addr} {O O' : List Addr} {H H' : Hp} {fl : Fl} {s : DS} (a : Stp fa O H fa' O' H') (h : FlK K g E fa O H fl s) : FlK K g E fa' O' H' fl s := by
  cases fl with
  | next => exact fun σ' H2 f2 O2 a2 I2 => h σ' H2 f2 O2 (a.trans a2) I2
  | brk => exact fun σ' H2 f2 O2 a2 I2 => h σ' H2 f2 O2 (a.trans a2) I2
  | cont => exact fun σ' H2 f2 O2 a2 I2 => h σ' H2 f2 O2 (a.trans a2) I2
  | ret d => exact fun σ' v H2 f2 O2 a2 I2 => h σ' v H2 f2 O2 (a.trans a2) I2
def dSkip : DM := fun s => some (.next, s)
def dThen (b : DM) (x : Fl × DS) : Option (Fl × DS) := match x.1 with
  | .next => b x.2
  | .brk => some (.brk, x.2)
  | .cont => some (.cont, x.2)
  | .ret d => some (.ret d, x.2)
def dSeq (a b : DM) : DM := fun s => (a s).bind (dThen b)
section
variable {X : Cx} {g : Gh} {st : Stmt} {rest : List Stmt} {e : Expr} {pos : Pos} {a b : DM} {f : DE}
theorem ss_nil : SSO X g [] dSkip := SSO.w pss_nil fun E σ H hQ => by
  refine hQ.elim fun fa O s fl s' I e k => ?_
  cases e
  exact k σ H fa O Stp.refl I
theorem ss_one (h : SO X g st a) : SSO X g [st] a := ⟨pss_one h.pe⟩
theorem ss_cons (h : SO X g st a) (hr : SSO X g rest b) : SSO X g (st :: rest) (dSeq a b) := SSO.w (pss_cons h.pe hr.pe) fun E σ H hQ => by
  refine hQ.elim fun fa O s fl s' I e k => ?_
  refine bindP e fun f1 s1 h1 h2 => ?_
  refine ⟨fa, O, s, f1, s1, I, h1, ?_⟩
  cases f1 with
  | next => exact fun σ' H' f1 O1 a1 I1 => ⟨f1, O1, s1, fl, s', I1, h2, k.shift a1⟩
  | brk => cases h2; exact k
  | cont => cases h2; exact k
  | ret d => cases h2; exact k
def dRet (f : DE) : DM := fun s => (f s).map fun x => (.ret x.1, x.2)
theorem s_ret (he : EO X g e f) : SO X g (.Return (some e) pos) (dRet f) := SO.w (ps_ret he.pe) fun E σ H hQ => by
  refine hQ.elim fun fa O s fl s' I q k => ?_
  refine mapP q fun d s1 h1 h2 => ?_
  cases h2
  exact ⟨fa, O, s, d, s1, I, h1, fun v H' f1 O1 a1 I1 r => k σ v H' f1 O1 a1.stp I1 r⟩
def dIfS (c : DT) (a b : DM) : DM := fun s => (c s).bind fun x => if x.1 = true then a x.2 else b x.2
theorem s_if {c : Expr} {fc : DT} {la lb : List Stmt} (hc : TO X g c fc) (ha : SSO X g la a) (hb : SSO X g lb b) : SO X g (.If c la lb pos) (dIfS fc a b) := SO.w (ps_if hc.pe ha.pe hb.pe) fun E σ H hQ => by
  refine hQ.elim fun fa O s fl s' I e k => ?_
  refine bindP e fun x s1 h1 h => ?_
  refine ⟨fa, O, s, x, s1, I, h1, fun H1 f1 O1 a1 I1 => ?_⟩
  cases x with
  | false => rw [if_neg Bool.false_ne_true] at h ⊢; exact ⟨f1, O1, s1, fl, s', I1, h, k.shift a1.stp⟩
  | true => rw [if_pos rfl] at h ⊢; exact ⟨f1, O1, s1, fl, s', I1, h, k.shift a1.stp⟩
def liftG (K : PySem.W.Frag) (g : Gh) (t : D → DS → Option DS) : TG := fun v σ H Q => ∃ fa O s d s', GI K g σ H fa O s ∧ Rep K (NN g.F fa O) fa H d v ∧ t d s = some s' ∧ ∀ σ' H' fa' O', Stp fa O H fa' O' H' → GI K g σ' H' fa' O' s' → Q σ' H'
def liftGs (K : PySem.W.Frag) (g : Gh) (t : List D → DS → Option DS) : TGs := fun vs σ H Q => ∃ fa O s ds s', GI K g σ H fa O s ∧ Reps K (NN g.F fa O) fa H ds vs ∧ t ds s = some s' ∧ ∀ σ' H' fa' O', Stp fa O H fa' O' H' → GI K g σ' H' fa' O' s' → Q σ' H'
section
variable {K : PySem.W.Frag} {g : Gh} {σ : L2.St} {Q : L2.St → Hp → Prop} {H : Hp} {G : Prop}
theorem liftG.elim {t : D → DS → Option DS} {v : V} (h : liftG K g t v σ H Q) (k : ∀ fa O s d s', GI K g σ H fa O s → Rep K (NN g.F fa O) fa H d v → t d s = some s' → (∀ σ' H' fa' O', Stp fa O H fa' O' H' → GI K g σ' H' fa' O' s' → Q σ' H') → G) : G := by
  obtain ⟨fa, O, s, d, s', a, r, b, c⟩ := h
  exact k fa O s d s' a r b c
theorem liftGs.elim {t : List D → DS → Option DS} {v : List V} (h : liftGs K g t v σ H Q) (k : ∀ fa O s d s', GI K g σ H fa O s → Reps K (NN g.F fa O) fa H d v → t d s = some s' → (∀ σ' H' fa' O', Stp fa O H fa' O' H' → GI K g σ' H' fa' O' s' → Q σ' H') → G) : G := by
  obtain ⟨fa, O, s, d, s', a, r, b, c⟩ := h
  exact k fa O s d s' a r b c
end
structure GO (X : Cx) (g : Gh) (e : Expr) (t : D → DS → Option DS) : Prop where
  pe : PG X e (liftG X.K g t)
structure GsO (X : Cx) (g : Gh) (es : List Expr) (t : List D → DS → Option DS) : Prop where
  pe : PGs X es (liftGs X.K g t)
def dPut (i : Nat) (d : D) : DS → Option DS := fun s => some { s with sl := s.sl.set i (.val d) }
theorem PGw {t t' : TG} (h : PG X e t) (w : ∀ v σ H Q, t' v σ H Q → t v σ H Q) : PG X e t' := fun pins s σ H v u Q I r q => h pins s σ H v u Q I r (w v σ H Q q)
theorem PGsw {es : List Expr} {t t' : TGs} (h : PGs X es t) (w : ∀ v σ H Q, t' v σ H Q → t v σ H Q) : PGs X es t' := fun pins s σ H v u Q I r q => h pins s σ H v u Q I r (w v σ H Q q)
theorem GO.w {f : D → DS → Option DS} {t : TG} (h : PG X e t) (w : ∀ v σ H Q, liftG X.K g f v σ H Q → t v σ H Q) : GO X g e f := ⟨PGw h w⟩
theorem GsO.w {es : List Expr} {f : List D → DS → Option DS} {t : TGs} (h : PGs X es t) (w : ∀ v σ H Q, liftGs X.K g f v σ H Q → t v σ H Q) : GsO X g es f := ⟨PGsw h w⟩
theorem g_name {i : Nat} {x : Str} (h : PG X (.Name x pos) (gName i)) : GO X g (.Name x pos) (dPut i) := GO.w h fun v σ H Q hQ => by
  refine hQ.elim fun fa O s d s' I r e k => ?_
  cases e
  obtain ⟨P, sub, I'⟩ := I.put i r
  exact k _ H fa P (stE_sub sub).stp I'
def dPuts0 : List D → DS → Option DS
  | [], s => some s
  | _ :: _, _ => none
def dPuts1 (t : D → DS → Option DS) (u : List D → DS → Option DS) : List D → DS → Option DS
  | [], _ => none
  | d :: r, s => (t d s).bind (u r)
theorem gs_nil : GsO X g [] dPuts0 := GsO.w pgs_nil fun v σ H Q hQ => by
  refine hQ.elim fun fa O s ds s' I r e k => ?_
  cases ds with
  | nil => cases e; simp only [Reps] at r; exact ⟨r, k σ H fa O Stp.refl I⟩
  | cons d r' => cases e
theorem gs_cons {es : List Expr} {t : D → DS → Option DS} {u : List D → DS → Option DS} (h : GO X g e t) (hr : GsO X g es u) (hs : (assignEach (e :: es) X.env).map (·.2) = assign e X.env :: (assignEach es X.env).map (·.2) := by rfl) : GsO X g (e :: es) (dPuts1 t u) :=
  GsO.w (pgs_cons h.pe hr.pe hs) fun v σ H Q hQ => by
    refine hQ.elim fun fa O s ds s' I r e k => ?_
    cases ds with
    | nil => cases e
    | cons d r' =>
      refine bindQ e fun s1 h1 h2 => ?_
      simp only [Reps] at r
      obtain ⟨x, ys, rfl, rx, ry⟩ := r
      exact ⟨x, ys, rfl, fa, O, s, d, s1, I, rx, h1, fun σ1 H1 f1 O1 a1 I1 => ⟨f1, O1, s1, r', s', I1, Reps.stp I a1 ry, h2, fun σ2 H2 f2 O2 a2 I2 => k σ2 H2 f2 O2 (a1.trans a2) I2⟩⟩
def dPutT (n : Nat) (u : List D → DS → Option DS) (d : D) (s : DS) : Option DS := match d with
  | .tup ds => if ds.length = n then u ds s else none
  | _ => none
theorem g_tup {es : List Expr} {k : Nat} {n : Nat} {u : List D → DS → Option DS} (hc : X.calm = true) (h : GsO X g es u) (hn : (assignEach es X.env).length = n := by rfl) (hst : (assignEach es X.env).findIdx? (·.1) = none := by rfl) : GO X g (.Tuple es k pos) (dPutT n u) :=
  GO.w (pg_tup hc h.pe hn hst) fun v σ H Q hQ => by
    refine hQ.elim fun fa O s d s' I r e k => ?_
    cases d with
    | tup ds =>
      simp only [dPutT] at e
      by_cases hl : ds.length = n
      · rw [if_pos hl] at e
        simp only [Rep] at r
        obtain ⟨a, xs, rfl, q, w⟩ := r
        exact ⟨a, xs, rfl, q, by rw [w.length]; exact hl, fa, O, s, ds, s', I, w, e, k⟩
      · rw [if_neg hl] at e; cases e
    | _ => cases e
def dAsg (f : DE) (t : D → DS → Option DS) : DM := fun s => (f s).bind fun x => (t x.1 x.2).map fun s' => (.next, s')
theorem asg_w {f : DE} {t : D → DS → Option DS} (E : Ends) (σ : L2.St) (H : Hp) (h : liftS X.K g (dAsg f t) E σ H) : tAsg (liftE X.K g f) (liftG X.K g t) E σ H := by
  obtain ⟨fa, O, s, fl, s', I, q, k⟩ := h
  refine bindP q fun d s1 h1 h2 => ?_
  refine mapQ h2 fun s2 h3 h4 => ?_
  cases h4
  exact ⟨fa, O, s, d, s1, I, h1, fun v H1 f1 O1 a1 I1 r => ⟨f1, O1, s1, d, _, I1, r, h3, fun σ2 H2 f2 O2 a2 I2 => k σ2 H2 f2 O2 (a1.stp.trans a2) I2⟩⟩
theorem s_asg {tg : Expr} {t : D → DS → Option DS} (he : EO X g e f) (hg : GO X g tg t) (hs : swapsWithSole [tg] e pos.line X.env = pure false := by rfl) (hw : swappedStores [tg] e X.env = pure none := by rfl)
    (h1 : (assignEach [tg] X.env).map (·.2) = [assign tg X.env] := by rfl) : SO X g (.Assign [tg] e pos) (dAsg f t) := SO.w (ps_asg he.pe hg.pe hs hw h1) asg_w
theorem s_set {i : Nat} {x : Str} {pos' : Pos} (hN : X.N.Nodup) (hi : X.N[i]? = some x) (hx : Loc X.env.scope x) (he : EO X g e f) (hs : swapsWith e (some (.Name x pos')) pos.line X.env = pure false := by rfl) (hf : X.fn x = true ∨ X.env.scope.names.lookup x = some .local := by first | exact .inl rfl | exact .inr rfl | assumption) :
    SO X g (.Assign [.Name x pos'] e pos) (dAsg f (dPut i)) := SO.w (ps_set hN hi hx he.pe hs hf) fun E σ H h => by
  obtain ⟨fa, O, s, d, s1, I, h1, k⟩ := asg_w E σ H h
  refine ⟨fa, O, s, d, s1, I, h1, fun v H1 f1 O1 a1 I1 r => ?_⟩
  obtain ⟨f2, O2, s2, d2, s3, I2, r2, e2, k2⟩ := k v H1 f1 O1 a1 I1 r
  cases e2
  obtain ⟨P, sub, I'⟩ := I2.put i r2
  exact k2 _ H1 f2 P (stE_sub sub).stp I'
/-- x = a new list -/
def dAsgF (i : Nat) (f : DA) : DM := fun s => (f s).bind fun x => if i < x.2.sl.length then some (.next, { x.2 with sl := x.2.sl.set i (.own x.1) }) else none
theorem s_setF {i : Nat} {x : Str} {f : DA} {pos' : Pos} (hN : X.N.Nodup) (hi : X.N[i]? = some x) (hx : Loc X.env.scope x) (he : FO X g e f) (hs : swapsWith e (some (.Name x pos')) pos.line X.env = pure false := by rfl) (hf : X.fn x = true ∨ X.env.scope.names.lookup x = some .local := by first | exact .inl rfl | exact .inr rfl | assumption) :
    SO X g (.Assign [.Name x pos'] e pos) (dAsgF i f) := SO.w (ps_set hN hi hx he.pe hs hf) fun E σ H hQ => by
  refine hQ.elim fun fa O s fl s' I q k => ?_
  refine bindP q fun ds s1 h1 h2 => ?_
  by_cases hl : i < s1.sl.length
  · simp only [] at h2
    rw [if_pos hl] at h2
    cases h2
    refine ⟨fa, O, s, ds, s1, I, h1, fun p xs H1 f1 O1 a1 L hp => ?_⟩
    have np : p ∉ O1 := fun z => by
      obtain ⟨ys, e⟩ := I.owned (a1.sub p z)
      rw [hp] at e; cases e
    obtain ⟨P, sub, I'⟩ := L.put i hl (I.st.mon p hp) np
    refine k _ H1 f1 P ⟨fun b hb => ?_, a1.fe, fun b u e _ n => a1.same b u e n, a1.mon⟩ I'
    rcases sub b hb with y | y
    · exact .inr (by rw [y]; exact hp)
    · exact .inl (a1.sub b y)
  · simp only [] at h2
    rw [if_neg hl] at h2; cases h2
end
end DL

namespace DL
open PySem PySem.Spec L2

def dForL (t : D → DS → Option DS) (b : DM) : List D → DS → Option (Fl × DS)
  | [], s => some (.next, s)
  | d :: r, s => (t d s).bind fun s1 => (b s1).bind fun x => match x.1 with
    | .next => dForL t b r x.2
    | .cont => dForL t b r x.2
    | .brk => some (.next, x.2)
    | .ret v => some (.ret v, x.2)
def PvD (K : PySem.W.Frag) (g : Gh) (f1 : Option Addr) (O1 : List Addr) (H1 : Hp) (t : D → DS → Option DS) (b : DM) (ds : List D) (fl : Fl) (sf : DS) (i : Nat) : L2.St → Hp → Prop := fun σ' H' =>
  ∃ fa' O' s', Stp f1 O1 H1 fa' O' H' ∧ GI K g σ' H' fa' O' s' ∧ dForL t b (ds.drop i) s' = some (fl, sf)
section
variable {K : PySem.W.Frag} {g : Gh} {f1 : Option Addr} {O1 : List Addr} {H1 H' : Hp} {t : D → DS → Option DS} {b : DM} {ds : List D} {fl : Fl} {sf : DS} {i : Nat} {E : Ends} {σ' : L2.St}
theorem drop_at {α : Type} {l : List α} {i : Nat} {d : α} (h : l[i]? = some d) : l.drop i = d :: l.drop (i + 1) := by
  obtain ⟨hi, e⟩ := List.getElem?_eq_some_iff.mp h
  rw [List.drop_eq_getElem_cons hi, e]
theorem loop_turn (hk : FlK K g E f1 O1 H1 fl sf) {d : D} {x : V} (hd : ds[i]? = some d) (hr : ∀ fa' O', Stp f1 O1 H1 fa' O' H' → Rep K (NN g.F fa' O') fa' H' d x) (h : PvD K g f1 O1 H1 t b ds fl sf i σ' H') :
    liftG K g t x σ' H' fun σ2 H2 => liftS K g b { E with nx := PvD K g f1 O1 H1 t b ds fl sf (i + 1), ct := PvD K g f1 O1 H1 t b ds fl sf (i + 1), bk := E.nx } σ2 H2 := by
  obtain ⟨fa', O', s', st, I, e⟩ := h
  rw [drop_at hd, dForL] at e
  refine bindQ e fun s1 h1 h2 => ?_
  refine bindP h2 fun fb s2 h3 h4 => ?_
  refine ⟨fa', O', s', d, s1, I, hr fa' O' st, h1, fun σ2 H2 f2 O2 a2 I2 => ⟨f2, O2, s1, fb, s2, I2, h3, ?_⟩⟩
  cases fb with
  | next => exact fun σ3 H3 f3 O3 a3 I3 => ⟨f3, O3, s2, st.trans (a2.trans a3), I3, h4⟩
  | cont => exact fun σ3 H3 f3 O3 a3 I3 => ⟨f3, O3, s2, st.trans (a2.trans a3), I3, h4⟩
  | brk => cases h4; exact fun σ3 H3 f3 O3 a3 I3 => hk σ3 H3 f3 O3 (st.trans (a2.trans a3)) I3
  | ret v => cases h4; exact fun σ3 v H3 f3 O3 a3 I3 r => hk σ3 v H3 f3 O3 (st.trans (a2.trans a3)) I3 r
theorem loop_end (hk : FlK K g E f1 O1 H1 fl sf) {n : Nat} (hn : ds.length ≤ n) (h : PvD K g f1 O1 H1 t b ds fl sf n σ' H') : E.nx σ' H' := by
  obtain ⟨fa', O', s', st, I, e⟩ := h
  rw [List.drop_eq_nil_of_le hn, dForL] at e
  cases e
  exact hk σ' H' fa' O' st I
end
def dFor (f : DE) (t : D → DS → Option DS) (b : DM) : DM := fun s => (f s).bind fun x => match x.1 with
  | .lst ds => dForL t b ds x.2
  | .tup ds => dForL t b ds x.2
  | _ => none
section
variable {X : Cx} {g : Gh} {tg iter : Expr} {body : List Stmt} {f : DE} {t : D → DS → Option DS} {b : DM} {pos : Pos}
def iSeq (K : PySem.W.Frag) (tl : TE) : TI := fun σ H R => tl σ H fun x H1 => ∃ a, x = .ref a ∧ (((∃ xs, SqL K H1 a xs) ∧ R (Itl K a) H1) ∨ ((∃ xs, SqT K H1 a xs) ∧ R (Itt K a) H1))
theorem pi_seq {l : Expr} {tl : TE} (hl : PE X l tl) : PI X tg l (iSeq X.K tl) := by
  intro pins s σ H R I h
  refine thn (hl pins s σ H _ I h) fun v s1 ⟨x, H1, I1, r1, q1⟩ => ?_
  obtain ⟨a, e, q⟩ := q1
  subst e
  cases r1
  rcases q with ⟨⟨xs, hq⟩, q⟩ | ⟨⟨xs, hq⟩, q⟩
  · obtain ⟨its, rv, p, hz⟩ := I1.list hq
    refine wpAny_pyIter_list p.isList ?_
    refine ⟨s1.heap.objs.size, [s1.heap.objs.size], _, _, H1, rfl, I1.kept (t' := s1.toks) fun b o e => Heap.get?_push_of_some _ e, turn_list a _, ⟨_, Heap.get?_push_size _ rfl, rfl, rfl⟩, fun b hb => ?_, q⟩
    have e : b = s1.heap.objs.size := by simpa using hb
    subst e
    exact I1.fpOk (Nat.le_refl _) (I1.hok.fresh (Nat.le_refl _))
  · obtain ⟨its, rv, p, hz⟩ := I1.tuple hq
    refine wpAny_pyIter_tuple (show s1.heap.IsTuple a its.toArray from p) ?_
    refine ⟨s1.heap.objs.size, [s1.heap.objs.size], _, _, H1, rfl, I1.kept (t' := s1.toks) fun b o e => Heap.get?_push_of_some _ e, turn_tuple a _, ⟨_, Heap.get?_push_size _ rfl, rfl, rfl⟩, fun b hb => ?_, q⟩
    have e : b = s1.heap.objs.size := by simpa using hb
    subst e
    exact I1.fpOk (Nat.le_refl _) (I1.hok.fresh (Nat.le_refl _))
theorem s_for (hp : PassesOwn (model X.prog X.w) X.A X.env X.xe) (hc : X.calm = true) (he : EO X g iter f) (hg : GO X g tg t) (hb : SSO X g body b) (hs : ∀ x, foldedSetIterable iter X.env x = pure x := by intro _; rfl) :
    SO X g (.For tg iter body [] pos) (dFor f t b) := SO.w (ps_for hp hc (pi_seq he.pe) hg.pe hb.pe hs) fun E σ H hQ => by
  refine hQ.elim fun fa O s fl sf I q k => ?_
  refine bindP q fun d s1 h1 h2 => ?_
  refine ⟨fa, O, s, d, s1, I, h1, fun v H1 f1 O1 a1 I1 r => ?_⟩
  have k1 := k.shift a1.stp
  cases d with
  | lst ds =>
    simp only [Rep] at r
    obtain ⟨a, xs, rfl, na, q, w⟩ := r
    refine ⟨a, rfl, .inl ⟨⟨xs, SqL.of q⟩, for_list (xs := xs) (PvD X.K g f1 O1 H1 t b ds fl sf) ⟨f1, O1, s1, Stp.refl, I1, h2⟩ ?_ ?_ ?_⟩⟩
    · rintro i σ' H' _ ⟨fa', O', s', st, I', e⟩
      exact SqL.of ((I1.car st).ls a xs na q).1
    · intro i x σ' H' hx h
      obtain ⟨d, hd, rd⟩ := Reps.get' w hx
      exact loop_turn k1 hd (fun fa' O' st => Rep.stp I1 st rd) h
    · intro σ' H' h
      exact loop_end k1 (Nat.le_of_eq w.length.symm) h
  | tup ds =>
    simp only [Rep] at r
    obtain ⟨a, xs, rfl, q, w⟩ := r
    refine ⟨a, rfl, .inr ⟨⟨xs, q⟩, for_tup (xs := xs) (PvD X.K g f1 O1 H1 t b ds fl sf) ⟨f1, O1, s1, Stp.refl, I1, h2⟩ ?_ ?_ ?_⟩⟩
    · rintro i σ' H' _ ⟨fa', O', s', st, I', e⟩
      exact (I1.car st).tp a xs q
    · intro i x σ' H' hx h
      obtain ⟨d, hd, rd⟩ := Reps.get' w hx
      exact loop_turn k1 hd (fun fa' O' st => Rep.stp I1 st rd) h
    · intro σ' H' h
      exact loop_end k1 (Nat.le_of_eq w.length.symm) h
  | _ => cases h2
/-- lo, lo + 1, .., n of them -/
def ups (lo : Int) (n : Nat) : List D := (List.range n).map fun (i : Nat) => D.int (lo + (i : Int))
theorem ups_get {lo : Int} {n i : Nat} (h : i < n) : (ups lo n)[i]? = some (.int (lo + (i : Int))) := by simp [ups, h]
theorem ups_len (lo : Int) (n : Nat) : (ups lo n).length = n := by simp [ups]
def dRng : List D → Option (List D)
  | [.int j] => if -(2 ^ 62) ≤ j ∧ j < 2 ^ 62 then some (ups 0 j.toNat) else none
  | [.int i, .int j] => if -(2 ^ 62) ≤ i ∧ i < 2 ^ 62 ∧ -(2 ^ 62) ≤ j ∧ j < 2 ^ 62 then some (ups i (j - i).toNat) else none
  | _ => none
def dForR (f : DA) (t : D → DS → Option DS) (b : DM) : DM := fun s => (f s).bind fun x => (dRng x.1).bind fun ds => dForL t b ds x.2
theorem rng1 {ds es : List D} {a : D} (h : dRng ds = some es) (l : ds = [a]) : ∃ j : Int, a = .int j ∧ -(2 ^ 62) ≤ j ∧ j < 2 ^ 62 ∧ es = ups 0 j.toNat := by
  subst l
  cases a with
  | int j =>
    have h : (if -(2 ^ 62) ≤ j ∧ j < 2 ^ 62 then some (ups 0 j.toNat) else none) = some es := h
    by_cases hj : -(2 ^ 62) ≤ j ∧ j < 2 ^ 62
    · rw [if_pos hj] at h; cases h; exact ⟨j, rfl, hj.1, hj.2, rfl⟩
    · rw [if_neg hj] at h; cases h
  | _ => cases h
theorem s_for1 {a : Expr} {fa : DE} {p cpos : Pos} (hp : PassesOwn (model X.prog X.w) X.A X.env X.xe) (hc : X.calm = true) (hgl : Gl X "range") (hm : X.mg "range" = none) (ha : EO X g a fa) (hg : GO X g tg t) (hb : SSO X g body b)
    (hs1 : starEach [a] X.env = [(false, eval a X.env)] := by rfl) (hs : ∀ x, foldedSetIterable (.Call (.Name "range" p) [a] [] cpos) X.env x = pure x := by intro _; rfl) :
    SO X g (.For tg (.Call (.Name "range" p) [a] [] cpos) body [] pos) (dForR (dCons fa dNil) t b) :=
  SO.w (ps_for hp hc (pi_range1 hgl hm (ao_cons ha ao_nil hs1).pe hs1) hg.pe hb.pe hs) fun E σ H hQ => by
    refine hQ.elim fun fa O s fl sf I q k => ?_
    refine bindP q fun ds s1 h1 h2 => ?_
    refine bindQ h2 fun es h3 h4 => ?_
    obtain ⟨d, s2, rs, e1, e2, e3⟩ := dCons_some h1
    cases e2
    obtain ⟨j, rfl, j1, j2, rfl⟩ := rng1 h3 e3
    refine ⟨fa, O, s, ds, s1, I, h1, fun vs H1 f1 O1 a1 I1 r => ?_⟩
    have k1 := k.shift a1.stp
    rw [e3] at r
    simp only [Reps, Rep] at r
    obtain ⟨x, ys, rfl, rfl, rfl⟩ := r
    refine ⟨j, rfl, j1, j2, for_range (lo := 0) (n := j.toNat) (PvD X.K g f1 O1 H1 t b (ups 0 j.toNat) fl sf) ⟨f1, O1, s1, Stp.refl, I1, h4⟩ ?_ ?_⟩
    · intro i σ' H' hi h
      exact loop_turn k1 (ups_get hi) (fun fa' O' st => by simp only [Rep]) h
    · intro σ' H' h
      exact loop_end k1 (by rw [ups_len]; exact Nat.le_refl _) h
def whN (c : DT) (b : DM) : Nat → DS → Option (Fl × DS)
  | 0, _ => none
  | n + 1, s => (c s).bind fun x => if x.1 = true then (b x.2).bind fun y => match y.1 with
      | .next => whN c b n y.2
      | .cont => whN c b n y.2
      | .brk => some (.next, y.2)
      | .ret v => some (.ret v, y.2)
    else some (.next, x.2)
open Classical in
noncomputable def dWhile (c : DT) (b : DM) : DM := fun s => if h : ∃ n r, whN c b n s = some r then whN c b h.choose s else none
theorem whN_mono {c : DT} {b : DM} : ∀ (n : Nat) {s : DS} {r : Fl × DS}, whN c b n s = some r → whN c b (n + 1) s = some r
  | 0, s, r, h => by cases h
  | n + 1, s, r, h => by
    rw [whN] at h ⊢
    refine bindP h fun x s1 h1 h2 => ?_
    refine Option.bind_eq_some_iff.mpr ⟨(x, s1), h1, ?_⟩
    cases x with
    | false => exact h2
    | true =>
      simp only [if_true] at h2 ⊢
      refine bindP h2 fun y s2 h3 h4 => ?_
      refine Option.bind_eq_some_iff.mpr ⟨(y, s2), h3, ?_⟩
      cases y with
      | next => exact whN_mono n h4
      | cont => exact whN_mono n h4
      | brk => exact h4
      | ret v => exact h4
theorem whN_le {c : DT} {b : DM} {n m : Nat} (hnm : n ≤ m) {s : DS} {r : Fl × DS} (h : whN c b n s = some r) : whN c b m s = some r := by
  induction hnm with
  | refl => exact h
  | step _ ih => exact whN_mono _ ih
theorem dWhile_of {c : DT} {b : DM} {n : Nat} {s : DS} {r : Fl × DS} (h : whN c b n s = some r) : dWhile c b s = some r := by
  have hx : ∃ n r, whN c b n s = some r := ⟨n, r, h⟩
  unfold dWhile
  rw [dif_pos hx]
  obtain ⟨r', h'⟩ := hx.choose_spec
  have e1 := whN_le (Nat.le_max_left n hx.choose) h
  have e2 := whN_le (Nat.le_max_right n hx.choose) h'
  rw [e1] at e2
  rw [h', e2]
theorem dWhile_to {c : DT} {b : DM} {s : DS} {r : Fl × DS} (h : dWhile c b s = some r) : ∃ n, whN c b n s = some r := by
  unfold dWhile at h
  by_cases hx : ∃ n r, whN c b n s = some r
  · rw [dif_pos hx] at h; exact ⟨_, h⟩
  · rw [dif_neg hx] at h; cases h
/-- one turn more -/
theorem dWhile_turn {c : DT} {b : DM} {s s1 s2 : DS} {r : Fl × DS} (h1 : c s = some (true, s1)) (h2 : b s1 = some (.next, s2)) (h3 : dWhile c b s2 = some r) : dWhile c b s = some r := by
  obtain ⟨n, h⟩ := dWhile_to h3
  refine dWhile_of (n := n + 1) ?_
  rw [whN, h1]
  simp only [Option.bind_some, if_true, h2]
  exact h
theorem dWhile_end {c : DT} {b : DM} {s s1 : DS} (h1 : c s = some (false, s1)) : dWhile c b s = some (.next, s1) := by
  refine dWhile_of (n := 1) ?_
  rw [whN, h1]
  simp
theorem s_while {c : Expr} {fc : DT} (hp : PassesOwn (model X.prog X.w) X.A X.env X.xe) (hc : TO X g c fc) (hb : SSO X g body b) : SO X g (.While c body [] pos) (dWhile fc b) := SO.w (ps_while hp hc.pe hb.pe) fun E σ H hQ => by
  refine hQ.elim fun fa O s fl sf I q k => ?_
  obtain ⟨n, h⟩ := dWhile_to q
  refine ⟨fun m σ' H' => ∃ fa' O' s', Stp fa O H fa' O' H' ∧ GI X.K g σ' H' fa' O' s' ∧ whN fc b m s' = some (fl, sf), ⟨n, fa, O, s, Stp.refl, I, h⟩, ?_⟩
  rintro m σ1 H1 ⟨f1, O1, s1, a1, I1, h1⟩
  cases m with
  | zero => cases h1
  | succ m =>
    rw [whN] at h1
    refine bindP h1 fun x s2 h2 h3 => ?_
    refine ⟨f1, O1, s1, x, s2, I1, h2, fun H2 f2 O2 a2 I2 => ?_⟩
    cases x with
    | false => rw [if_neg Bool.false_ne_true] at h3 ⊢; cases h3; exact k σ1 H2 f2 O2 (a1.trans a2.stp) I2
    | true =>
      rw [if_pos rfl] at h3 ⊢
      refine bindP h3 fun y s3 h4 h5 => ?_
      refine ⟨fun σ' H' => ∃ fa' O' s', Stp fa O H fa' O' H' ∧ GI X.K g σ' H' fa' O' s' ∧ whN fc b m s' = some (fl, sf), fun σ' H' z => ⟨m, Nat.lt_succ_self m, z⟩, f2, O2, s2, y, s3, I2, h4, ?_⟩
      have a12 := a1.trans a2.stp
      cases y with
      | next => exact fun σ3 H3 f3 O3 a3 I3 => ⟨f3, O3, s3, a12.trans a3, I3, h5⟩
      | cont => exact fun σ3 H3 f3 O3 a3 I3 => ⟨f3, O3, s3, a12.trans a3, I3, h5⟩
      | brk => cases h5; exact fun σ3 H3 f3 O3 a3 I3 => k σ3 H3 f3 O3 (a12.trans a3) I3
      | ret v => cases h5; exact fun σ3 v H3 f3 O3 a3 I3 r => k σ3 v H3 f3 O3 (a12.trans a3) I3 r
end

abbrev DFn := List D → Option FS → Option (D × Option FS)
def spD (K : PySem.W.Frag) (n : Nat) (m : DFn) : Sp := fun vs H Q _ => ∃ (F : Addr → Prop) (fa : Option Addr) (ds : List D) (fs : Option FS) (d : D) (fs' : Option FS),
  (∀ b, F b → H b ≠ none) ∧ (∀ a, fa = some a → F a) ∧ Reps K F fa H ds vs ∧ FeedR F H fa fs ∧ m ds fs = some (d, fs') ∧ ds.length = n ∧
    ∀ v H' fa', Stp fa [] H fa' [] H' → FeedR (fun b => F b ∨ fa' = some b) H' fa' fs' → Rep K (fun b => F b ∨ fa' = some b) fa' H' d v → Q v H'
abbrev FnD (P : Program) (w : World) (K : PySem.W.Frag) (mg : Str → Option Value) (base : Heap) (k : Nat) (f : Addr) (fd : FuncData) (ps : List Str) (m : DFn) : Prop := FnOk P w K mg base CX0 k f fd ps (spD K ps.length m)
def mFn (n : Nat) (b : DM) : DFn := fun ds fs => (b ⟨ds.map .val ++ List.replicate (n - ds.length) .no, fs⟩).bind fun x => match x.1 with
  | .ret d => some (d, x.2.fs)
  | .next => some (.non, x.2.fs)
  | _ => none
theorem slr_no {K : PySem.W.Frag} {N : Addr → Prop} {fa : Option Addr} {H : Hp} : ∀ n : Nat, SlR K N fa H (List.replicate n .no) (List.replicate n none) []
  | 0 => by simp [SlR]
  | n + 1 => by
    simp only [List.replicate_succ, SlR]
    exact ⟨_, _, rfl, slr_no n⟩
theorem slr_start {K : PySem.W.Frag} {N : Addr → Prop} {fa : Option Addr} {H : Hp} {n : Nat} : ∀ {ds : List D} {vs : List V}, Reps K N fa H ds vs → SlR K N fa H (ds.map .val ++ List.replicate n .no) (vs.map some ++ List.replicate n none) []
  | [], vs, h => by simp only [Reps] at h; subst h; simpa using slr_no n
  | d :: r, vs, h => by
    simp only [Reps] at h
    obtain ⟨x, ys, rfl, h1, h2⟩ := h
    simp only [List.map_cons, List.cons_append, SlR]
    exact ⟨x, _, rfl, h1, slr_start h2⟩
theorem Reps.len {K : PySem.W.Frag} {N : Addr → Prop} {fa : Option Addr} {H : Hp} {ds : List D} {vs : List V} (h : Reps K N fa H ds vs) : vs.length = ds.length := h.length
section
variable {P : Program} {w : World} {K : PySem.W.Frag} {mg : Str → Option Value} {base : Heap}
theorem fn_D {x qual : Str} {st : Stmt} {f : Addr} {fd : FuncData} {N ps : List Str} {k : Nat} {b : DM} (F : Fun K x qual st f fd) (S : FnScope N ps (defScope st))
    (hbody : ∀ (cdv : Value) (A : Around) (outer : List Env) (s : Shared) (H : Hp) (E : XK) (g : Gh), Room k (A.deeper (PyProof.Rows.envOfC qual (defScope st) s.heap.objs.size f cdv)) → SSO (cxOf CX0 P w K mg base N qual (defScope st) f cdv A outer s H E).nox g (defBody st) b) :
    FnD P w K mg base (k + 1) f fd ps (mFn N.length b) := by
  refine F.ok S (fun vs H Q E h => ?_) (fun cdv A outer s H vs Q E hr h => ?_)
  · obtain ⟨F, fa, ds, fs, d, fs', _, _, r, _, _, hl, _⟩ := h
    rw [r.length]; exact hl
  obtain ⟨F, fa, ds, fs, d, fs', tr, ff, r, fd, e, hl, q⟩ := h
  refine ⟨_, (hbody cdv A outer s H E ⟨F, H, fa⟩ hr).pe, ?_⟩
  refine bindP e fun fl s' h1 h2 => ?_
  have hN : ∀ b, NN F fa [] b → F b := fun b z => by
    rcases z with z | z | z
    · exact z
    · cases z
    · exact ff b z
  have c : Car K F fa H (NN F fa []) fa H := ⟨fun b xs n q => ⟨q, fun z => n (hN b z)⟩, fun _ _ q => q, fun _ _ q => q, fun _ q => q⟩
  have el : (L2.start N vs) = vs.map some ++ List.replicate (N.length - ds.length) none := by rw [L2.start, r.length]
  have I : GI K ⟨F, H, fa⟩ (L2.start N vs) H fa [] ⟨ds.map .val ++ List.replicate (N.length - ds.length) .no, fs⟩ := by
    refine ⟨List.nodup_nil, ?_, fun b hb => (by cases hb), Stp.refl, tr, ff, fd.car c fun _ _ => rfl, fun _ _ z => (by cases z)⟩
    rw [el]
    exact slr_start (Reps.go c ds vs r)
  have fin : ∀ {fa' : Option Addr} {O' : List Addr} {H' : Hp} {σ' : L2.St} {v : V} {dd : D}, Stp fa [] H fa' O' H' → GI K ⟨F, H, fa⟩ σ' H' fa' O' s' → Rep K (NN F fa' O') fa' H' dd v → dd = d → s'.fs = fs' → Q v H' := by
    intro fa' O' H' σ' v dd a1 I1 r1 e1 e2
    subst e1; subst e2
    have c1 : Car K (NN F fa' O') fa' H' (fun b => F b ∨ fa' = some b) fa' H' := ⟨fun b xs n q => ⟨q, fun z => n (by
      rcases z with z | z
      · exact .inl z
      · exact .inr (.inr z))⟩, fun _ _ q => q, fun _ _ q => q, fun _ q => q⟩
    exact q v H' fa' ⟨fun b hb => (by cases hb), a1.fe, a1.same, a1.mon⟩ (I1.fd.car c1 fun _ _ => rfl) (Rep.go c1 _ _ r1)
  refine ⟨fa, [], _, fl, s', I, h1, ?_⟩
  cases fl with
  | next =>
    simp only [Option.some.injEq, Prod.mk.injEq] at h2
    exact fun σ' H' fa' O' a1 I1 => fin a1 I1 (v := .non) (dd := .non) (by simp only [Rep]) h2.1 h2.2
  | ret dd =>
    simp only [Option.some.injEq, Prod.mk.injEq] at h2
    exact fun σ' v H' fa' O' a1 I1 r1 => fin a1 I1 r1 h2.1 h2.2
  | brk => cases h2
  | cont => cases h2
end
def dCall (m : DFn) (f : DA) : DE := fun s => (f s).bind fun x => (m x.1 x.2.fs).map fun y => (y.1, { x.2 with fs := y.2 })
section
variable {X : Cx} {g : Gh} {k : Nat} {f : Addr} {fd : FuncData} {ps : List Str} {m : DFn} {x : Str} {p pos : Pos} {e : Expr} {es : List Expr} {t : DA}
theorem call_w {n : Nat} (hn : ∀ s ds s', t s = some (ds, s') → ds.length = n) (σ : L2.St) (H : Hp) (Q : VK) (h : liftE X.K g (dCall m t) σ H Q) : tCall (spD X.K n m) [] E0 (liftA X.K g t) σ H Q := by
  obtain ⟨fa, O, s, d, s', I, q, k⟩ := h
  refine bindP q fun ds s1 h1 h2 => ?_
  refine mapP h2 fun d1 fs1 h3 h4 => ?_
  simp only [Prod.mk.injEq] at h4
  obtain ⟨e1, e2⟩ := h4
  subst e1; subst e2
  refine ⟨fa, O, s, ds, s1, I, h1, fun vs H1 f1 O1 a1 I1 r => ?_⟩
  show spD X.K n m (vs ++ []) H1 Q E0
  rw [List.append_nil]
  refine ⟨NN g.F f1 O1, f1, ds, s1.fs, d1, fs1, fun b hb => I1.nn_tracked hb, fun a ha => .inr (.inr ha), r, I1.fd, h3, hn s ds s1 h1, fun v H2 f2 a2 fd2 r2 => ?_⟩
  have a3 : StE f1 O1 H1 f2 O1 H2 := ⟨fun b hb => hb, a2.fe, fun b u e n => a2.same b u e (by simp) n, a2.mon⟩
  have c := I1.car a3.stp
  have c2 : Car X.K (fun b => NN g.F f1 O1 b ∨ f2 = some b) f2 H2 (NN g.F f2 O1) f2 H2 := ⟨fun b xs n q => ⟨q, fun z => n (by
      rcases z with z | z | z
      · exact .inl (.inl z)
      · exact .inl (.inr (.inl z))
      · exact .inr z)⟩, fun _ _ q => q, fun _ _ q => q, fun _ q => q⟩
  refine k v H2 f2 O1 (a1.trans a3) ⟨I1.nd, SlR.go c (fun b xs hb e => ?_) I1.sl, I1.fr, I1.st.trans ⟨fun b hb => (by cases hb), a2.fe, fun b u e n z => a2.same b u e n z, a2.mon⟩, I1.tr, I1.ff, fd2.car c2 fun _ _ => rfl, I1.nf_step a3.fe⟩ (Rep.go c2 _ _ r2)
  exact a3.same b _ e fun z => I1.nf b z hb
theorem eo_call (F : FnD X.prog X.w X.K X.mg X.base k f fd ps m) (hr : Room k X.A) (hg : Gl X x) (hm : X.mg x = some (.ref f)) (hk : PySem.W.keepIn X.K (.ref f) = true) (hb : Binds X.K fd ps [])
    (ha : AO X g (e :: es) t) (hn : ∀ s ds s', t s = some (ds, s') → ds.length = ps.length) (hdb : (x == ("__debug__" : Str)) = false := by decide) (he : starEach (e :: es) X.env = (false, eval e X.env) :: starEach es X.env := by rfl) (hpl : (backTo pos (starEach es X.env)).any (·.1) = false := by rfl) :
    EO X g (.Call (.Name x p) (e :: es) [] pos) (dCall m t) := EO.w (pe_call F hr hg hm hk hb .nil pass0 ha.pe hdb he hpl) (call_w hn)
theorem dNil_len : ∀ s ds s', dNil s = some (ds, s') → ds.length = 0 := fun s ds s' h => by cases h; rfl
theorem dCons_len {a : DE} {r : DA} {n : Nat} (h : ∀ s ds s', r s = some (ds, s') → ds.length = n) : ∀ s ds s', dCons a r s = some (ds, s') → ds.length = n + 1 := fun s ds s' q => by
  obtain ⟨d, s1, es, h1, h2, h3⟩ := dCons_some q
  subst h3
  simp [h _ _ _ h2]
end
end DL

namespace DL
open PySem PySem.Spec L2

def ItD (K : PySem.W.Frag) (N : Addr → Prop) (fa : Option Addr) (H1 : Hp) (J : It) (ds : List D) : Prop := ∀ N' fa' H', Car K N fa H1 N' fa' H' → (∀ b u, H1 b = some u → fa ≠ some b → H' b = some u) → ∀ i : Nat,
  (∀ d, ds[i]? = some d → J.go i H' ∧ ∀ x H'', J.yld i H' x H'' → H'' = H' ∧ Rep K N' fa' H' d x) ∧ (ds.length ≤ i → J.stop i H')
def liftI (K : PySem.W.Frag) (g : Gh) (f : DA) : TI := fun σ H R => ∃ fa O s ds s', GI K g σ H fa O s ∧ f s = some (ds, s') ∧ ds.length ≤ sizeLine ∧
  ∀ J H' fa' O', StE fa O H fa' O' H' → GI K g σ H' fa' O' s' → ItD K (NN g.F fa' O') fa' H' J ds → R J H'
section
variable {K : PySem.W.Frag} {g : Gh} {σ : L2.St} {H : Hp} {G : Prop}
theorem liftI.elim {f : DA} {R : It → Hp → Prop} (h : liftI K g f σ H R) (k : ∀ fa O s ds s', GI K g σ H fa O s → f s = some (ds, s') → ds.length ≤ sizeLine → (∀ J H' fa' O', StE fa O H fa' O' H' → GI K g σ H' fa' O' s' → ItD K (NN g.F fa' O') fa' H' J ds → R J H') → G) : G := by
  obtain ⟨fa, O, s, d, s', a, r, b, c⟩ := h
  exact k fa O s d s' a r b c
end
structure IO (X : Cx) (g : Gh) (tg iter : Expr) (f : DA) : Prop where
  pe : PI X tg iter (liftI X.K g f)
def dItems (f : DE) : DA := fun s => (f s).bind fun x => match x.1 with
  | .lst ds => some (ds, x.2)
  | .tup ds => some (ds, x.2)
  | _ => none
section
variable {X : Cx} {g : Gh} {tg iter : Expr} {f : DE}
theorem PIw {t t' : TI} (h : PI X tg iter t) (w : ∀ σ H R, t' σ H R → t σ H R) : PI X tg iter t' := fun pins s σ H R I q => h pins s σ H R I (w σ H R q)
theorem IO.w {f : DA} {t : TI} (h : PI X tg iter t) (w : ∀ σ H R, liftI X.K g f σ H R → t σ H R) : IO X g tg iter f := ⟨PIw h w⟩
theorem io_seq (h : EO X g iter f) : IO X g tg iter (dItems f) := IO.w (pi_seq h.pe) fun σ H R hQ => by
  refine hQ.elim fun fa O s ds s' I e hz k => ?_
  refine bindP e fun d s1 h1 h2 => ?_
  refine ⟨fa, O, s, d, s1, I, h1, fun v H1 f1 O1 a1 I1 r => ?_⟩
  cases d with
  | lst es =>
    cases h2
    simp only [Rep] at r
    obtain ⟨a, xs, rfl, na, q, w⟩ := r
    refine ⟨a, rfl, .inl ⟨⟨xs, SqL.of q⟩, k _ H1 f1 O1 a1 I1 fun N' fa' H' c _ i => ⟨fun d hd => ?_, fun hl => ?_⟩⟩⟩
    · obtain ⟨x, hx, rx⟩ := Reps.get w hd
      have q' := (c.ls a xs na q).1
      refine ⟨⟨xs, x, SqL.of q', hx⟩, fun y H'' hy => ?_⟩
      obtain ⟨e1, e2⟩ := hy
      have := e2 xs (SqL.of q')
      rw [hx] at this; cases this
      exact ⟨e1, Rep.go c d x rx⟩
    · exact ⟨xs, SqL.of (c.ls a xs na q).1, by rw [w.length]; exact hl⟩
  | tup es =>
    cases h2
    simp only [Rep] at r
    obtain ⟨a, xs, rfl, q, w⟩ := r
    refine ⟨a, rfl, .inr ⟨⟨xs, q⟩, k _ H1 f1 O1 a1 I1 fun N' fa' H' c _ i => ⟨fun d hd => ?_, fun hl => ?_⟩⟩⟩
    · obtain ⟨x, hx, rx⟩ := Reps.get w hd
      have q' := c.tp a xs q
      refine ⟨⟨xs, x, q', hx⟩, fun y H'' hy => ?_⟩
      obtain ⟨e1, e2⟩ := hy
      have := e2 xs q'
      rw [hx] at this; cases this
      exact ⟨e1, Rep.go c d x rx⟩
    · exact ⟨xs, c.tp a xs q, by rw [w.length]; exact hl⟩
  | _ => cases h2
end

def capOne (sl : List Sl) (i : Nat) : Sl := match sl[i]? with
  | some (Sl.val d) => Sl.val d
  | _ => Sl.no
def capS (idx : List Nat) (sl : List Sl) : List Sl := idx.map (capOne sl)
def dCompL (mk : D → Option (List Sl)) (fc : DT) (fe : DE) : List D → Option FS → Option (List D × Option FS)
  | [], fs => some ([], fs)
  | d :: r, fs => (mk d).bind fun sl => (fc ⟨sl, fs⟩).bind fun c => if c.1 = true then (fe c.2).bind fun y => (dCompL mk fc fe r y.2.fs).map fun z => (y.1 :: z.1, z.2) else dCompL mk fc fe r c.2.fs
def dComp1 (idx : List Nat) (fi : DA) (fc : DT) (fe : DE) : DA := fun s => (fi s).bind fun x => if x.1.length ≤ sizeLine then (dCompL (fun d => some (.val d :: capS idx x.2.sl)) fc fe x.1 x.2.fs).map fun y => (y.1, { x.2 with fs := y.2 }) else none
def FF (g : Gh) (fa : Option Addr) (O : List Addr) (p : Addr) : Addr → Prop := fun b => NN g.F fa O b ∨ b = p
structure CI (K : PySem.W.Frag) (g : Gh) (f1 : Option Addr) (O1 : List Addr) (Hd : Hp) (p : Addr) (fa : Option Addr) (H : Hp) (ys : List V) (res : List D) (fs : Option FS) : Prop where
  st : Stp f1 [p] Hd fa [p] H
  ls : H p = some (.lst ys)
  rs : Reps K (FF g fa O1 p) fa H res ys
  fd : FeedR (FF g fa O1 p) H fa fs
  nf : fa ≠ some p
section
variable {K : PySem.W.Frag} {g : Gh} {f1 fa fa' : Option Addr} {O1 : List Addr} {Hd H H' : Hp} {p : Addr} {ys : List V} {res : List D} {fs : Option FS}
theorem CI.nofa (c : CI K g f1 O1 Hd p fa H ys res fs) : fa ≠ some p := c.nf
theorem ci_car (h0 : ∀ xs, fa ≠ none → ∀ a, fa = some a → ¬ Rd H a (.tup xs)) (hfz : ∀ a, fa = some a → ∀ o u, ¬ H a = some (.frz o u)) (a : StE fa [] H fa' [] H') : Car K (FF g fa O1 p) fa H (FF g fa' O1 p) fa' H' := by
  refine ⟨fun b xs n q => ⟨a.same b _ q fun z => n (.inl (.inr (.inr z))), fun z => ?_⟩, fun b xs q => ?_, fun b xs q => ?_, fun x e => a.stp.fa_keep e⟩
  · rcases z with (z | z | z) | z
    · exact n (.inl (.inl z))
    · exact n (.inl (.inr (.inl z)))
    · rcases a.fe with e | ⟨e, h⟩
      · exact n (.inl (.inr (.inr (e ▸ z))))
      · rw [h b z] at q; cases q
    · exact n (.inr z)
  · refine SqT.stp' a.stp (fun x e ys => h0 ys (by rw [e]; simp) x e) (fun x hx => by cases hx) q
  · rcases q with ⟨o, q⟩ | q
    · exact .inl ⟨o, a.same _ _ q fun z => hfz b z _ _ q⟩
    · exact .inr q
theorem feed_notup {N : Addr → Prop} (h : FeedR N H fa fs) : ∀ xs, fa ≠ none → ∀ a, fa = some a → ¬ Rd H a (.tup xs) := fun xs _ a e z => h.no_tup e z
theorem CI.step (c : CI K g f1 O1 Hd p fa H ys res fs) (a : StE fa [] H fa' [] H') {g' : Gh} {σ : L2.St} {s' : DS} (hF : ∀ b, FF g fa' O1 p b → NN g'.F fa' [] b) (I : GI K g' σ H' fa' [] s') : CI K g f1 O1 Hd p fa' H' ys res s'.fs := by
  have cr : Car K (FF g fa O1 p) fa H (FF g fa' O1 p) fa' H' := ci_car (feed_notup c.fd) (fun x e o u => c.fd.no_frz e) a
  refine ⟨c.st.trans ⟨fun b hb => .inl hb, a.fe, fun b u e _ n => a.same b u e n, a.mon⟩, a.same p _ c.ls c.nofa, Reps.go cr _ _ c.rs, I.fd.car (K := K) ⟨fun b xs n q => ⟨q, fun z => n (hF b z)⟩, fun _ _ q => q, fun _ _ q => q, fun _ q => q⟩ fun _ _ => rfl, fun z => ?_⟩
  rcases a.fe with y | ⟨_, y⟩
  · rw [y] at z; exact c.nf z
  · have := c.ls; rw [y p z] at this; cases this
theorem CI.app (c : CI K g f1 O1 Hd p fa H ys res fs) {N : Addr → Prop} {d : D} {v : V} (hF : ∀ b, FF g fa O1 p b → N b) (r : Rep K N fa H d v) : CI K g f1 O1 Hd p fa (upd H p (.lst (ys ++ [v]))) (ys ++ [v]) (res ++ [d]) fs := by
  have cr : Car K (FF g fa O1 p) fa H (FF g fa O1 p) fa (upd H p (.lst (ys ++ [v]))) := by
    refine ⟨fun b xs n q => ⟨by rw [upd_ne (fun z => n (.inr z))]; exact q, n⟩, fun b xs q => ?_, fun b xs q => ?_, fun _ q => q⟩
    · rcases q with (q | ⟨o, q⟩) | q
      · exact .inl (.inl (by rw [upd_ne (fun z => by rw [z, c.ls] at q; cases q)]; exact q))
      · exact .inl (.inr ⟨o, by rw [upd_ne (fun z => by rw [z, c.ls] at q; cases q)]; exact q⟩)
      · exact .inr q
    · rcases q with ⟨o, q⟩ | q
      · exact .inl ⟨o, by rw [upd_ne (fun z => by rw [z, c.ls] at q; cases q)]; exact q⟩
      · exact .inr q
  have c0 : Car K N fa H (FF g fa O1 p) fa H := ⟨fun b xs n q => ⟨q, fun z => n (hF b z)⟩, fun _ _ q => q, fun _ _ q => q, fun _ q => q⟩
  refine ⟨c.st.trans ⟨fun b hb => .inl hb, .inl rfl, fun b u e n _ => by rw [upd_ne (fun z => n (by simp [z]))]; exact e, fun b z => ?_⟩, upd_same, ?_, c.fd.car cr fun a e => upd_ne fun z => c.nofa (z ▸ e), c.nf⟩
  · by_cases hb : b = p
    · subst hb; rw [upd_same] at z; cases z
    · rw [upd_ne hb] at z; exact z
  · exact Reps.append (Reps.go cr _ _ c.rs) (Reps.one (Rep.go cr _ _ (Rep.go c0 _ _ r)))
end
section
variable {X : Cx} {g : Gh} {scope : Scope} {cl : List (Str × Addr)} {N' : List Str} {idx : List Nat} {iter elt tg : Expr} {ifs : List Expr} {pos : Pos} {fi : DA} {fc : DT} {fe : DE}
def IfsO (X : Cx) (g : Gh) (ifs : List Expr) (f : DT) : Prop := PIfs X ifs (liftT X.K g f)
def dYes : DT := fun s => some (true, s)
theorem ifs_nil : IfsO X g [] dYes := fun pins s σ H Q I ⟨fa, O, s0, d, s', G, e, k⟩ => pifs_nil pins s σ H Q I (by cases e; exact k H fa O StE.refl G)
theorem slr_cap {K : PySem.W.Frag} {N : Addr → Prop} {fa : Option Addr} {H : Hp} {sl : List Sl} {σ : L2.St} {O : List Addr} (h : SlR K N fa H sl σ O) : ∀ idx : List Nat, SlR K N fa H (capS idx sl) (idx.map fun i => (σ[i]?).join) []
  | [] => by simp [capS, SlR]
  | i :: r => by
    have ih := slr_cap h r
    have go : ∀ e : sl[i]? = none ∨ (∃ z, sl[i]? = some z ∧ ∀ d, z ≠ .val d), capOne sl i = .no := fun e => by
      unfold capOne
      rcases e with e | ⟨z, e, n⟩
      · rw [e]
      · rw [e]
        cases z with
        | val d => exact absurd rfl (n d)
        | no => rfl
        | own ds => rfl
    show SlR K N fa H (capOne sl i :: capS r sl) ((σ[i]?).join :: r.map fun i => (σ[i]?).join) []
    cases e : sl[i]? with
    | none =>
      rw [go (.inl e)]
      simp only [SlR]
      exact ⟨_, _, rfl, ih⟩
    | some z =>
      cases z with
      | no =>
        rw [go (.inr ⟨_, e, fun d z => by cases z⟩)]
        simp only [SlR]
        exact ⟨_, _, rfl, ih⟩
      | own ds =>
        rw [go (.inr ⟨_, e, fun d z => by cases z⟩)]
        simp only [SlR]
        exact ⟨_, _, rfl, ih⟩
      | val d =>
        obtain ⟨u, e1, q⟩ := SlR.val h e
        have ec : capOne sl i = .val d := by unfold capOne; rw [e]
        rw [ec]
        simp only [SlR]
        exact ⟨u, _, by rw [e1]; rfl, q, ih⟩
def dCompG (mk : List Sl → D → Option (List Sl)) (fi : DA) (fc : DT) (fe : DE) : DA := fun s => (fi s).bind fun x => if x.1.length ≤ sizeLine then (dCompL (mk x.2.sl) fc fe x.1 x.2.fs).map fun y => (y.1, { x.2 with fs := y.2 }) else none
theorem compG_w {n : Nat} {G : TG} {mk : List Sl → D → Option (List Sl)} (hG : ∀ (N : Addr → Prop) (fa : Option Addr) (sl : List Sl) (d : D) (sl0 : List Sl) (x : V) (σ : L2.St) (H : Hp) (Q : L2.St → Hp → Prop), mk sl d = some sl0 → Rep X.K N fa H d x → SlR X.K N fa H (capS idx sl) (idx.map fun i => (σ[i]?).join) [] →
    (∀ σ' : L2.St, (σ'.length = (blkS n idx σ).length ∧ ∀ (j : Nat) (v : V), (blkS n idx σ)[j]? = some (some v) → σ'[j]? = some (some v)) → SlR X.K N fa H sl0 σ' [] → Q σ' H) → G x (blkS n idx σ) H Q) : ∀ σ H Q, liftF X.K g (dCompG mk fi fc fe) σ H Q → tComp n idx (liftI X.K g fi) G (fun σ H Q => ∃ g', liftT X.K g' fc σ H Q) (fun σ H Q => ∃ g', liftE X.K g' fe σ H Q) σ H Q := by
  intro σ H Q ⟨fa, O, s, res, s', I, e, kk⟩
  refine bindP e fun ds s1 h1 h2 => ?_
  by_cases hz : ds.length ≤ sizeLine
  · simp only [if_pos hz] at h2
    refine mapP h2 fun out fsf h3 h4 => ?_
    simp only [Prod.mk.injEq] at h4
    obtain ⟨e1, e2⟩ := h4
    subst e1; subst e2
    refine ⟨fa, O, s, ds, s1, I, h1, hz, fun J H1 f1 O1 a1 I1 J1 p hp => ?_⟩
    -- from the start to a turn
    have stE : ∀ {fa' : Option Addr} {H' : Hp}, Stp f1 [p] (upd H1 p (.lst [])) fa' [p] H' → StE f1 O1 H1 fa' O1 H' := fun {fa' H'} a => by
      refine ⟨fun _ h => h, ?_, fun b u e n => ?_, fun b z => (stE_new (fa := f1) (O := O1) hp).mon b (a.mon b z)⟩
      · rcases a.fe with e | ⟨e, h⟩
        · exact .inl e
        · exact .inr ⟨e, fun x z => (stE_new (fa := f1) (O := O1) hp).mon x (h x z)⟩
      · have nb : b ≠ p := ne_of_none e hp
        exact a.same b u (by rw [upd_ne nb]; exact e) (by simp [nb]) n
    have carP : ∀ {fa' : Option Addr} {H' : Hp}, Stp f1 [p] (upd H1 p (.lst [])) fa' [p] H' → Car X.K (NN g.F f1 O1) f1 H1 (FF g fa' O1 p) fa' H' := fun {fa' H'} a => by
      have c := I1.car (stE a).stp
      refine ⟨fun b xs n q => ?_, c.tp, c.fz, c.fe⟩
      obtain ⟨q', n'⟩ := c.ls b xs n q
      refine ⟨q', ?_⟩
      rintro (z | z)
      · exact n' z
      · subst z; rw [hp] at q; cases q
    refine ⟨fun i m H' => m = ds.length - i ∧ i ≤ ds.length ∧ ∃ fa' ys res' rest fs', CI X.K g f1 O1 (upd H1 p (.lst [])) p fa' H' ys res' fs' ∧ dCompL (mk s1.sl) fc fe (ds.drop i) fs' = some (rest, fsf) ∧ res' ++ rest = out ∧ ys.length ≤ i, ?_, ?_⟩
    · refine ⟨ds.length, by simp, Nat.zero_le _, f1, [], [], out, s1.fs, ⟨Stp.refl, upd_same, Reps.nil, ?_, fun z => I1.fd.tracked z hp⟩, by simpa using h3, rfl, Nat.le_refl _⟩
      exact I1.fd.car (car_new I1 hp) (I1.fd.same_new hp)
    · rintro i m H' ⟨rfl, hil, fa', ys, res', rest, fs', c, hd, ho, hy⟩
      have Hcar := carP c.st
      obtain ⟨jgo, jstop⟩ := J1 _ _ _ Hcar (fun b u e n => (stE c.st).same b u e n) i
      by_cases hlt : i < ds.length
      · have hdi : ds[i]? = some ds[i] := List.getElem?_eq_getElem hlt
        obtain ⟨go, yl⟩ := jgo _ hdi
        refine .inr ⟨go, fun x H'' hx => ?_⟩
        obtain ⟨e1, rx⟩ := yl x H'' hx
        subst e1
        rw [drop_at hdi, dCompL] at hd
        refine bindQ hd fun sl0 hm hd => ?_
        refine bindP hd fun b sb h5 h6 => ?_
        -- the block's state
        have hNN : ∀ b, NN (FF g fa' O1 p) fa' [] b → FF g fa' O1 p b := fun b z => by
          rcases z with z | z | z
          · exact z
          · cases z
          · exact .inl (.inr (.inr z))
        have cN : Car X.K (FF g fa' O1 p) fa' H'' (NN (FF g fa' O1 p) fa' []) fa' H'' := ⟨fun b xs n q => ⟨q, fun z => n (hNN b z)⟩, fun _ _ q => q, fun _ _ q => q, fun _ q => q⟩
        have trk : ∀ b, FF g fa' O1 p b → H'' b ≠ none := fun b z => by
          rcases z with (z | z | z) | z
          · exact fun w => I1.trF z ((stE c.st).mon b w)
          · obtain ⟨xs, e⟩ := I1.owned z
            exact fun w => by have := (stE c.st).mon b w; rw [e] at this; cases this
          · exact c.fd.tracked z
          · rw [z, c.ls]; simp
        refine hG (NN (FF g fa' O1 p) fa' []) fa' s1.sl ds[i] sl0 x σ H'' _ hm (Rep.go cN _ _ rx) (SlR.go cN (fun a xs ha => by cases ha) (slr_cap (SlR.go Hcar (fun a xs ha e => (stE c.st).same a _ e fun z => I1.nf a z ha) I1.sl) idx)) fun σ1 hσ hsl => ⟨hσ, ?_⟩
        have G0 : GI X.K ⟨FF g fa' O1 p, H'', fa'⟩ σ1 H'' fa' [] ⟨sl0, fs'⟩ := ⟨List.nodup_nil, hsl, fun b hb => (by cases hb), Stp.refl, trk, fun a ha => .inl (.inr (.inr ha)), c.fd.car cN fun _ _ => rfl, fun _ _ z => (by cases z)⟩
        refine ⟨⟨FF g fa' O1 p, H'', fa'⟩, fa', [], _, b, sb, G0, h5, fun H3 f3 O3 a3 I3 => ?_⟩
        have eO : O3 = [] := List.eq_nil_iff_forall_not_mem.mpr fun z hz => by have := a3.sub z hz; cases this
        subst eO
        have hF3 : ∀ b, FF g f3 O1 p b → NN (FF g fa' O1 p) f3 [] b := fun b z => by
          rcases z with (z | z | z) | z
          · exact .inl (.inl (.inl z))
          · exact .inl (.inl (.inr (.inl z)))
          · exact .inr (.inr z)
          · exact .inl (.inr z)
        have c3 := c.step a3 hF3 I3
        cases b with
        | false =>
          rw [if_neg Bool.false_ne_true] at h6
          refine iteF ?_
          exact ⟨ds.length - (i + 1), by omega, rfl, hlt, f3, ys, res', rest, sb.fs, c3, h6, ho, Nat.le_succ_of_le hy⟩
        | true =>
          rw [if_pos rfl] at h6
          refine iteT ?_
          refine bindP h6 fun dd sd h7 h8 => ?_
          refine mapP h8 fun rest2 fs2 h9 h10 => ?_
          simp only [Prod.mk.injEq] at h10
          refine ⟨⟨FF g fa' O1 p, H'', fa'⟩, f3, [], sb, dd, sd, I3, h7, fun v H4 f4 O4 a4 I4 r4 => ?_⟩
          have eO : O4 = [] := List.eq_nil_iff_forall_not_mem.mpr fun z hz => by have := a4.sub z hz; cases this
          subst eO
          have hF4 : ∀ b, FF g f4 O1 p b → NN (FF g fa' O1 p) f4 [] b := fun b z => by
            rcases z with (z | z | z) | z
            · exact .inl (.inl (.inl z))
            · exact .inl (.inl (.inr (.inl z)))
            · exact .inr (.inr z)
            · exact .inl (.inr z)
          have c4 := c3.step a4 hF4 I4
          refine ⟨ys, c4.ls, by omega, ds.length - (i + 1), by omega, rfl, hlt, f4, ys ++ [v], res' ++ [dd], rest2, sd.fs, c4.app hF4 r4, by rw [h9, h10.2], ?_, by simp; omega⟩
          rw [← ho, ← h10.1]; simp
      · refine .inl ⟨jstop (Nat.le_of_not_lt hlt), ?_⟩
        rw [List.drop_eq_nil_of_le (Nat.le_of_not_lt hlt), dCompL] at hd
        simp only [Option.some.injEq, Prod.mk.injEq] at hd
        obtain ⟨hd1, hd2⟩ := hd
        subst hd1; subst hd2
        rw [List.append_nil] at ho
        subst ho
        have aE := stE c.st
        have car1 := I1.car aE.stp
        have sameO : ∀ a xs, a ∈ O1 → H1 a = some (.lst xs) → H' a = some (.lst xs) := fun a xs ha e => aE.same a _ e fun z => I1.nf a z ha
        refine kk p ys H' fa' O1 (a1.trans aE) ⟨⟨I1.nd, SlR.go car1 sameO I1.sl, I1.fr, I1.st.trans ⟨fun b hb => (by cases hb), aE.fe, fun b u e _ n => aE.same b u e n, aE.mon⟩, I1.tr, I1.ff, ?_, I1.nf_step aE.fe⟩, c.ls, SlR.go Hcar sameO I1.sl, c.fd, c.rs, c.nf⟩ (a1.mon p hp)
        exact c.fd.car (K := X.K) ⟨fun b xs n q => ⟨q, fun z => n (.inl z)⟩, fun _ _ q => q, fun _ _ q => q, fun _ q => q⟩ fun _ _ => rfl
  · simp only [if_neg hz] at h2; cases h2
theorem comp1_w (k : CompOk X scope cl N' 1 idx) : ∀ σ H Q, liftF X.K g (dComp1 idx fi fc fe) σ H Q → tComp 1 idx (liftI X.K g fi) (gName 0) (fun σ H Q => ∃ g', liftT X.K g' fc σ H Q) (fun σ H Q => ∃ g', liftE X.K g' fe σ H Q) σ H Q :=
  compG_w (mk := fun sl d => some (.val d :: capS idx sl)) fun N fa sl d sl0 x σ H Q hm rx hc kk => by
    cases hm
    refine kk _ ⟨by simp, fun j v hj => ?_⟩ ?_
    · cases j with
      | zero => simp [blkS] at hj
      | succ j => rw [List.getElem?_set_ne (by simp)]; exact hj
    · have eb : (blkS 1 idx σ).set 0 (some x) = some x :: idx.map fun i => (σ[i]?).join := by simp [blkS]
      rw [eb]
      simp only [SlR]
      exact ⟨x, _, rfl, rx, hc⟩
theorem fo_comp1 (hc : X.calm = true) (k : CompOk X scope cl N' 1 idx) (hi : IO X g tg iter fi) (hg : ∀ C s0 H0 ex, PG (blk X N' scope cl C s0 H0 ex) tg (gName 0))
    (ht : ∀ C s0 H0 ex g', IfsO (blk X N' scope cl C s0 H0 ex) g' ifs fc) (he : ∀ C s0 H0 ex g', EO (blk X N' scope cl C s0 H0 ex) g' elt fe) (hs : ∀ x, foldedSetIterable iter X.env x = pure x := by intro _; rfl) :
    FO X g (.ListComp elt [⟨tg, iter, ifs, 0⟩] scope pos) (dComp1 idx fi fc fe) := by
  -- the readings of the block for every g'
  exact FO.w (pe_comp (tc := fun σ H Q => ∃ g', liftT X.K g' fc σ H Q) (te := fun σ H Q => ∃ g', liftE X.K g' fe σ H Q) hc k hi.pe hg (fun C s0 H0 ex pins s σ H Q I ⟨g', h⟩ => ht C s0 H0 ex g' pins s σ H Q I h) (fun C s0 H0 ex pins s σ H Q I ⟨g', h⟩ => (he C s0 H0 ex g').pe pins s σ H Q I h) hs) (comp1_w k)
end
end DL

namespace HT2
open PySem PyProof.Rows
theorem cat_tup0 {prog : Program} {w : World} {A : Around} {E : Value → Shared → Prop} {s : Shared} {t b : Addr} {ws : List Value} {Q : Value → Shared → Prop} (ht : IsTup s.heap t ([] : List Value).toArray) (hb : IsTup s.heap b ws.toArray)
    (h : Q (.ref b) s) : wpAny (model prog w) A (binaryOp .Add (.ref t) (.ref b)) Q E s := by
  obtain ⟨⟨cls, dd, data, sl⟩, ho, hc, n, hd⟩ := id ht
  obtain ⟨⟨cls2, dd2, data2, sl2⟩, ho2, hc2, n2, hd2⟩ := id hb
  simp only at hc hd hc2 hd2
  subst hc hd hc2 hd2
  exact concat_meets ⟨_, ho, rfl⟩ ⟨_, ho2, rfl⟩ noFill_tuple_add seq_tuple_add PySem.F.slot_tuple_add PySem.F.entry_tuple_add (PySem.F.args_tuple_add_2 _ _)
    (tuple_addW0 t b _ ws.toArray n n2 dd dd2 sl sl2 (by simp)) ⟨ho, ho2, h⟩
end HT2
namespace DL
open PySem PySem.Spec L2

def bitsOk (i : Int) : Bool := decide (i.natAbs.log2 < 1000000)
theorem bits_of {i : Int} (h : bitsOk i = true) : Builtin.Int.intBits i ≤ 2 ^ 20 := by
  have h1 : i.natAbs.log2 < 1000000 := of_decide_eq_true h
  unfold Builtin.Int.intBits
  split
  · exact Nat.zero_le _
  · have e : (2 : Nat) ^ 20 = 1048576 := by decide
    rw [e]; omega
def divOk (j : Int) : Bool := decide (j ≠ 0) && decide (j.natAbs.log2 < 9000)
section
variable {X : Cx}
theorem op_mulB : OpR X (binaryOp .Mult) (rI (fun i j => bitsOk i = true ∧ bitsOk j = true) fun i j => .int (i * j)) := opI fun _ _ _ _ _ _ _ hc q => PyProof.Rows.mul_int q (IntMulOk.of_bits (bits_of hc.1) (bits_of hc.2))
theorem op_fdivB : OpR X (binaryOp .FloorDiv) (rI (fun _ j => divOk j = true) fun i j => .int (i.fdiv j)) := opI fun i j _ _ _ _ _ hc q => by
  have hc' : divOk j = true := hc
  unfold divOk at hc'
  rw [Bool.and_eq_true] at hc'
  exact PyProof.Rows.floordiv_int (of_decide_eq_true hc'.1) q (.inl (PyProof.noPylong_of_log2 (of_decide_eq_true hc'.2)))
/-- () + u is u -/
def rCatT0 (K : PySem.W.Frag) : R2 := fun x y H Q => ∃ a b ys, x = .ref a ∧ y = .ref b ∧ SqT K H a [] ∧ SqT K H b ys ∧ Q (.ref b) H
theorem op_catT0 : OpR X (binaryOp .Add) (rCatT0 X.K) := by
  intro pins s σ H x y v u Q I rx ry h
  obtain ⟨a, b, ys, rfl, rfl, ha, hb, q⟩ := h
  cases rx
  cases ry
  obtain ⟨its, r1, ht, _⟩ := I.tuple ha
  obtain ⟨its2, r2, ht2, _⟩ := I.tuple hb
  cases r1
  exact HT2.cat_tup0 ht ht2 ⟨.ref b, H, I, rfl, q⟩
def rAdd (K : PySem.W.Frag) : R2 := fun x y H Q => (rI0 (fun i j => .int (i + j)) x y H Q ∨ (∃ i j, x = .str i ∧ y = .str j ∧ i.length + j.length ≤ sizeLine ∧ Q (.str (i ++ j)) H)) ∨ ((rCatT0 K x y H Q ∨ rCatT K x y H Q) ∨ rCat x y H Q)
theorem op_addD : OpR X (binaryOp .Add) (rAdd X.K) := (op_add.or op_add_str).or ((op_catT0.or op_catT).or op_cat)
def rMul : R2 := fun x y H Q => rI (fun i j => bitsOk i = true ∧ bitsOk j = true) (fun i j => .int (i * j)) x y H Q ∨ rRep x y H Q
theorem op_mulD : OpR X (binaryOp .Mult) rMul := op_mulB.or op_rep
end
def pAdd : D → D → Option D
  | .int i, .int j => some (.int (i + j))
  | .str x, .str y => if x.length + y.length ≤ sizeLine then some (.str (x ++ y)) else none
  | .tup xs, .tup ys => if xs.length + ys.length ≤ sizeLine then some (.tup (xs ++ ys)) else none
  | .lst xs, .lst ys => if xs.length + ys.length ≤ sizeLine then some (.lst (xs ++ ys)) else none
  | _, _ => none
def pSub : D → D → Option D
  | .int i, .int j => some (.int (i - j))
  | _, _ => none
def pMul : D → D → Option D
  | .int i, .int j => if bitsOk i && bitsOk j then some (.int (i * j)) else none
  | .lst xs, .int k => if -(2 ^ 63) ≤ k ∧ k < 2 ^ 63 ∧ xs.length * k.toNat ≤ sizeLine then some (.lst (List.replicate k.toNat xs).flatten) else none
  | _, _ => none
def pDiv : D → D → Option D
  | .int i, .int j => if divOk j then some (.int (i.fdiv j)) else none
  | _, _ => none
def pMod : D → D → Option D
  | .int i, .int j => if j ≠ 0 then some (.int (i.fmod j)) else none
  | _, _ => none
def pPow : D → D → Option D
  | .int i, .int j => if 0 ≤ j ∧ j ≤ 1000000 ∧ i.natAbs < 2 ^ 64 then some (.int (i ^ j.toNat)) else none
  | _, _ => none
def pNeg : D → Option D
  | .int i => some (.int (-i))
  | _ => none
def pCmp (p : Int → Int → Bool) : D → D → Option D
  | .int i, .int j => some (.bl (p i j))
  | _, _ => none
theorem xsEmpty {K : PySem.W.Frag} {N : Addr → Prop} {fa : Option Addr} {H : Hp} {ds : List D} {xs : List V} (r : Reps K N fa H ds xs) : xs = [] ↔ ds = [] := by
  have := r.length
  cases xs <;> cases ds <;> simp_all
theorem Reps.flat {K : PySem.W.Frag} {N : Addr → Prop} {fa : Option Addr} {H : Hp} {ds : List D} {xs : List V} (r : Reps K N fa H ds xs) : ∀ k : Nat, Reps K N fa H (List.replicate k ds).flatten (List.replicate k xs).flatten
  | 0 => by simp [Reps]
  | k + 1 => by
    simp only [List.replicate_succ, List.flatten_cons]
    exact Reps.append r (Reps.flat r k)
section
variable {K : PySem.W.Frag}
theorem r_add : R2D K (rAdd K) pAdd := by
  intro g σ H fa O s x y d1 d2 d Q I r1 r2 e k
  cases d1 with
  | int i =>
    cases d2 with
    | int j =>
      cases e
      simp only [RepB, Rep] at r1 r2
      exact .inl (.inl ⟨i, j, r1, r2, k _ H StE.refl I (by simp only [Rep])⟩)
    | _ => cases e
  | str a =>
    cases d2 with
    | str b =>
      have e : (if a.length + b.length ≤ sizeLine then some (D.str (a ++ b)) else none) = some d := e
      by_cases h : a.length + b.length ≤ sizeLine
      · rw [if_pos h] at e
        cases e
        simp only [RepB, Rep] at r1 r2
        refine .inl (.inr ⟨a, b, r1.1, r2.1, h, k _ H StE.refl I ?_⟩)
        simp only [Rep]
        exact ⟨trivial, by rw [strLen_append]; exact h⟩
      · rw [if_neg h] at e; cases e
    | _ => cases e
  | tup as =>
    cases d2 with
    | tup bs =>
      have e : (if as.length + bs.length ≤ sizeLine then some (D.tup (as ++ bs)) else none) = some d := e
      by_cases h : as.length + bs.length ≤ sizeLine
      · rw [if_pos h] at e
        cases e
        simp only [RepB, Rep] at r1 r2
        obtain ⟨a, xs, rfl, qa, wa⟩ := r1
        obtain ⟨b, ys, rfl, qb, wb⟩ := r2
        by_cases hx : xs = []
        · have ha := (xsEmpty wa).mp hx
          subst hx; subst ha
          refine .inr (.inl (.inl ⟨a, b, ys, rfl, rfl, qa, qb, k _ H StE.refl I ?_⟩))
          simp only [Rep, List.nil_append]
          exact ⟨b, ys, rfl, qb, wb⟩
        · refine .inr (.inl (.inr ⟨a, b, xs, ys, rfl, rfl, qa, qb, hx, by rw [wa.length, wb.length]; exact h, fun hy => ?_, fun hy p hp => ?_⟩))
          · have hb := (xsEmpty wb).mp hy
            subst hy; subst hb
            refine k _ H StE.refl I ?_
            simp only [Rep, List.append_nil]
            exact ⟨a, xs, rfl, qa, wa⟩
          · have a2 : StE fa O H fa O (upd H p (.tup (xs ++ ys))) := stE_new hp
            refine k _ _ a2 (I.new hp) ?_
            simp only [Rep]
            exact ⟨p, _, rfl, SqT.of upd_same, Reps.stp I a2.stp (Reps.append wa wb)⟩
      · rw [if_neg h] at e; cases e
    | _ => cases e
  | lst as =>
    cases d2 with
    | lst bs =>
      have e : (if as.length + bs.length ≤ sizeLine then some (D.lst (as ++ bs)) else none) = some d := e
      by_cases h : as.length + bs.length ≤ sizeLine
      · rw [if_pos h] at e
        cases e
        obtain ⟨a, xs, rfl, _, qa, wa⟩ := r1
        obtain ⟨b, ys, rfl, _, qb, wb⟩ := r2
        refine .inr (.inr ⟨a, b, xs, ys, rfl, rfl, qa, qb, by rw [wa.length, wb.length]; exact h, fun p hp => ?_⟩)
        have a2 : StE fa O H fa O (upd H p (.lst (xs ++ ys))) := stE_new hp
        have L := newL I hp (Reps.append wa wb)
        refine k _ _ a2 L.gi ?_
        simp only [Rep]
        exact ⟨p, _, rfl, new_out I a2 L.gi hp L.nf, upd_same, Reps.stp I a2.stp (Reps.append wa wb)⟩
      · rw [if_neg h] at e; cases e
    | _ => cases e
  | _ => cases e
theorem r_int {C : Int → Int → Prop} {f : Int → Int → D} {f' : Int → Int → V} {p : D → D → Option D} (hp : ∀ d1 d2 d, p d1 d2 = some d → ∃ i j, d1 = .int i ∧ d2 = .int j ∧ C i j ∧ d = f i j) (hf : ∀ N fa H i j, Rep K N fa H (f i j) (f' i j)) : R2D K (rI C f') p := by
  intro g σ H fa O s x y d1 d2 d Q I r1 r2 e k
  obtain ⟨i, j, rfl, rfl, c, rfl⟩ := hp d1 d2 d e
  simp only [RepB, Rep] at r1 r2
  exact ⟨i, j, r1, r2, c, k _ H StE.refl I (hf _ _ _ _ _)⟩
theorem r_int0 {f : Int → Int → D} {f' : Int → Int → V} {p : D → D → Option D} (hp : ∀ d1 d2 d, p d1 d2 = some d → ∃ i j, d1 = .int i ∧ d2 = .int j ∧ d = f i j) (hf : ∀ N fa H i j, Rep K N fa H (f i j) (f' i j)) : R2D K (rI0 f') p := by
  intro g σ H fa O s x y d1 d2 d Q I r1 r2 e k
  obtain ⟨i, j, rfl, rfl, rfl⟩ := hp d1 d2 d e
  simp only [RepB, Rep] at r1 r2
  exact ⟨i, j, r1, r2, k _ H StE.refl I (hf _ _ _ _ _)⟩
def int2 (F : Int → Int → Option D) : D → D → Option D
  | .int i, .int j => F i j
  | _, _ => none
theorem int2_inv {F : Int → Int → Option D} {d1 d2 d : D} (e : int2 F d1 d2 = some d) : ∃ i j, d1 = .int i ∧ d2 = .int j ∧ F i j = some d := by
  cases d1 with
  | int i =>
    cases d2 with
    | int j => exact ⟨i, j, rfl, rfl, e⟩
    | _ => cases e
  | _ => cases e
theorem int2_if {C : Int → Int → Prop} [∀ i j, Decidable (C i j)] {f : Int → Int → D} {d1 d2 d : D} (e : int2 (fun i j => if C i j then some (f i j) else none) d1 d2 = some d) : ∃ i j, d1 = .int i ∧ d2 = .int j ∧ C i j ∧ d = f i j := by
  obtain ⟨i, j, h1, h2, h3⟩ := int2_inv e
  by_cases h : C i j
  · have h3 : (if C i j then some (f i j) else none) = some d := h3
    rw [if_pos h] at h3
    exact ⟨i, j, h1, h2, h, (Option.some.inj h3).symm⟩
  · have h3 : (if C i j then some (f i j) else none) = some d := h3
    rw [if_neg h] at h3
    cases h3
theorem int2_of {f : Int → Int → D} {d1 d2 d : D} (e : int2 (fun i j => some (f i j)) d1 d2 = some d) : ∃ i j, d1 = .int i ∧ d2 = .int j ∧ d = f i j := by
  obtain ⟨i, j, h1, h2, h3⟩ := int2_inv e
  exact ⟨i, j, h1, h2, (Option.some.inj h3).symm⟩
theorem r_sub : R2D K (rI0 fun i j => .int (i - j)) pSub := r_int0 (f := fun i j => .int (i - j)) (fun d1 d2 d e => int2_of (f := fun i j => .int (i - j)) e) fun _ _ _ _ _ => by simp only [Rep]
theorem r_cmp (p : Int → Int → Bool) : R2D K (rI0 fun i j => .bl (p i j)) (pCmp p) := r_int0 (f := fun i j => .bl (p i j)) (fun d1 d2 d e => int2_of (f := fun i j => .bl (p i j)) e) fun _ _ _ _ _ => by simp only [Rep]
theorem r_mul : R2D K rMul pMul := by
  intro g σ H fa O s x y d1 d2 d Q I r1 r2 e k
  cases d1 with
  | int i =>
    cases d2 with
    | int j =>
      have e : (if bitsOk i && bitsOk j then some (D.int (i * j)) else none) = some d := e
      by_cases h : (bitsOk i && bitsOk j) = true
      · rw [if_pos h] at e
        cases e
        rw [Bool.and_eq_true] at h
        simp only [RepB, Rep] at r1 r2
        exact .inl ⟨i, j, r1, r2, h, k _ H StE.refl I (by simp only [Rep])⟩
      · rw [if_neg h] at e; cases e
    | _ => cases e
  | lst as =>
    cases d2 with
    | int j =>
      simp only [pMul] at e
      by_cases h : -(2 ^ 63) ≤ j ∧ j < 2 ^ 63 ∧ as.length * j.toNat ≤ sizeLine
      · rw [if_pos h] at e
        cases e
        obtain ⟨a, xs, rfl, _, qa, wa⟩ := r1
        simp only [RepB, Rep] at r2
        subst r2
        refine .inr ⟨a, j, xs, rfl, rfl, qa, h.1, h.2.1, by rw [wa.length]; exact h.2.2, fun p hp => ?_⟩
        have a2 : StE fa O H fa O (upd H p (.lst (List.replicate j.toNat xs).flatten)) := stE_new hp
        have L := newL I hp (wa.flat j.toNat)
        refine k _ _ a2 L.gi ?_
        simp only [Rep]
        exact ⟨p, _, rfl, new_out I a2 L.gi hp L.nf, upd_same, Reps.stp I a2.stp (wa.flat j.toNat)⟩
      · rw [if_neg h] at e; cases e
    | _ => cases e
  | _ => cases e
theorem r_div : R2D K (rI (fun _ j => divOk j = true) fun i j => .int (i.fdiv j)) pDiv := r_int (f := fun i j => .int (i.fdiv j)) (fun d1 d2 d e => int2_if (C := fun _ j => divOk j = true) (f := fun i j => .int (i.fdiv j)) e) fun _ _ _ _ _ => by simp only [Rep]
theorem r_mod : R2D K (rI (fun _ j => j ≠ 0) fun i j => .int (i.fmod j)) pMod := r_int (f := fun i j => .int (i.fmod j)) (fun d1 d2 d e => int2_if (C := fun _ j => j ≠ 0) (f := fun i j => .int (i.fmod j)) e) fun _ _ _ _ _ => by simp only [Rep]
theorem r_pow : R2D K (rI CPow fun i j => .int (i ^ j.toNat)) pPow := r_int (f := fun i j => .int (i ^ j.toNat)) (fun d1 d2 d e => int2_if (C := fun i j => 0 ≤ j ∧ j ≤ 1000000 ∧ i.natAbs < 2 ^ 64) (f := fun i j => .int (i ^ j.toNat)) e) fun _ _ _ _ _ => by simp only [Rep]
theorem r_neg : R1D K (rU fun i => .int (-i)) pNeg := by
  intro g σ H fa O s x d1 d Q I r1 e k
  cases d1 with
  | int i => cases e; simp only [RepB, Rep] at r1; exact ⟨i, r1, k _ H StE.refl I (by simp only [Rep])⟩
  | _ => cases e
end
end DL

namespace DL
open PySem PySem.Spec L2

section
variable {X : Cx} {pins : List (Addr × Obj)} {σ : L2.St} {H : Hp} {s : Shared} {N : Addr → Prop} {fa : Option Addr}
mutual
theorem reads_of (I : Inv X pins σ H s) : ∀ (d : D) (v : V) (u : Value), RepO X.K N fa H d v → RelV v u → d.plain = true → ∃ as, Reads s.heap u d.py as
  | .non, v, u, r, ru, _ => by
    simp only [RepO, Rep] at r; subst r; cases ru
    simp only [D.py]; exact ⟨[], .none⟩
  | .bl b, v, u, r, ru, _ => by
    simp only [RepO, Rep] at r; subst r; cases ru
    simp only [D.py]; exact ⟨[], .bool b⟩
  | .int i, v, u, r, ru, _ => by
    simp only [RepO, Rep] at r; subst r
    obtain ⟨t, rfl⟩ := ru
    simp only [D.py]; exact ⟨[], .int i t⟩
  | .str x, v, u, r, ru, _ => by
    simp only [RepO, Rep] at r; obtain ⟨r, _⟩ := r; subst r
    obtain ⟨t, rfl⟩ := ru
    simp only [D.py]; exact ⟨[], .str x t⟩
  | .tup ds, v, u, r, ru, hp => by
    simp only [RepO, Rep] at r
    obtain ⟨a, xs, rfl, q, w⟩ := r
    cases ru
    obtain ⟨its, rv, ⟨o, h1, h2, n, h3⟩, _⟩ := I.tuple q
    obtain ⟨as, ra⟩ := reads_all I ds xs its w rv (by simpa only [D.plain] using hp)
    simp only [D.py]
    exact ⟨as, .tuple h1 h2 h3 (by simpa using ra)⟩
  | .lst ds, v, u, r, ru, hp => by
    obtain ⟨a, xs, rfl, q, w⟩ := r
    cases ru
    obtain ⟨its, rv, ⟨o, n, h1, h2, h3, h4⟩, _⟩ := I.list (SqL.of q)
    obtain ⟨as, ra⟩ := reads_all I ds xs its w rv (by simpa only [D.plain] using hp)
    simp only [D.py]
    exact ⟨_, .list h1 h2 h4 (by simpa using ra)⟩
  | .feed, v, u, r, ru, hp => by simp only [D.plain] at hp; cases hp
  | .scr _, v, u, r, ru, hp => by simp only [D.plain] at hp; cases hp
theorem reads_all (I : Inv X pins σ H s) : ∀ (ds : List D) (xs : List V) (us : List Value), Reps X.K N fa H ds xs → Vals xs us → D.plains ds = true → ∃ as, ReadsAll s.heap us (D.pys ds) as
  | [], xs, us, r, ru, _ => by
    simp only [Reps] at r; subst r; cases ru
    simp only [D.pys]; exact ⟨[], .nil⟩
  | d :: ds, xs, us, r, ru, hp => by
    simp only [Reps] at r
    obtain ⟨x, ys, rfl, r1, r2⟩ := r
    cases ru with
    | cons q qs =>
      simp only [D.plains, Bool.and_eq_true] at hp
      obtain ⟨as, h1⟩ := reads_of I d x _ r1.o q hp.1
      obtain ⟨bs, h2⟩ := reads_all I ds ys _ r2 qs hp.2
      simp only [D.pys]; exact ⟨_, .cons h1 h2⟩
end
end

def eqOk (d : D) : Bool := d.plain && SeqAt.shaped d.py
def pEq (d1 d2 : D) : Option D := match d1, d2 with
  | .str x, .str y => some (.bl (decide (x = y)))
  | d1, d2 => if eqOk d1 && eqOk d2 then some (.bl (PyData.eqv d1.py d2.py)) else none
def pNe (d1 d2 : D) : Option D := match d1, d2 with
  | .str x, .str y => some (.bl (!decide (x = y)))
  | d1, d2 => if eqOk d1 && eqOk d2 then some (.bl (!PyData.eqv d1.py d2.py)) else none
def rEqD (K : PySem.W.Frag) (f : Bool → Bool) : R2 := fun x y H Q => ∃ N fa d1 d2, RepB K N fa H d1 x ∧ RepB K N fa H d2 y ∧ eqOk d1 = true ∧ eqOk d2 = true ∧ Q (.bl (f (PyData.eqv d1.py d2.py))) H
section
variable {X : Cx} {K : PySem.W.Frag}
theorem op_eqD0 (hu : X.A.units + 64 < cLine) : OpR X (compareOp .Eq) (rEqD X.K id) := by
  intro pins s σ H x y v u Q I rx ry h
  obtain ⟨N, fa, d1, d2, r1, r2, o1, o2, q⟩ := h
  unfold eqOk at o1 o2
  rw [Bool.and_eq_true] at o1 o2
  obtain ⟨as, h1⟩ := reads_of I d1 x v r1.o rx o1.1
  obtain ⟨bs, h2⟩ := reads_of I d2 y u r2.o ry o2.1
  exact PyProof.Rows.eq_dataH h1 h2 o1.2 o2.2 hu ⟨.bl _, H, I, rfl, q⟩
theorem op_neD0 (hu : X.A.units + 64 < cLine) : OpR X (compareOp .NotEq) (rEqD X.K not) := by
  intro pins s σ H x y v u Q I rx ry h
  obtain ⟨N, fa, d1, d2, r1, r2, o1, o2, q⟩ := h
  unfold eqOk at o1 o2
  rw [Bool.and_eq_true] at o1 o2
  obtain ⟨as, h1⟩ := reads_of I d1 x v r1.o rx o1.1
  obtain ⟨bs, h2⟩ := reads_of I d2 y u r2.o ry o2.1
  exact PyProof.Rows.ne_dataH h1 h2 o1.2 o2.2 hu ⟨.bl _, H, I, rfl, q⟩
theorem op_eqD (hu : X.A.units + 64 < cLine) : OpR X (compareOp .Eq) (fun x y H Q => rEq x y H Q ∨ rEqD X.K id x y H Q) := op_eq.or (op_eqD0 hu)
theorem op_neD (hu : X.A.units + 64 < cLine) : OpR X (compareOp .NotEq) (fun x y H Q => rNe x y H Q ∨ rEqD X.K not x y H Q) := op_ne.or (op_neD0 hu)
theorem pEq_cases {d1 d2 d : D} (h : pEq d1 d2 = some d) : (∃ x y, d1 = .str x ∧ d2 = .str y ∧ d = .bl (decide (x = y))) ∨ (eqOk d1 = true ∧ eqOk d2 = true ∧ d = .bl (PyData.eqv d1.py d2.py)) := by
  unfold pEq at h
  split at h
  · cases h; exact .inl ⟨_, _, rfl, rfl, rfl⟩
  · split at h
    · rename_i q
      rw [Bool.and_eq_true] at q
      cases h; exact .inr ⟨q.1, q.2, rfl⟩
    · cases h
theorem pNe_cases {d1 d2 d : D} (h : pNe d1 d2 = some d) : (∃ x y, d1 = .str x ∧ d2 = .str y ∧ d = .bl (!decide (x = y))) ∨ (eqOk d1 = true ∧ eqOk d2 = true ∧ d = .bl (!PyData.eqv d1.py d2.py)) := by
  unfold pNe at h
  split at h
  · cases h; exact .inl ⟨_, _, rfl, rfl, rfl⟩
  · split at h
    · rename_i q
      rw [Bool.and_eq_true] at q
      cases h; exact .inr ⟨q.1, q.2, rfl⟩
    · cases h
theorem dec_strV (x y : Str) : decide (V.str x = V.str y) = decide (x = y) := by
  by_cases h : x = y
  · subst h; simp
  · rw [decide_eq_false h, decide_eq_false fun z => h (V.str.inj z)]
theorem r_eq : R2D K (fun x y H Q => rEq x y H Q ∨ rEqD K id x y H Q) pEq := by
  intro g σ H fa O s x y d1 d2 d Q I r1 r2 e k
  rcases pEq_cases e with ⟨a, b, rfl, rfl, rfl⟩ | ⟨h1, h2, rfl⟩
  · simp only [RepB, Rep] at r1 r2
    obtain ⟨rfl, _⟩ := r1
    obtain ⟨rfl, _⟩ := r2
    exact .inl ⟨rfl, k _ H StE.refl I (by simp only [Rep, dec_strV])⟩
  · exact .inr ⟨_, _, d1, d2, r1, r2, h1, h2, k _ H StE.refl I (by simp only [Rep, id])⟩
theorem r_ne : R2D K (fun x y H Q => rNe x y H Q ∨ rEqD K not x y H Q) pNe := by
  intro g σ H fa O s x y d1 d2 d Q I r1 r2 e k
  rcases pNe_cases e with ⟨a, b, rfl, rfl, rfl⟩ | ⟨h1, h2, rfl⟩
  · simp only [RepB, Rep] at r1 r2
    obtain ⟨rfl, _⟩ := r1
    obtain ⟨rfl, _⟩ := r2
    exact .inl ⟨rfl, k _ H StE.refl I (by simp only [Rep, dec_strV])⟩
  · exact .inr ⟨_, _, d1, d2, r1, r2, h1, h2, k _ H StE.refl I (by simp only [Rep])⟩

def pIx : D → D → Option D
  | .tup ds, .int i => atI ds i
  | .lst ds, .int i => atI ds i
  | _, _ => none
theorem atI_rep {N : Addr → Prop} {fa : Option Addr} {H : Hp} {ds : List D} {xs : List V} {i : Int} {d : D} (r : Reps K N fa H ds xs) (h : atI ds i = some d) : ∃ v, atI xs i = some v ∧ Rep K N fa H d v := by
  unfold atI at h ⊢
  rw [r.length]
  cases e : ixN ds.length i with
  | none => rw [e] at h; cases h
  | some j =>
    rw [e] at h
    simp only [Option.bind_some] at h ⊢
    exact Reps.get r h
theorem r_ix : R2D K (fun x y H Q => rIxL K x y H Q ∨ rIxT K x y H Q) pIx := by
  intro g σ H fa O s x y d1 d2 d Q I r1 r2 e k
  cases d1 with
  | tup ds =>
    cases d2 with
    | int i =>
      simp only [RepB, Rep] at r1 r2
      obtain ⟨a, xs, rfl, q, w⟩ := r1
      obtain ⟨v, hv, rv⟩ := atI_rep w (show atI ds i = some d from e)
      exact .inr ⟨a, xs, i, v, rfl, r2, q, hv, k v H StE.refl I rv⟩
    | _ => cases e
  | lst ds =>
    cases d2 with
    | int i =>
      obtain ⟨a, xs, rfl, _, q, w⟩ := r1
      simp only [RepB, Rep] at r2
      obtain ⟨v, hv, rv⟩ := atI_rep w (show atI ds i = some d from e)
      exact .inl ⟨a, xs, i, v, rfl, r2, SqL.of q, hv, k v H StE.refl I rv⟩
    | _ => cases e
  | _ => cases e
theorem ix_D : IxR X (fun x y H Q => rIxL X.K x y H Q ∨ rIxT X.K x y H Q) := ix_list.or ix_tup
end

def dCB (p : List D → Option D) (f : DA) : DE := fun s => (f s).bind fun x => (p x.1).map fun d => (d, x.2)
section
variable {X : Cx} {g : Gh} {x : Str} {p pos : Pos} {e : Expr} {es : List Expr} {t : DA} {id T : String} {r : List V → Hp → VK → Prop} {pr : List D → Option D} {pf : List D → Option (List D)}
theorem cb_w (hr : RCD X.K r pr) (σ : L2.St) (H : Hp) (Q : VK) (h : liftE X.K g (dCB pr t) σ H Q) : tCB r (liftBA X.K g t) σ H Q := by
  obtain ⟨f0, O, s, d, s', I, e, k⟩ := h
  refine bindP e fun ds s1 h1 h => ?_
  refine mapQ h fun d' h3 h => ?_
  simp only [Prod.mk.injEq] at h
  obtain ⟨e1, e2⟩ := h
  subst e1; subst e2
  exact ⟨f0, O, s, ds, s1, I, h1, fun vs H1 f1 O1 a1 I1 r1 => hr g σ H1 f1 O1 s1 vs ds d' Q I1 r1 h3 fun z H3 a3 I3 r3 => k z H3 f1 O1 (a1.trans a3) I3 r3⟩
theorem eo_cb (hc : CallR X (.builtin id) r) (hr : RCD X.K r pr) (hg : Gl X x) (hm : X.mg x = none) (hv : bootBuiltins x = some (.builtin id)) (ha : BAO X g (e :: es) t) (hn : x ≠ "__name__" := by decide) (hdb : (x == ("__debug__" : Str)) = false := by decide)
    (he : starEach (e :: es) X.env = (false, eval e X.env) :: starEach es X.env := by rfl) (hpl : (backTo pos (starEach es X.env)).any (·.1) = false := by rfl) : EO X g (.Call (.Name x p) (e :: es) [] pos) (dCB pr t) :=
  EO.w (pe_callB hc hg hm hv ha.pe hn hdb he hpl) (cb_w hr)
theorem eo_cty (hc : CallR X (.type T) r) (hr : RCD X.K r pr) (hg : Gl X x) (hm : X.mg x = none) (hv : bootBuiltins x = some (.type T)) (ha : BAO X g (e :: es) t) (hn : x ≠ "__name__" := by decide) (hdb : (x == ("__debug__" : Str)) = false := by decide)
    (he : starEach (e :: es) X.env = (false, eval e X.env) :: starEach es X.env := by rfl) (hpl : (backTo pos (starEach es X.env)).any (·.1) = false := by rfl) : EO X g (.Call (.Name x p) (e :: es) [] pos) (dCB pr t) :=
  EO.w (pe_callTy hc hg hm hv ha.pe hn hdb he hpl) (cb_w hr)
end
theorem repBs1 {K : PySem.W.Frag} {N : Addr → Prop} {fa : Option Addr} {H : Hp} {d : D} {xs : List V} (r : RepBs K N fa H [d] xs) : ∃ x, xs = [x] ∧ RepB K N fa H d x := by
  obtain ⟨x, ys, rfl, r1, r2⟩ := r
  simp only [RepBs] at r2; subst r2
  exact ⟨x, rfl, r1⟩
def one {α : Type} (p : D → Option α) : List D → Option α
  | [d] => p d
  | _ => none
theorem one_some {α : Type} {p : D → Option α} {ds : List D} {a : α} (h : one p ds = some a) : ∃ d, ds = [d] ∧ p d = some a := by
  cases ds with
  | nil => cases h
  | cons d r =>
    cases r with
    | nil => exact ⟨d, rfl, h⟩
    | cons _ _ => cases h
def pLen : D → Option D
  | .tup ds => some (.int (ds.length : Nat))
  | .lst ds => some (.int (ds.length : Nat))
  | .str x => some (.int (x.length : Nat))
  | _ => none
def pAbs : D → Option D
  | .int i => some (.int (if i < 0 then -i else i))
  | _ => none
def pTuple : D → Option D
  | .tup ds => some (.tup ds)
  | .lst ds => some (.tup ds)
  | _ => none
def showOk (d : D) : Bool := d.plain && d.py.showable && d.py.canLay0 && decide (d.py.depth ≤ 64) && decide (d.py.shown.length ≤ sizeLine)
def pRepr (d : D) : Option D := if showOk d then some (.str d.py.shown) else none
section
variable {X : Cx} {K : PySem.W.Frag}
theorem c_len : CallR X (.builtin "len") (fun xs H Q => (∃ p ys, xs = [.ref p] ∧ (SqL X.K H p ys ∨ SqT X.K H p ys) ∧ Q (.int ys.length) H) ∨ (∃ z, xs = [.str z] ∧ z.length ≤ sizeLine ∧ Q (.int z.length) H)) := call_len_seq.or call_len_str
theorem rc1 {r : List V → Hp → VK → Prop} {p : D → Option D} (h : ∀ (g : Gh) (σ : L2.St) (H : Hp) (fa : Option Addr) (O : List Addr) (s : DS) (x : V) (d1 d : D) (Q : VK), GI K g σ H fa O s → RepB K (NN g.F fa O) fa H d1 x → p d1 = some d →
    (∀ v H', StE fa O H fa O H' → GI K g σ H' fa O s → Rep K (NN g.F fa O) fa H' d v → Q v H') → r [x] H Q) : RCD K r (one p) := by
  intro g σ H fa O s xs ds d Q I rs e k
  obtain ⟨d1, rfl, e1⟩ := one_some e
  obtain ⟨x, rfl, rx⟩ := repBs1 rs
  exact h g σ H fa O s x d1 d Q I rx e1 k
theorem r_len : RCD K (fun xs H Q => (∃ p ys, xs = [.ref p] ∧ (SqL K H p ys ∨ SqT K H p ys) ∧ Q (.int ys.length) H) ∨ (∃ z, xs = [.str z] ∧ z.length ≤ sizeLine ∧ Q (.int z.length) H)) (one pLen) := rc1 fun g σ H fa O s x d1 d Q I r e k => by
  cases d1 with
  | tup es =>
    cases e
    simp only [RepB, Rep] at r
    obtain ⟨a, ys, rfl, q, w⟩ := r
    exact .inl ⟨a, ys, rfl, .inr q, k _ H StE.refl I (by rw [w.length]; simp only [Rep])⟩
  | lst es =>
    cases e
    obtain ⟨a, ys, rfl, _, q, w⟩ := r
    exact .inl ⟨a, ys, rfl, .inl (SqL.of q), k _ H StE.refl I (by rw [w.length]; simp only [Rep])⟩
  | str z =>
    cases e
    simp only [RepB, Rep] at r
    obtain ⟨rfl, l⟩ := r
    exact .inr ⟨z, rfl, l, k _ H StE.refl I (by simp only [Rep])⟩
  | _ => cases e
theorem r_abs : RCD K (fun xs H Q => ∃ i, xs = [.int i] ∧ Q (.int (if i < 0 then -i else i)) H) (one pAbs) := rc1 fun g σ H fa O s x d1 d Q I r e k => by
  cases d1 with
  | int i =>
    cases e
    simp only [RepB, Rep] at r
    subst r
    exact ⟨i, rfl, k _ H StE.refl I (by simp only [Rep])⟩
  | _ => cases e
theorem r_tuple : RCD K (fun xs H Q => ∃ p ys, xs = [.ref p] ∧ ((SqL K H p ys ∧ ∀ l, H l = none → Q (.ref l) (upd H l (.tup ys))) ∨ (SqT K H p ys ∧ Q (.ref p) H))) (one pTuple) := rc1 fun g σ H fa O s x d1 d Q I r e k => by
  cases d1 with
  | tup es =>
    cases e
    simp only [RepB, Rep] at r
    obtain ⟨a, ys, rfl, q, w⟩ := r
    exact ⟨a, ys, rfl, .inr ⟨q, k _ H StE.refl I (by simp only [Rep]; exact ⟨a, ys, rfl, q, w⟩)⟩⟩
  | lst es =>
    cases e
    obtain ⟨a, ys, rfl, _, q, w⟩ := r
    refine ⟨a, ys, rfl, .inl ⟨SqL.of q, fun p hp => ?_⟩⟩
    have a2 : StE fa O H fa O (upd H p (.tup ys)) := stE_new hp
    refine k _ _ a2 (I.new hp) ?_
    simp only [Rep]
    exact ⟨p, ys, rfl, SqT.of upd_same, Reps.stp I a2.stp w⟩
  | _ => cases e
def rRepr (K : PySem.W.Frag) : List V → Hp → VK → Prop := fun xs H Q => ∃ N fa d x, xs = [x] ∧ RepB K N fa H d x ∧ showOk d = true ∧ Q (.str d.py.shown) H
theorem c_repr (hu : X.A.units + 66 < cLine) (hg : X.A.guards = some []) : CallR X (.builtin "repr") (rRepr X.K) := by
  intro pins s σ H xs us Q I r h
  obtain ⟨N, fa, d, x, rfl, rx, ok, q⟩ := h
  obtain ⟨u, rfl, ru⟩ := vals1 r
  unfold showOk at ok
  simp only [Bool.and_eq_true, decide_eq_true_eq] at ok
  obtain ⟨⟨⟨⟨hp, hs⟩, hl⟩, hd⟩, hz⟩ := ok
  obtain ⟨as, ra⟩ := reads_of I d x u rx.o ru hp
  have fin : ∀ (h' : Heap) (tk : Nat) (t : Tok), (∀ b o, s.heap.get? b = some o → h'.get? b = some o) → EP X pins σ Q (.str d.py.shown t) { s with heap := h', toks := tk } := fun h' tk t hk => ⟨.str d.py.shown, H, I.kept hk, ⟨t, rfl⟩, q⟩
  cases d with
  | non =>
    simp only [RepB, Rep] at rx; subst rx; cases ru
    exact P.repr_of_none (fin s.heap _ _ fun _ _ e => e)
  | bl b =>
    simp only [RepB, Rep] at rx; subst rx; cases ru
    have := fin s.heap (s.toks + 1) s.toks fun _ _ e => e
    refine P.repr_of_bool ?_
    cases b <;> simpa only [D.py, PyData.shown] using this
  | int i =>
    simp only [RepB, Rep] at rx; subst rx
    obtain ⟨t, rfl⟩ := ru
    have := fin s.heap (s.toks + 1) s.toks fun _ _ e => e
    simp only [D.py, PyData.showable, decide_eq_true_eq] at hs
    exact P.repr_of_int hs (by simpa only [D.py, PyData.shown] using this)
  | str z =>
    simp only [RepB, Rep] at rx; obtain ⟨rx, _⟩ := rx; subst rx
    obtain ⟨t, rfl⟩ := ru
    have := fin s.heap (s.toks + 1) s.toks fun _ _ e => e
    exact P.repr_of_str (by simpa only [D.py, PyData.shown] using this) (by simpa only [D.py, PyData.shown] using hz)
  | tup ds =>
    simp only [RepB, Rep] at rx
    obtain ⟨a, ys, rfl, _⟩ := rx
    cases ru
    exact repr_of_reads' ra hs (PyData.noDict_hsm (PyData.hasDict_of_canLay _ hl)) hg (by omega) (fun _ _ e => e) (fun h' t tk hk => fin h' tk t hk) hz
  | lst ds =>
    obtain ⟨a, ys, rfl, _⟩ := rx
    cases ru
    exact repr_of_reads' ra hs (PyData.noDict_hsm (PyData.hasDict_of_canLay _ hl)) hg (by omega) (fun _ _ e => e) (fun h' t tk hk => fin h' tk t hk) hz
  | feed => cases hp
  | scr _ => cases hp
theorem r_repr : RCD K (rRepr K) (one pRepr) := rc1 fun g σ H fa O s x d1 d Q I r e k => by
  unfold pRepr at e
  by_cases h : showOk d1 = true
  · rw [if_pos h] at e
    cases e
    refine ⟨_, _, d1, x, rfl, r, h, k _ H StE.refl I ?_⟩
    simp only [Rep]
    unfold showOk at h
    simp only [Bool.and_eq_true, decide_eq_true_eq] at h
    exact ⟨trivial, h.2⟩
  · rw [if_neg h] at e; cases e
end
end DL

namespace DL
open PySem PySem.Spec L2

def FS.get (key : Str) (f : FS) : Option D :=
  if f.kind = 0 then if key = "cells" then some (.lst (f.cells.map .int)) else if key = "at" then some (.int f.pos) else if key = "left" then some (.int f.left) else if key = "turn" then some (.int f.turn) else none else none
def FS.put (key : Str) (n : Int) (f : FS) : Option FS :=
  if f.kind = 0 then if key = "at" then some { f with pos := n } else if key = "left" then some { f with left := n } else if key = "turn" then some { f with turn := n } else none else none
def dFG (i : Nat) (key : Str) : DE := fun s => match s.sl[i]? with
  | some (.val .feed) => s.fs.bind fun f => (f.get key).map fun d => (d, s)
  | _ => none
def dFP (i : Nat) (key : Str) (fe : DE) : DM := fun s => (fe s).bind fun x => match x.2.sl[i]?, x.1 with
  | some (.val .feed), .int n => x.2.fs.bind fun f => (f.put key n).map fun f' => (.next, { x.2 with fs := some f' })
  | _, _ => none
section
variable {X : Cx} {g : Gh} {i : Nat} {x key : Str} {p1 p2 pos pos' : Pos} {j : Nat}
theorem cut_all (xs : List V) (h : xs.length ≤ 63) : cutV xs none (some 63) = xs := by
  unfold cutV
  have e1 : HT.sIx xs.length 0 none = 0 := rfl
  have e2 : HT.sIx xs.length xs.length (some 63) = xs.length := by
    have := HT.sIx_nat xs.length xs.length 63
    rw [show ((63 : Nat) : Int) = 63 from rfl] at this
    rw [this]; omega
  rw [e1, e2, List.drop_zero, Nat.sub_zero, List.take_length]
end
end DL
namespace DL
open PySem PySem.Spec L2
def FS.tget (n : Int) (f : FS) : Option D :=
  if f.kind = 0 then none else if n = 0 then some (.lst (f.cells.map .int)) else if n = 1 then some (.int f.pos) else if n = 2 then some (.int f.left) else if n = 3 ∧ f.kind ≠ 1 then some (.int f.turn) else none
def FS.tput (n v : Int) (f : FS) : Option FS :=
  if f.kind = 0 then none else if n = 1 then some { f with pos := v } else if n = 2 then some { f with left := v } else if n = 3 ∧ f.kind ≠ 1 then some { f with turn := v } else none
def dTG (i : Nat) (n : Int) : DE := fun s => match s.sl[i]? with
  | some (.val .feed) => s.fs.bind fun f => (f.tget n).map fun d => (d, s)
  | _ => none
def dTP (i : Nat) (n : Int) (fe : DE) : DM := fun s => (fe s).bind fun x => match x.2.sl[i]?, x.1 with
  | some (.val .feed), .int v => x.2.fs.bind fun f => (f.tput n v).map fun f' => (.next, { x.2 with fs := some f' })
  | _, _ => none
def dTN (i : Nat) : DE := fun s => match s.sl[i]?, s.fs with
  | some (.val (.scr ns)), none => some (.feed, { s with fs := some ⟨ns, 0, 0, 0, 1⟩ })
  | _, _ => none
theorem FS.tget_val {n : Int} {f : FS} {d : D} (h : f.tget n = some d) (c : Addr) : ∃ v, atI (titems c f) n = some v ∧ ((v = .ref c ∧ d = .lst (f.cells.map .int)) ∨ ∃ i, v = .int i ∧ d = .int i) ∧ f.kind ≠ 0 := by
  unfold FS.tget at h
  split at h
  · cases h
  rename_i hk
  unfold titems
  split at h
  · rename_i e; subst e; cases h
    refine ⟨.ref c, ?_, .inl ⟨rfl, rfl⟩, hk⟩
    split <;> rfl
  split at h
  · rename_i e; subst e; cases h
    refine ⟨.int f.pos, ?_, .inr ⟨_, rfl, rfl⟩, hk⟩
    split <;> rfl
  split at h
  · rename_i e; subst e; cases h
    refine ⟨.int f.left, ?_, .inr ⟨_, rfl, rfl⟩, hk⟩
    split <;> rfl
  split at h
  · rename_i e; obtain ⟨e, e2⟩ := e; subst e; cases h
    refine ⟨.int f.turn, ?_, .inr ⟨_, rfl, rfl⟩, hk⟩
    rw [if_neg e2]; rfl
  · cases h
theorem FS.tput_val {n v : Int} {f f' : FS} (h : f.tput n v = some f') (c : Addr) : ∃ j, ixN (titems c f).length n = some j ∧ (titems c f).set j (.int v) = titems c f' ∧ f'.cells = f.cells ∧ f.kind ≠ 0 ∧ f'.kind ≠ 0 := by
  unfold FS.tput at h
  split at h
  · cases h
  rename_i hk
  split at h
  · rename_i e; subst e; cases h
    refine ⟨1, ?_, ?_, rfl, hk, hk⟩
    · unfold titems; split <;> rfl
    · by_cases z : f.kind = 1
      · simp [titems, z]
      · simp [titems, z]
  split at h
  · rename_i e; subst e; cases h
    refine ⟨2, ?_, ?_, rfl, hk, hk⟩
    · unfold titems; split <;> rfl
    · by_cases z : f.kind = 1
      · simp [titems, z]
      · simp [titems, z]
  split at h
  · rename_i e; obtain ⟨e, e2⟩ := e; subst e; cases h
    refine ⟨3, ?_, ?_, rfl, hk, hk⟩
    · unfold titems; rw [if_neg e2]; rfl
    · simp [titems, e2]
  · cases h
section
variable {X : Cx} {g : Gh} {i : Nat} {x : Str} {n : Int} {p1 p2 pos pos' : Pos} {j : Nat}
theorem eo_tget (hv : PE X (.Name x p1) (tVar i)) : EO X g (.Subscript (.Name x p1) (.Constant (.int n) j p2) pos) (dTG i n) :=
  EO.w (pe_ix ix_list hv pe_int (fun _ _ => rfl)) fun σ H Q hQ => by
    refine hQ.elim fun fa O s d s' I e k => ?_
    unfold dTG at e
    cases q : s.sl[i]? with
    | none => rw [q] at e; cases e
    | some z =>
      rw [q] at e
      cases z with
      | no => cases e
      | own _ => cases e
      | val dz =>
        cases dz with
        | feed =>
          refine bindQ e fun f h1 h2 => ?_
          refine mapQ h2 fun d' h3 h4 => ?_
          cases h4
          obtain ⟨u, e1, r⟩ := SlR.val I.sl q
          simp only [Rep] at r
          obtain ⟨a, ha, rfl⟩ := r
          have fd := I.fd
          rw [h1, ha] at fd
          obtain ⟨_, c, hc, nc, lc⟩ := fd
          obtain ⟨v, hval, hd, hk⟩ := FS.tget_val h3 c
          rw [fho_t hk] at hc
          refine ⟨_, e1, a, _, n, v, rfl, rfl, SqL.of hc, hval, k v H fa O StE.refl I ?_⟩
          rcases hd with ⟨rfl, rfl⟩ | ⟨n, rfl, rfl⟩
          · simp only [Rep]
            exact ⟨c, _, rfl, by rw [ha]; exact nc, lc, Reps.ints⟩
          · simp only [Rep]
        | _ => cases e
theorem s_tput {e : Expr} {fe : DE} (hv : PE X (.Name x p1) (tVar i)) (he : EO X g e fe) (hs : swapsWithSole [.Subscript (.Name x p1) (.Constant (.int n) j p2) pos'] e pos.line X.env = pure false := by rfl) (hw : swappedStores [.Subscript (.Name x p1) (.Constant (.int n) j p2) pos'] e X.env = pure none := by rfl) :
    SO X g (.Assign [.Subscript (.Name x p1) (.Constant (.int n) j p2) pos'] e pos) (dTP i n fe) :=
  SO.w (ps_asg he.pe (pg_sub hv pe_int set_list) hs hw) fun E σ H hQ => by
    refine hQ.elim fun fa O s fl s' I q k => ?_
    refine bindP q fun d s1 h1 h2 => ?_
    simp only [] at h2
    cases q1 : s1.sl[i]? with
    | none => rw [q1] at h2; cases h2
    | some z =>
      rw [q1] at h2
      cases z with
      | no => cases h2
      | own _ => cases h2
      | val dz =>
        cases dz with
        | feed =>
          cases d with
          | int w =>
            simp only [] at h2
            refine bindQ h2 fun f h3 h4 => ?_
            refine mapQ h4 fun f' h5 h6 => ?_
            cases h6
            refine ⟨fa, O, s, .int w, s1, I, h1, fun v H1 f1 O1 a1 I1 r => ?_⟩
            simp only [Rep] at r
            subst r
            obtain ⟨u, e1, ru⟩ := SlR.val I1.sl q1
            simp only [Rep] at ru
            obtain ⟨a, ha, rfl⟩ := ru
            have fd := I1.fd
            rw [h3, ha] at fd
            obtain ⟨lc63, c, hc, nc, lc⟩ := fd
            obtain ⟨m, hix, hput, hcell, hk, hk'⟩ := FS.tput_val h5 c
            rw [fho_t hk] at hc
            refine ⟨_, e1, a, _, n, m, rfl, rfl, hc, hix, ?_⟩
            rw [hput]
            have a2 : StE f1 O1 H1 f1 O1 (upd H1 a (.lst (titems c f'))) := ⟨fun _ h => h, .inl rfl, fun b w e nb => by rw [upd_ne (fun z => nb (by rw [z]; exact ha))]; exact e, fun b z => by
              by_cases hb : b = a
              · subst hb; rw [upd_same] at z; cases z
              · rw [upd_ne hb] at z; exact z⟩
            have cr := I1.car a2.stp
            refine k σ _ f1 O1 (a1.stp.trans a2.stp) ⟨I1.nd, SlR.go cr (fun b xs hb e => a2.same b _ e fun z => I1.nf b z hb) I1.sl, I1.fr, ?_, I1.tr, I1.ff, ?_, I1.nf⟩
            · refine ⟨fun b hb => (by cases hb), I1.st.fe, fun b w e _ nb => ?_, fun b z => I1.st.mon b (a2.mon b z)⟩
              refine a2.same b w (I1.st.same b w e (by simp) nb) fun z => ?_
              rcases I1.st.fe with y | ⟨y, y2⟩
              · rw [y] at z; exact nb z
              · rw [y2 b z] at e; cases e
            · rw [ha]
              refine ⟨by rw [hcell]; exact lc63, c, by rw [fho_t hk', upd_same], nc, ?_⟩
              rw [upd_ne (fun z => nc (.inr (.inr (by rw [z])))), hcell]
              exact lc
          | _ => cases h2
        | _ => cases h2
theorem eo_tape {j63 j0 j1 : Nat} {q5 q6 q7 q8 q9 : Pos} (hv : PE X (.Name x p1) (tVar i)) :
    EO X g (.List [.Subscript (.Name x p1) (.Slice none (some (.Constant (.int 63) j63 q5)) none q6) q7, .Constant (.int 0) j0 q8, .Constant (.int 0) j1 q9] pos) (dTN i) :=
  EO.w (pe_lst (pa_cons (pe_slice sl_list hv po_none (po_some pe_int)) (pa_cons pe_int (pa_cons pe_int pa_nil)))) fun σ H Q hQ => by
    refine hQ.elim fun fa O s d s' I e k => ?_
    unfold dTN at e
    cases q : s.sl[i]? with
    | none => rw [q] at e; cases e
    | some z =>
      rw [q] at e
      cases z with
      | no => cases e
      | own _ => cases e
      | val dz =>
        cases dz with
        | scr ns =>
          cases hf : s.fs with
          | some f => rw [hf] at e; cases e
          | none =>
            rw [hf] at e
            cases e
            obtain ⟨u, e1, r⟩ := SlR.val I.sl q
            simp only [Rep] at r
            obtain ⟨l63, a, rfl, sq⟩ := r
            have fd := I.fd
            rw [hf] at fd
            have fan : fa = none := by cases fa with | none => rfl | some _ => exact fd.elim
            subst fan
            refine ⟨_, e1, 63, rfl, a, _, rfl, sq.sq, fun c hcH => ?_⟩
            rw [cut_all _ (by rw [List.length_map]; exact l63)]
            refine ⟨by show 3 ≤ sizeLine; decide, fun p hp' => ?_⟩
            have npc : c ≠ p := fun z => by rw [← z, upd_same] at hp'; cases hp'
            have hp : H p = none := by rw [upd_ne (Ne.symm npc)] at hp'; exact hp'
            have fresh : ∀ b u, H b = some u → b ≠ p ∧ b ≠ c := fun b u e => ⟨ne_of_none e hp, ne_of_none e hcH⟩
            have a2 : StE none O H (some p) O (upd (upd H c (.lst (ns.map V.int))) p (.lst [V.ref c, V.int 0, V.int 0])) := by
              refine ⟨fun _ h => h, .inr ⟨rfl, fun b z => by cases z; exact hp⟩, fun b u e _ => ?_, fun b z => ?_⟩
              · obtain ⟨n1, n2⟩ := fresh b u e
                rw [upd_ne n1, upd_ne n2]; exact e
              · by_cases h1 : b = p
                · subst h1; exact hp
                · by_cases h2 : b = c
                  · subst h2; exact hcH
                  · rw [upd_ne h1, upd_ne h2] at z; exact z
            have cr := I.car a2.stp
            refine k _ _ (some p) O a2 ⟨I.nd, SlR.go cr (fun b xs hb e => a2.same b _ e (by simp)) I.sl, I.fr, I.st.trans ⟨fun b hb => (by cases hb), a2.fe, fun b u e _ n => a2.same b u e n, a2.mon⟩, I.tr, I.ff, ?_, I.nf_step a2.fe⟩ (by simp only [Rep]; exact ⟨p, rfl, rfl⟩)
            refine ⟨l63, c, upd_same, ?_, ?_⟩
            · rintro (z | z | z)
              · exact I.trF z hcH
              · obtain ⟨xs, e⟩ := I.owned z
                rw [hcH] at e; cases e
              · exact npc (Option.some.inj z).symm
            · rw [upd_ne npc, upd_same]
        | _ => cases e
end
end DL

namespace DL
open PySem PySem.Spec L2

/-- a def of the text, ready to be called -/
structure Cal (P : Program) (w : World) (K : PySem.W.Frag) (mg : Str → Option Value) (base : Heap) (k : Nat) (x : Str) (ps : List Str) (m : DFn) : Prop where
  ex : ∃ (f : Addr) (fd : FuncData), FnD P w K mg base k f fd ps m ∧ mg x = some (.ref f) ∧ PySem.W.keepIn K (.ref f) = true ∧ Binds K fd ps []
/-- Python's own names are not bound by the text -/
structure Blt (mg : Str → Option Value) : Prop where
  len : mg "len" = none
  range : mg "range" = none
  abs : mg "abs" = none
  tuple : mg "tuple" = none
  list : mg "list" = none
  int : mg "int" = none
  bool : mg "bool" = none
  str : mg "str" = none
  repr : mg "repr" = none
  all : mg "all" = none
  isinstance : mg "isinstance" = none
  zip : mg "zip" = none
  enumerate : mg "enumerate" = none
  min : mg "min" = none
  max : mg "max" = none
  reversed : mg "reversed" = none
  any : mg "any" = none
  sum : mg "sum" = none
  sorted : mg "sorted" = none
section
variable {X : Cx} {g : Gh} {k : Nat} {ps : List Str} {m : DFn} {x : Str} {p pos : Pos} {e : Expr} {es : List Expr} {t : DA}
theorem eo_calC (C : Cal X.prog X.w X.K X.mg X.base k x ps m) (k' : Nat) (hr : Room k' X.A) (hk : k ≤ k') (hg : Gl X x)
    (ha : AO X g (e :: es) t) (hn : ∀ s ds s', t s = some (ds, s') → ds.length = ps.length) (hdb : (x == ("__debug__" : Str)) = false := by decide) (he : starEach (e :: es) X.env = (false, eval e X.env) :: starEach es X.env := by rfl) (hpl : (backTo pos (starEach es X.env)).any (·.1) = false := by rfl) :
    EO X g (.Call (.Name x p) (e :: es) [] pos) (dCall m t) := by
  obtain ⟨f, fd, F, hm, hkp, hb⟩ := C.ex
  exact eo_call F (hr.mono hk) hg hm hkp hb ha hn hdb he hpl
end
theorem cal_of {P : Program} {w : World} {K : PySem.W.Frag} {mg : Str → Option Value} {base : Heap} {x : Str} {st : Stmt} {f : Addr} {fd : FuncData} {N ps : List Str} {k : Nat} {b : DM} (F : Fun K x x st f fd) (hm : mg x = some (.ref f)) (hb : Binds K fd ps []) (S : FnScope N ps (defScope st))
    (hbody : ∀ (cdv : Value) (A : Around) (outer : List Env) (s : Shared) (H : Hp) (E : XK) (g : Gh), Room k (A.deeper (PyProof.Rows.envOfC x (defScope st) s.heap.objs.size f cdv)) → SSO (cxOf CX0 P w K mg base N x (defScope st) f cdv A outer s H E).nox g (defBody st) b) :
    Cal P w K mg base (k + 1) x ps (mFn N.length b) := ⟨f, fd, fn_D F S hbody, hm, F.kp, hb⟩
theorem u64 {A : Around} {k : Nat} (hr : Room k A) : A.units + 64 < cLine := by have := hr.un; omega
theorem u66 {A : Around} {k : Nat} (hr : Room k A) : A.units + 66 < cLine := by have := hr.un; omega
theorem boot_len' : bootBuiltins ("len" : Str) = some (.builtin "len") := by decide +kernel
theorem boot_abs' : bootBuiltins ("abs" : Str) = some (.builtin "abs") := by decide +kernel
theorem boot_repr' : bootBuiltins ("repr" : Str) = some (.builtin "repr") := by decide +kernel
theorem boot_tuple' : bootBuiltins ("tuple" : Str) = some (.type "tuple") := by decide +kernel
theorem lookup_mem {κ : Type} [BEq κ] [LawfulBEq κ] {β : Type} : ∀ {l : List (κ × β)} {x : κ} {v : β}, l.lookup x = some v → (x, v) ∈ l
  | [], _, _, h => by simp at h
  | (a, b) :: r, x, v, h => by
    rw [List.lookup_cons] at h
    cases e : x == a with
    | true =>
      rw [e] at h
      cases h
      rw [eq_of_beq e]
      exact List.mem_cons_self ..
    | false =>
      rw [e] at h
      exact List.mem_cons_of_mem _ (lookup_mem h)
def hasAll (names : List (Str × NameKind)) (cl : List (Str × Addr)) : Bool := names.all fun p => !(p.2 == .cell || p.2 == .free) || (cl.lookup p.1).isSome
theorem has_of {names : List (Str × NameKind)} {cl : List (Str × Addr)} (h : hasAll names cl = true) : ∀ x, (names.lookup x = some .cell ∨ names.lookup x = some .free) → ∃ c, cl.lookup x = some c := fun x hx => by
  have key : ∀ kd, names.lookup x = some kd → (kd == NameKind.cell || kd == NameKind.free) = true → ∃ c, cl.lookup x = some c := fun kd e q => by
    have m := lookup_mem e
    have z := List.all_eq_true.mp h _ m
    simp only [q, Bool.not_true, Bool.false_or] at z
    exact Option.isSome_iff_exists.mp z
  rcases hx with e | e
  · exact key _ e rfl
  · exact key _ e rfl
inductive CapL (X : Cx) (scope : Scope) : List Nat → List Str → Prop where
  | nil : CapL X scope [] []
  | cons {i : Nat} {y : Str} {r : List Nat} {ys : List Str} (h1 : X.N[i]? = some y) (h2 : X.env.scope.names.lookup y = some .cell ∨ X.env.scope.names.lookup y = some .free)
      (h3 : (relabel scope X.env).names.lookup y = some .cell ∨ (relabel scope X.env).names.lookup y = some .free) (t : CapL X scope r ys) : CapL X scope (i :: r) (y :: ys)
theorem CapL.len {X : Cx} {scope : Scope} : ∀ {idx : List Nat} {ys : List Str}, CapL X scope idx ys → ys.length = idx.length
:= by
  intro idx ys h
  induction h with
  | nil => rfl
  | cons _ _ _ t ih => rw [List.length_cons, List.length_cons, ih]
theorem CapL.at {X : Cx} {scope : Scope} : ∀ {idx : List Nat} {ys : List Str}, CapL X scope idx ys → ∀ (j i : Nat) (y : Str), idx[j]? = some i → ys[j]? = some y →
    X.N[i]? = some y ∧ (X.env.scope.names.lookup y = some .cell ∨ X.env.scope.names.lookup y = some .free) ∧ ((relabel scope X.env).names.lookup y = some .cell ∨ (relabel scope X.env).names.lookup y = some .free)
:= by
  intro idx ys h
  induction h with
  | nil => intro j i y h; cases h
  | cons h1 h2 h3 t ih =>
    intro j i y e1 e2
    cases j with
    | zero =>
      cases e1
      cases e2
      exact ⟨h1, h2, h3⟩
    | succ j => exact ih j i y e1 e2
inductive SubL (cells : List (Str × Addr)) : List (Str × Addr) → Prop where
  | nil : SubL cells []
  | cons {x : Str} {c : Addr} {r : List (Str × Addr)} (h : cells.lookup x = some c) (t : SubL cells r) : SubL cells ((x, c) :: r)
theorem SubL.mem {cells : List (Str × Addr)} : ∀ {cl : List (Str × Addr)}, SubL cells cl → ∀ x c, (x, c) ∈ cl → cells.lookup x = some c
:= by
  intro cl h
  induction h with
  | nil => intro x c h; cases h
  | cons e t ih =>
    intro x c h
    rcases List.mem_cons.mp h with z | z
    · cases z; exact e
    · exact ih x c z
theorem compOk1 {X : Cx} {scope : Scope} {cl : List (Str × Addr)} {x : Str} {caps : List Str} {idx : List Nat} (clos : closureFor scope X.env = pure cl) (sub : SubL X.env.cells cl) (cell : ∀ y ∈ scope.names, y.2 ≠ .cell) (kind : scope.kind = .function)
    (names : ∀ y ∈ scope.names, y.2 = .local → scope.names.lookup y.1 = some .local) (has : hasAll (relabel scope X.env).names cl = true) (cap : CapL X scope idx caps) : CompOk X scope cl (x :: caps) 1 idx :=
  ⟨clos, fun y c e => sub.mem y c (lookup_mem e), cell, kind, names, has_of has, by rw [List.length_cons, cap.len, Nat.add_comm], fun j i y e1 e2 => cap.at j i y e1 (by rw [Nat.add_comm] at e2; simpa using e2)⟩
/-- a, b = x, y -/
def dPar (i j : Nat) (f : DA) : DM := fun s => (f s).bind fun x => match x.1 with
  | [a, b] => some (.next, { x.2 with sl := (x.2.sl.set i (.val a)).set j (.val b) })
  | _ => none
section
variable {X : Cx} {g : Gh}
theorem s_par {i j : Nat} {x y : Str} {a b : Expr} {f : DA} {px py pt pos : Pos} {kt k2 pt2} (hc : X.calm = true) (hN : X.N.Nodup) (hi : X.N[i]? = some x) (hj : X.N[j]? = some y) (hij : i ≠ j)
    (hx : X.env.scope.names.lookup x = some .local) (hy : X.env.scope.names.lookup y = some .local) (ha : AO X g [a, b] f)
    (hw : swappedStores [.Tuple [.Name x px, .Name y py] kt pt] (.Tuple [a, b] k2 pt2) X.env = pure (some [x, y]))
    (hs : swapsWithSole [.Tuple [.Name x px, .Name y py] kt pt] (.Tuple [a, b] k2 pt2) pos.line X.env = pure false := by rfl) :
    SO X g (.Assign [.Tuple [.Name x px, .Name y py] kt pt] (.Tuple [a, b] k2 pt2) pos) (dPar i j f) := SO.w (ps_par hc hN hi hj hij hx hy ha.pe hw hs) fun E σ H hQ => by
  refine hQ.elim fun fa O s fl s' I q k => ?_
  refine bindP q fun ds s1 h1 h2 => ?_
  refine ⟨fa, O, s, ds, s1, I, h1, fun vs H1 f1 O1 a1 I1 r => ?_⟩
  match ds, h2, r with
  | [d1, d2], h2, r =>
    simp only [Option.some.injEq, Prod.mk.injEq] at h2
    obtain ⟨e1, e2⟩ := h2
    subst e1; subst e2
    simp only [Reps] at r
    obtain ⟨v, ys, rfl, rv, u, zs, rfl, ru, rfl⟩ := r
    refine ⟨v, u, rfl, ?_⟩
    obtain ⟨P, sub, I2⟩ := I1.put i rv
    have a2 : StE f1 O1 H1 f1 P H1 := stE_sub sub
    obtain ⟨P3, sub3, I3⟩ := I2.put j (Rep.stp I1 a2.stp ru)
    exact k _ H1 f1 P3 (a1.stp.trans (a2.stp.trans (stE_sub sub3).stp)) I3
end
theorem walkD {l : PySem.W.OpenLaw} {q : Program} {loose : List Str} {XP : (Str → Option Value) → Heap → Prop} {YP : World → Heap → Prop} {d : DefRec} {K : Params → PySem.W.Frag} {m : DFn} {k : Nat} (hn : l.most = some 63) (hdf : d.params.defaults = []) (hr : Room k callerA)
    (hY : ∀ (w : World) (h : Heap), YP w h → (K w.params).In h)
    (F : ∀ (w : World) (mg : Str → Option Value) (fa : Addr) (h : Heap), (K w.params).In h → h.Ns mainGlobals mg → mg d.name = some (.ref fa) →
      ∃ fd : FuncData, (∀ (s : Shared) (u : Value), BindsTo s fd ⟨[u], []⟩ [("_law_script", u)]) ∧ ∀ base : Heap, (K w.params).In base → base.Ns mainGlobals mg → FnOk l.prog w (K w.params) mg base CX0 k fa fd ["_law_script"] (spD (K w.params) 1 m))
    (math : ∀ ns : List Int, ns.length ≤ 63 → ∃ fs', m [.scr ns] none = some (.bl true, fs')) :
    PySem.W.WalkO q loose XP YP l.row.toRowW d [] (fun f vs => PySem.call f vs) :=
  L2.walk_of (n := 63) (k := k) (x := "_law_script") (CX := fun _ => CX0) (sp := fun w => spD (K w.params) 1 m) hn (by decide) hdf hr hY F (fun w H a ns hl hO hS => by
    obtain ⟨fs', e⟩ := math ns hl
    refine ⟨fun _ => False, none, [.scr ns], none, .bl true, fs', fun b z => z.elim, fun a z => (by cases z), ?_, trivial, e, rfl, fun v H' fa' _ _ r => by simpa only [Rep] using r⟩
    simp only [Reps, Rep]
    refine ⟨_, _, rfl, ⟨hl, a, rfl, ?_⟩, rfl⟩
    rcases hS with (z | ⟨o, z⟩) | z
    · rcases hO a with y | ⟨o, xs, y⟩ <;> · rw [z] at y; cases y
    · exact .inl ⟨o, z⟩
    · exact .inr z) fun _ _ _ _ _ z => z
end DL

namespace DL
open PySem PySem.Spec L2
section
variable {X : Cx} {g : Gh} {a b c : Expr} {fa fb fc : DE} {pos : Pos}
abbrev DO := DS → Option (Option Int × DS)
def liftO (K : PySem.W.Frag) (g : Gh) (f : DO) : L2.TO := fun σ H Q => ∃ fa O s d s', GI K g σ H fa O s ∧ f s = some (d, s') ∧ ∀ H' fa' O', StE fa O H fa' O' H' → GI K g σ H' fa' O' s' → Q d H'
theorem liftO.elim {K : PySem.W.Frag} {g : Gh} {σ : L2.St} {H : Hp} {G : Prop} {f : DO} {Q : Option Int → Hp → Prop} (h : liftO K g f σ H Q) (k : ∀ fa O s d s', GI K g σ H fa O s → f s = some (d, s') → (∀ H' fa' O', StE fa O H fa' O' H' → GI K g σ H' fa' O' s' → Q d H') → G) : G := by
  obtain ⟨fa, O, s, d, s', a, b, c⟩ := h
  exact k fa O s d s' a b c
structure OO (X : Cx) (g : Gh) (e : Option Expr) (f : DO) : Prop where
  pe : PO X e (liftO X.K g f)
theorem POw {e : Option Expr} {t t' : L2.TO} (h : PO X e t) (w : ∀ σ H Q, t' σ H Q → t σ H Q) : PO X e t' := fun pins s σ H Q I q => h pins s σ H Q I (w σ H Q q)
theorem OO.w {e : Option Expr} {f : DO} {t : L2.TO} (h : PO X e t) (w : ∀ σ H Q, liftO X.K g f σ H Q → t σ H Q) : OO X g e f := ⟨POw h w⟩
end
end DL

namespace HT2
open PySem PyProof.Rows HT
section
variable {prog : Program} {w : World} {A : Around} {E : Value → Shared → Prop} {s : Shared}
end
end HT2
namespace DL
open PySem PySem.Spec L2
section
variable {X : Cx} {g : Gh} {a : Expr} {fa : DE} {pos : Pos}
end
end DL

namespace HT3
open PySem PyProof.Rows HT
section
variable {prog : Program} {w : World} {A : Around} {E : Value → Shared → Prop} {s : Shared}
theorem adjust_rev (n : Nat) : Builtin.Slice.sliceAdjust none none (-1) (n : Int) = ((n : Int) - 1, -1) := by
  have h1 : ((-1 : Int) < 0) := by omega
  unfold Builtin.Slice.sliceAdjust
  simp only [h1, if_true]
theorem places_rev (n : Nat) : Builtin.Slice.slicePlaces ((n : Int) - 1) (-1) (-1) = n := by
  unfold Builtin.Slice.slicePlaces
  have h1 : ¬ ((-1 : Int) > 0) := by omega
  simp only [h1, if_false]
  have e : -(-1 : Int) = 1 := rfl
  rw [e, Int.ediv_one]
  split <;> omega
theorem applied_rev {sl : Addr} {t : Tok} {n : Nat} {Q : Int × Int × Nat → Shared → Prop} (hs : s.heap.IsSliceOf sl .none .none (.int (-1) t))
    (h : Q ((n : Int) - 1, -1, n) s) : wpAny (model prog w) A (Builtin.Slice.sliceApplied (.ref sl) (pure (n : Int))) Q E s := by
  obtain ⟨os, hos, hcs, hds⟩ := id hs
  unfold Builtin.Slice.sliceApplied Builtin.Slice.sliceFields
  refine wpAny_bind (wpAny_bind (wpAny_field hos hds (x := .none) rfl (wpAny_bind (wpAny_field hos hds (x := .none) rfl (wpAny_bind (wpAny_field hos hds (x := .int (-1) t) rfl (wpAny_pure ?_)))))))
  refine wpAny_bind (slicePart_int ?_)
  show wpAny _ _ (if ((-1 : Int) == 0) = true then _ else _) _ _ s
  rw [if_neg (by decide)]
  refine wpAny_bind (slicePart_none (wpAny_bind (slicePart_none (wpAny_bind (wpAny_pure ?_)))))
  show wpAny _ _ (match Builtin.Slice.sliceAdjust none none (-1) (n : Int) with | (lo, hi) => pure (lo, (-1 : Int), Builtin.Slice.slicePlaces lo hi (-1))) _ _ s
  rw [adjust_rev n]
  show wpAny _ _ (pure ((n : Int) - 1, (-1 : Int), Builtin.Slice.slicePlaces ((n : Int) - 1) (-1) (-1))) _ _ s
  rw [places_rev]
  exact wpAny_pure h
theorem pick_rev (xs : Array Value) : ((List.range xs.size).filterMap fun (m : Nat) => xs[(((xs.size : Int) - 1) + (m : Int) * (-1)).toNat]?).toArray = xs.toList.reverse.toArray := by
  congr 1
  have e : ((List.range xs.size).filterMap fun (m : Nat) => xs[(((xs.size : Int) - 1) + (m : Int) * (-1)).toNat]?) = ((List.range xs.size).filterMap fun (m : Nat) => xs.toList.reverse[m]?) := by
    have cg : ∀ (l : List Nat) (f g : Nat → Option Value), (∀ m ∈ l, f m = g m) → l.filterMap f = l.filterMap g := by
      intro l f g
      induction l with
      | nil => intro _; rfl
      | cons a r ih => intro h; rw [List.filterMap_cons, List.filterMap_cons, h a (List.mem_cons_self ..), ih fun m hm => h m (List.mem_cons_of_mem _ hm)]
    refine cg _ _ _ fun m hm => ?_
    have hm' : m < xs.size := List.mem_range.mp hm
    have : (((xs.size : Int) - 1) + (m : Int) * (-1)).toNat = xs.size - 1 - m := by omega
    rw [this, List.getElem?_reverse (by simpa using hm')]
    simp
  rw [e]
  have hl : xs.size = xs.toList.reverse.length := by simp
  rw [hl]
  generalize xs.toList.reverse = l
  clear e hl
  induction l with
  | nil => rfl
  | cons a r ih =>
    rw [List.length_cons, List.range_succ_eq_map, List.filterMap_cons]
    simp only [List.getElem?_cons_zero, List.filterMap_map]
    congr 1
theorem getItem_tuple_rev {t sl : Addr} {items : Array Value} {tk : Tok} {Q : Value → Shared → Prop} (ht : IsTup s.heap t items) (hs : s.heap.IsSliceOf sl .none .none (.int (-1) tk))
    (h : Q (.ref s.heap.objs.size) { s with heap := s.heap.push { cls := .type "tuple", data := .seq items.toList.reverse.toArray } })
    (hsz : items.size ≤ sizeLine) : wpAny (model prog w) A (getItem (.ref t) (.ref sl)) Q E s := by
  have htake : sizeOk (.seq items.toList.reverse.toArray) := by
    show items.toList.reverse.toArray.size ≤ sizeLine
    rw [List.size_toArray, List.length_reverse, Array.length_toList]
    exact hsz
  obtain ⟨os, hos, hcs, hds⟩ := id hs
  have hTs : s.TypeIs (.ref sl) "slice" := ⟨os, hos, hcs⟩
  unfold getItem
  try with_reducible refine wpAny_holding ?_
  first | refine wpAny_bind (wpAny_pure ?_) | skip
  refine wpAny_bind (wpAny_sequenceKey ht.typeIs (by decide) ?_)
  refine wpAny_bind (wpAny_callSpecial?_slot (name := Str.ofString "__getitem__") ht.typeIs PyProof.Rows.slot_tuple_getitem
    (wpAny_call_entry PyProof.Rows.slot_tuple_getitem ht.typeIs entry_tuple_getitem ?_ (args_tuple_getitem _ _)))
  show wpAny _ _ (Builtin.Tuple.tupleItemsOf (.ref t) >>= _) _ _ s
  refine wpAny_bind (tupleItemsOf_ ht ?_)
  refine wpAny_bind (wpAny_typeOf hTs ?_)
  rw [if_pos (by decide)]
  refine wpAny_bind (applied_rev hs ?_)
  have hno : ¬ ((((items.size : Int) - 1) == 0 && (-1 : Int) == 1 && items.size == items.size) = true) := by
    intro q
    rw [Bool.and_eq_true, Bool.and_eq_true] at q
    exact absurd q.1.2 (by decide)
  show wpAny _ _ (if (((items.size : Int) - 1) == 0 && (-1 : Int) == 1 && items.size == items.size) = true then _ else _) _ _ s
  rw [if_neg hno, pick_rev]
  first
    | exact wpAny_bind (m := Builtin.Tuple.tupleExact _) (wpAny_newObj_type (wpAny_pure ⟨_, rfl, wpAny_pure h⟩) htake)
    | exact wpAny_bind (m := Builtin.Tuple.tupleExact _) (wpAny_newObj_type (wpAny_bind (wpAny_pure (wpAny_pure ⟨_, rfl, wpAny_pure h⟩))) htake)
    | exact wpAny_bind (wpAny_bind (m := Builtin.Tuple.tupleExact _) (wpAny_newObj_type (wpAny_pure (wpAny_pure ⟨_, rfl, wpAny_pure h⟩)) htake))
    | exact wpAny_bind (wpAny_bind (m := Builtin.Tuple.tupleExact _) (wpAny_newObj_type (wpAny_pure ⟨_, rfl, wpAny_pure h⟩) htake))
theorem applied_one {sl : Addr} {t : Tok} {n : Nat} {Q : Int × Int × Nat → Shared → Prop} (hs : s.heap.IsSliceOf sl .none .none (.int 1 t))
    (h : Q (0, 1, n) s) : wpAny (model prog w) A (Builtin.Slice.sliceApplied (.ref sl) (pure (n : Int))) Q E s := by
  obtain ⟨os, hos, hcs, hds⟩ := id hs
  unfold Builtin.Slice.sliceApplied Builtin.Slice.sliceFields
  refine wpAny_bind (wpAny_bind (wpAny_field hos hds (x := .none) rfl (wpAny_bind (wpAny_field hos hds (x := .none) rfl (wpAny_bind (wpAny_field hos hds (x := .int 1 t) rfl (wpAny_pure ?_)))))))
  refine wpAny_bind (slicePart_int ?_)
  show wpAny _ _ (if ((1 : Int) == 0) = true then _ else _) _ _ s
  rw [if_neg (by decide)]
  refine wpAny_bind (slicePart_none (wpAny_bind (slicePart_none (wpAny_bind (wpAny_pure ?_)))))
  show wpAny _ _ (match Builtin.Slice.sliceAdjust none none 1 (n : Int) with | (lo, hi) => pure (lo, (1 : Int), Builtin.Slice.slicePlaces lo hi 1)) _ _ s
  rw [adjust_gen none none n]
  show wpAny _ _ (pure (((sIx n 0 none : Nat) : Int), (1 : Int), Builtin.Slice.slicePlaces ((sIx n 0 none : Nat) : Int) ((sIx n n none : Nat) : Int) 1)) _ _ s
  rw [places_gen]
  exact wpAny_pure h
theorem getItem_tuple_one {t sl : Addr} {items : Array Value} {tk : Tok} {Q : Value → Shared → Prop} (ht : IsTup s.heap t items) (hs : s.heap.IsSliceOf sl .none .none (.int 1 tk)) (h : Q (.ref t) s) : wpAny (model prog w) A (getItem (.ref t) (.ref sl)) Q E s := by
  obtain ⟨os, hos, hcs, hds⟩ := id hs
  have hTs : s.TypeIs (.ref sl) "slice" := ⟨os, hos, hcs⟩
  unfold getItem
  try with_reducible refine wpAny_holding ?_
  first | refine wpAny_bind (wpAny_pure ?_) | skip
  refine wpAny_bind (wpAny_sequenceKey ht.typeIs (by decide) ?_)
  refine wpAny_bind (wpAny_callSpecial?_slot (name := Str.ofString "__getitem__") ht.typeIs PyProof.Rows.slot_tuple_getitem
    (wpAny_call_entry PyProof.Rows.slot_tuple_getitem ht.typeIs entry_tuple_getitem ?_ (args_tuple_getitem _ _)))
  show wpAny _ _ (Builtin.Tuple.tupleItemsOf (.ref t) >>= _) _ _ s
  refine wpAny_bind (tupleItemsOf_ ht ?_)
  refine wpAny_bind (wpAny_typeOf hTs ?_)
  rw [if_pos (by decide)]
  refine wpAny_bind (applied_one hs ?_)
  have hyes : ((0 : Int) == 0 && (1 : Int) == 1 && items.size == items.size) = true := by simp
  show wpAny _ _ (if ((0 : Int) == 0 && (1 : Int) == 1 && items.size == items.size) = true then _ else _) _ _ s
  rw [if_pos hyes]
  refine wpAny_bind (m := Builtin.Tuple.tupleIsExact _) (wpAny_bind (wpAny_typeOf ht.typeIs (wpAny_pure ?_)))
  rw [if_pos (by decide)]
  first
    | exact wpAny_bind (wpAny_rule (wpAny_bind (wpAny_pure (wpAny_pure ⟨_, rfl, wpAny_pure h⟩))))
    | exact wpAny_bind (wpAny_rule (wpAny_pure ⟨_, rfl, wpAny_pure h⟩))
    | exact wpAny_bind (wpAny_rule (wpAny_bind (wpAny_pure ⟨_, rfl, wpAny_pure h⟩)))
end
end HT3
namespace DL
open PySem PySem.Spec L2 PyProof.Rows
section
variable {X : Cx} {g : Gh} {a st : Expr} {fa fs : DE} {pos p2 : Pos}
/-- t[::-1] -/
def tRev (K : PySem.W.Frag) (te ts : TE) : TE := fun σ H Q => te σ H fun x H1 => ts σ H1 fun y H2 => (y = .int (-1) ∧ ∃ p xs, x = .ref p ∧ SqT K H2 p xs ∧ ∀ l, H2 l = none → Q (.ref l) (upd H2 l (.tup xs.reverse))) ∨ (y = .int 1 ∧ ∃ p xs, x = .ref p ∧ SqT K H2 p xs ∧ Q (.ref p) H2)
theorem pe_rev {te ts : TE} (he : PE X a te) (hs : PE X st ts) : PE X (.Subscript a (.Slice none none (some st) p2) pos) (tRev X.K te ts) := by
  intro pins s σ H Q I h
  refine Subscript_ (thn (he pins s σ H _ I h) fun v s1 ⟨x, H1, I1, r1, q1⟩ => ?_)
  refine wpAny_Slice ?_
  rw [evalPart_none]
  refine wpAny_pure (wpAny_pure ?_)
  rw [evalPart_some]
  refine thn (hs pins s1 σ H1 _ I1 q1) fun u s3 ⟨y, H3, I3, r3, q3⟩ => ?_
  rcases q3 with ⟨rfl, p, xs, rfl, hx, q⟩ | ⟨rfl, p, xs, rfl, hx, q⟩
  case inr =>
    obtain ⟨tk, rfl⟩ := r3
    cases r1
    have I4 : Inv X pins σ H3 { s3 with heap := s3.heap.push { cls := .type "slice", data := .fields #[.none, .none, .int 1 tk] } } := I3.kept (t' := s3.toks) fun b ob q => Heap.get?_push_of_some _ q
    obtain ⟨its, r, ht, hz⟩ := I4.tuple hx
    show wpAny (model X.prog X.w) X.A (subscriptTail a (.Slice none none (some st) p2) (.ref p) (.ref s3.heap.objs.size)) (EP X pins σ Q) X.xe { s3 with heap := s3.heap.push { cls := .type "slice", data := .fields #[.none, .none, .int 1 tk] } }
    refine tail_any (ops := [.ref p, .ref s3.heap.objs.size]) ht.typeIs PyProof.Rows.slot_tuple_getitem.lookup ?_ (by with_unfolding_all rfl)
    exact HT3.getItem_tuple_one ht (Heap.IsSliceOf.new ..) ⟨.ref p, H3, I4, rfl, q⟩
  obtain ⟨tk, rfl⟩ := r3
  cases r1
  have I4 : Inv X pins σ H3 { s3 with heap := s3.heap.push { cls := .type "slice", data := .fields #[.none, .none, .int (-1) tk] } } := I3.kept (t' := s3.toks) fun b ob q => Heap.get?_push_of_some _ q
  obtain ⟨its, r, ht, hz⟩ := I4.tuple hx
  have hlen : its.toArray.size = xs.length := by rw [List.size_toArray]; exact r.length.symm
  show wpAny (model X.prog X.w) X.A (subscriptTail a (.Slice none none (some st) p2) (.ref p) (.ref s3.heap.objs.size)) (EP X pins σ Q) X.xe { s3 with heap := s3.heap.push { cls := .type "slice", data := .fields #[.none, .none, .int (-1) tk] } }
  refine tail_any (ops := [.ref p, .ref s3.heap.objs.size]) ht.typeIs PyProof.Rows.slot_tuple_getitem.lookup ?_ (by with_unfolding_all rfl)
  refine HT3.getItem_tuple_rev ht (Heap.IsSliceOf.new ..) ?_ (by rw [hlen]; exact hz)
  refine ⟨.ref (s3.heap.push { cls := .type "slice", data := .fields #[.none, .none, .int (-1) tk] }).objs.size, _, I4.laid (t' := s3.toks) (o := .tup xs.reverse) (fun b ob q => Heap.get?_push_of_some _ q) (Nat.le_refl _) ?_, rfl, q _ (I4.hok.fresh (Nat.le_refl _))⟩
  exact ⟨by rw [List.length_reverse]; exact hz, _, r.reverse, IsTup.new _ _⟩
def dRev (f h : DE) : DE := fun s => (f s).bind fun x => (h x.2).bind fun y => match x.1, y.1 with
  | .tup ds, .int i => if i = -1 then some (.tup ds.reverse, y.2) else if i = 1 then some (.tup ds, y.2) else none
  | _, _ => none
theorem rev_inv {x y r : D} {t : DS} {z : DS} (e : (match x, y with
  | .tup ds, .int i => if i = -1 then some (D.tup ds.reverse, t) else if i = 1 then some (.tup ds, t) else none
  | _, _ => none) = some (r, z)) : ∃ ds i, x = .tup ds ∧ y = .int i ∧ t = z ∧ ((i = -1 ∧ r = .tup ds.reverse) ∨ (i = 1 ∧ r = .tup ds)) := by
  cases x with
  | tup ds =>
    cases y with
    | int i =>
      have e : (if i = -1 then some (D.tup ds.reverse, t) else if i = 1 then some (.tup ds, t) else none) = some (r, z) := e
      by_cases hi : i = -1
      · rw [if_pos hi] at e
        cases e
        exact ⟨ds, i, rfl, rfl, rfl, .inl ⟨hi, rfl⟩⟩
      · rw [if_neg hi] at e
        by_cases h1 : i = 1
        · rw [if_pos h1] at e
          cases e
          exact ⟨ds, i, rfl, rfl, rfl, .inr ⟨h1, rfl⟩⟩
        · rw [if_neg h1] at e
          cases e
    | _ => cases e
  | _ => cases e
theorem eo_rev (ha : BO X g a fa) (hs : BO X g st fs) : EO X g (.Subscript a (.Slice none none (some st) p2) pos) (dRev fa fs) := EO.w (pe_rev ha.pe hs.pe) fun σ H Q hQ => by
  refine hQ.elim fun f0 O s d s' I e k => ?_
  refine bindP e fun x s1 h1 e => ?_
  refine bindP e fun y s2 h2 e => ?_
  obtain ⟨ds, i, rfl, rfl, rfl, c⟩ := rev_inv e
  refine ⟨f0, O, s, _, s1, I, h1, fun v H1 f1 O1 a1 I1 r1 => ⟨f1, O1, s1, _, s2, I1, h2, fun u H2 f2 O2 a2 I2 r2 => ?_⟩⟩
  have r3 := RepB.stp I1 a2 r1
  simp only [RepB, Rep] at r2 r3
  subst r2
  obtain ⟨c', xs, rfl, q, w⟩ := r3
  rcases c with ⟨rfl, rfl⟩ | ⟨rfl, rfl⟩
  · refine .inl ⟨rfl, c', xs, rfl, q, fun l hl => ?_⟩
    have a4 : StE f2 O2 H2 f2 O2 (upd H2 l (.tup xs.reverse)) := stE_new hl
    refine k _ _ f2 O2 (a1.trans (a2.trans a4)) (I2.new hl) ?_
    simp only [Rep]
    exact ⟨l, _, rfl, SqT.of upd_same, Reps.stp I2 a4.stp (Reps.reverse w)⟩
  · refine .inr ⟨rfl, c', xs, rfl, q, k _ _ f2 O2 (a1.trans a2) I2 ?_⟩
    simp only [Rep]
    exact ⟨c', xs, rfl, q, w⟩
end
end DL

namespace DL
open PySem PySem.Spec L2
def noStar : Expr → Bool
  | .Starred _ _ => false
  | _ => true
theorem star_cons {a : Expr} {es : List Expr} {env : Env} (h : noStar a = true) : starEach (a :: es) env = (false, eval a env) :: starEach es env := by
  cases a <;> first | rfl | (cases h)
section
variable {X : Cx} {g : Gh} {a : Expr} {es : List Expr} {fa : DE} {fr : DA}
theorem ac (ha : EO X g a fa) (hr : AO X g es fr) (hs : noStar a = true := by rfl) : AO X g (a :: es) (dCons fa fr) := ao_cons ha hr (star_cons hs)
theorem bc (ha : BO X g a fa) (hr : BAO X g es fr) (hs : noStar a = true := by rfl) : BAO X g (a :: es) (dCons fa fr) := bao_cons ha hr (star_cons hs)
end
end DL

namespace DL
open PySem PySem.Spec L2 PyProof.Rows
section
variable {X : Cx} {K : PySem.W.Frag}
end
structure LitV (K : PySem.W.Frag) (d : D) (u : Value) : Prop where
  ex : ∃ v : V, RelV v u ∧ ∀ N fa H, Rep K N fa H d v
structure LitVs (K : PySem.W.Frag) (ds : List D) (us : List Value) : Prop where
  ex : ∃ vs : List V, Vals vs us ∧ ∀ N fa H, Reps K N fa H ds vs
section
variable {K : PySem.W.Frag}
end
structure Con (K : PySem.W.Frag) (mg : Str → Option Value) (x : Str) (d : D) : Prop where
  ex : ∃ u : Value, mg x = some u ∧ LitV K d u
end DL

namespace DL
open PySem PySem.Spec L2
section
variable {K : PySem.W.Frag} {g : Gh} {σ : L2.St} {H : Hp} {fa : Option Addr} {O : List Addr} {s : DS}
end
end DL

namespace DL
open PySem PySem.Spec L2
section
variable {X : Cx} {g : Gh} {scope : Scope} {cl : List (Str × Addr)} {N' : List Str} {idx : List Nat} {iter elt tg : Expr} {ifs : List Expr} {pos : Pos} {fi : DA} {fc : DT} {fe : DE}
end
end DL

namespace DL
open PySem PySem.Spec L2
/-- a walk over a row stands at place k -/
def RwIt (h : Heap) (i l : Addr) (xs : Array Value) (k : Nat) : Prop := (h.IsListIter i l k ∧ h.IsList l xs) ∨ (h.IsTupleIter i l k ∧ h.IsTuple l xs)
def Rw (h : Heap) (l : Addr) (xs : Array Value) : Prop := h.IsList l xs ∨ h.IsTuple l xs
section
variable {h h' : Heap} {i l : Addr} {xs : Array Value} {k : Nat}
theorem Rw.at (x : Rw h l xs) (e : ∀ o, h.get? l = some o → h'.get? l = some o) : Rw h' l xs := by
  rcases x with ⟨o, q, r⟩ | ⟨o, q, r⟩
  · exact .inl ⟨o, e o q, r⟩
  · exact .inr ⟨o, e o q, r⟩
theorem Rw.lt (x : Rw h l xs) : l < h.objs.size := by
  rcases x with ⟨o, q, r⟩ | ⟨o, q, r⟩ <;> exact Heap.lt_size q
theorem RwIt.at (x : RwIt h i l xs k) (ei : ∀ o, h.get? i = some o → h'.get? i = some o) (el : ∀ o, h.get? l = some o → h'.get? l = some o) : RwIt h' i l xs k := by
  rcases x with ⟨⟨o, q, r⟩, ⟨p, u, v⟩⟩ | ⟨⟨o, q, r⟩, ⟨p, u, v⟩⟩
  · exact .inl ⟨⟨o, ei o q, r⟩, ⟨p, el p u, v⟩⟩
  · exact .inr ⟨⟨o, ei o q, r⟩, ⟨p, el p u, v⟩⟩
theorem RwIt.lt (x : RwIt h i l xs k) : i < h.objs.size := by
  rcases x with ⟨⟨o, q, r⟩, _⟩ | ⟨⟨o, q, r⟩, _⟩ <;> exact Heap.lt_size q
end
section
variable {prog : Program} {w : World} {A : Around} {E : Value → Shared → Prop} {s : Shared}
/-- the zip's own object -/
abbrev ZipAt (h : Heap) (z TI TO : Addr) (f0 f1 : Value) : Prop := h.get? z = some { cls := .type "zip", dict := none, data := .fields #[f0, f1, .bool false, .ref TI, .ref TO], slots := #[] }
variable {z TI TO i1 i2 l1 l2 : Addr} {xs ys : Array Value} {k : Nat}

end
end DL

namespace DL
open PySem PySem.Spec L2
section
variable {prog : Program} {w : World} {A : Around} {E : Value → Shared → Prop} {s : Shared}
variable {z TI TO i1 i2 l1 l2 : Addr} {xs ys : Array Value} {k : Nat}
/-- where the walk of a zip stands; S is the list that is being filled -/
structure ZSt (h : Heap) (z TI TO i1 i2 l1 l2 S : Addr) (xs ys : Array Value) (k : Nat) : Prop where
  ti : IsPair h TI (.ref i1) (.ref i2)
  r1 : RwIt h i1 l1 xs k
  r2 : RwIt h i2 l2 ys k
  zz : (ZipAt h z TI TO .none (.bool false) ∧ ∃ a b, IsPair h TO a b) ∨ ∃ (T : Addr) (f : Bool) (oT : Obj), ZipAt h z TI TO (rawInt T) (.bool f) ∧ h.get? T = some oT ∧ T ≠ z ∧ T ≠ TO ∧ T ≠ i1 ∧ T ≠ i2 ∧ T ≠ S
end
end DL

namespace DL
open PySem PySem.Spec L2
/-- an iterator I walked into a new list S: n items, the j-th as P j tells, of the heap; it writes nothing but wr and what is new -/
structure LW (prog : Program) (w : World) (A : Around) (I S : Addr) (wr : List Addr) (n : Nat) (P : Nat → Value → Heap → Prop) (St : Nat → Heap → Prop) : Prop where
  item : ∀ (i : Nat) (s : Shared) (Q : Option Value → Shared → Prop) (E : Value → Shared → Prop), i < n → St i s.heap → S < s.heap.objs.size →
    (∀ v h', P i v h' → St (i + 1) h' → (∀ j u, P j u s.heap → u ≠ v) → (∀ b o, b ∉ wr → s.heap.get? b = some o → h'.get? b = some o) → Q (some v) { s with heap := h' }) → wpAny (model prog w) A (pyNext (.ref I)) Q E s
  done : ∀ (s : Shared) (Q : Option Value → Shared → Prop) (E : Value → Shared → Prop), St n s.heap → (∀ h', (∀ b o, b ∉ wr → s.heap.get? b = some o → h'.get? b = some o) → Q none { s with heap := h' }) → wpAny (model prog w) A (pyNext (.ref I)) Q E s
  stay : ∀ i h h', St i h → (∀ b o, b ≠ S → h.get? b = some o → h'.get? b = some o) → St i h'
  pay : ∀ i v h h', P i v h → (∀ b o, b ≠ S → b ∉ wr → h.get? b = some o → h'.get? b = some o) → P i v h'
  self : ∀ (A : Around) (s : Shared) (Q : Value → Shared → Prop) (E : Value → Shared → Prop), St 0 s.heap → Q (.ref I) s → wpAny (model prog w) A (pyIter (.ref I)) Q E s
  out : S ∉ wr
section
variable {prog : Program} {w : World} {A : Around} {I S : Addr} {wr : List Addr} {n : Nat} {P : Nat → Value → Heap → Prop} {St : Nat → Heap → Prop} {s : Shared} {R : Result → Shared → Prop}
abbrev LstAt (h : Heap) (S : Addr) (acc : Array Value) (c : Nat) : Prop := h.get? S = some { cls := .type "list", dict := none, data := .seq acc c, slots := #[] }
end
end DL

namespace DL
open PySem PySem.Spec L2
def rwOb (t : Bool) (l : Addr) : Obj := { cls := .type (if t then "tuple_iterator" else "list_iterator"), data := .fields #[.ref l, .int 0 0] }
def RwB (t : Bool) (h : Heap) (l : Addr) (xs : Array Value) : Prop := if t then h.IsTuple l xs else h.IsList l xs
section
variable {prog : Program} {w : World} {A : Around} {E : Value → Shared → Prop} {s : Shared}
end
theorem RwB.push {t : Bool} {h : Heap} {l : Addr} {xs : Array Value} (x : RwB t h l xs) (o : Obj) : RwB t (h.push o) l xs := by
  cases t with
  | true => exact Heap.IsTuple.push x o
  | false => exact Heap.IsList.push x o
section
variable {prog : Program} {w : World} {A : Around} {E : Value → Shared → Prop} {s : Shared}
theorem RwB.it {t : Bool} {h : Heap} {i l : Addr} {xs : Array Value} (x : RwB t h l xs) (e : h.get? i = some (rwOb t l)) : RwIt h i l xs 0 := by
  cases t with
  | true => exact .inr ⟨⟨_, e, rfl, rfl⟩, x⟩
  | false => exact .inl ⟨⟨_, e, rfl, rfl⟩, x⟩
theorem RwB.at {t : Bool} {h h' : Heap} {l : Addr} {xs : Array Value} (x : RwB t h l xs) (e : ∀ o, h.get? l = some o → h'.get? l = some o) : RwB t h' l xs := by
  cases t with
  | true => obtain ⟨o, q, r⟩ := x; exact ⟨o, e o q, r⟩
  | false => obtain ⟨o, q, r⟩ := x; exact ⟨o, e o q, r⟩
theorem RwB.lt {t : Bool} {h : Heap} {l : Addr} {xs : Array Value} (x : RwB t h l xs) : l < h.objs.size := by
  cases t with
  | true => obtain ⟨o, q, r⟩ := x; exact Heap.lt_size q
  | false => obtain ⟨o, q, r⟩ := x; exact Heap.lt_size q
/-- list(zip(..)): the pairs lie at as, the list at S -/
structure LZ (h h' : Heap) (S : Addr) (xs ys : Array Value) (as : List Addr) (c : Nat) : Prop where
  keep : ∀ b o, h.get? b = some o → h'.get? b = some o
  low : h.objs.size ≤ S
  lst : LstAt h' S (as.map Value.ref).toArray c
  len : as.length = min xs.size ys.size
  new : ∀ a ∈ as, h.objs.size ≤ a ∧ a ≠ S
  nd : as.Nodup
  at' : ∀ (j : Nat) a, as[j]? = some a → ∃ x y, xs[j]? = some x ∧ ys[j]? = some y ∧ IsPair h' a x y
end
end DL

namespace DL
open PySem PySem.Spec L2
section
variable {H : Hp}
end
section
variable {X : Cx} {pins : List (Addr × Obj)} {σ : St} {H : Hp} {s : Shared}
end
section
variable {X : Cx} {p p' pos pos' : Pos} {e : Expr} {es : List Expr} {t : TA}
end
end DL

namespace DL
open PySem PySem.Spec L2
section
variable {X : Cx} {g : Gh} {p p' pos pos' : Pos} {e : Expr} {es : List Expr} {t : DA}
end
end DL

namespace DL
open PySem PySem.Spec L2
section
variable {X : Cx} {g : Gh} {scope : Scope} {cl : List (Str × Addr)} {idx : List Nat} {iter elt : Expr} {ifs : List Expr} {pos : Pos} {fi : DA} {fc : DT} {fe : DE} {x y : Str} {px py pp : Pos} {kt : Nat} {caps : List Str}
end
end DL

namespace DL
open PySem PySem.Spec L2
def PC (X : Cx) (e : Expr) (te : TE) : Prop := ∀ (i : Nat) (y : Str) (py spos : Pos), X.N.Nodup → X.N[i]? = some y → Loc X.env.scope y → swapsWith e (some (.Name y py)) spos.line X.env = pure true → (X.fn y = true ∨ X.env.scope.names.lookup y = some .local) → PS X (.Assign [.Name y py] e spos) (tAsg te (gName i))
structure CO (X : Cx) (g : Gh) (e : Expr) (f : DA) : Prop where
  pe : PC X e (liftF X.K g f)
theorem CO.w {X : Cx} {g : Gh} {e : Expr} {f : DA} {t : TE} (h : PC X e t) (w : ∀ σ H Q, liftF X.K g f σ H Q → t σ H Q) : CO X g e f :=
  ⟨fun i y py spos h1 h2 h3 h4 h5 pins s σ H D I q => h i y py spos h1 h2 h3 h4 h5 pins s σ H D I (w σ H _ q)⟩
section
variable {X : Cx} {g : Gh} {scope : Scope} {cl : List (Str × Addr)} {N' : List Str} {idx : List Nat} {iter elt tg : Expr} {ifs : List Expr} {pos : Pos} {fi : DA} {fc : DT} {fe : DE}
theorem co_comp1 (hc : X.calm = true) (k : CompOk X scope cl N' 1 idx) (hi : IO X g tg iter fi) (hg : ∀ C s0 H0 ex, PG (blk X N' scope cl C s0 H0 ex) tg (gName 0))
    (ht : ∀ C s0 H0 ex g', IfsO (blk X N' scope cl C s0 H0 ex) g' ifs fc) (he : ∀ C s0 H0 ex g', EO (blk X N' scope cl C s0 H0 ex) g' elt fe) (hs : ∀ x, foldedSetIterable iter X.env x = pure x := by intro _; rfl) :
    CO X g (.ListComp elt [⟨tg, iter, ifs, 0⟩] scope pos) (dComp1 idx fi fc fe) :=
  CO.w (fun i y py spos h1 h2 h3 h4 h5 => ps_setC (tc := fun σ H Q => ∃ g', liftT X.K g' fc σ H Q) (te := fun σ H Q => ∃ g', liftE X.K g' fe σ H Q) h1 h2 h3 hc k hi.pe hg (fun C s0 H0 ex pins s σ H Q I ⟨g', h⟩ => ht C s0 H0 ex g' pins s σ H Q I h) (fun C s0 H0 ex pins s σ H Q I ⟨g', h⟩ => (he C s0 H0 ex g').pe pins s σ H Q I h) hs h4 h5) (comp1_w k)
theorem s_setC {e : Expr} {i : Nat} {x : Str} {f : DA} {pos' : Pos} (hN : X.N.Nodup) (hi : X.N[i]? = some x) (hx : Loc X.env.scope x) (he : CO X g e f) (hs : swapsWith e (some (.Name x pos')) pos.line X.env = pure true := by rfl) (hf : X.fn x = true ∨ X.env.scope.names.lookup x = some .local := by first | exact .inl rfl | exact .inr rfl | assumption) :
    SO X g (.Assign [.Name x pos'] e pos) (dAsgF i f) := SO.w (he.pe i x pos' pos hN hi hx hs hf) fun E σ H hQ => by
  refine hQ.elim fun fa O s fl s' I q k => ?_
  refine bindP q fun ds s1 h1 h2 => ?_
  by_cases hl : i < s1.sl.length
  · simp only [] at h2
    rw [if_pos hl] at h2
    cases h2
    refine ⟨fa, O, s, ds, s1, I, h1, fun p xs H1 f1 O1 a1 L hp => ?_⟩
    have np : p ∉ O1 := fun z => by
      obtain ⟨ys, e⟩ := I.owned (a1.sub p z)
      rw [hp] at e; cases e
    obtain ⟨P, sub, I'⟩ := L.put i hl (I.st.mon p hp) np
    refine k _ H1 f1 P ⟨fun b hb => ?_, a1.fe, fun b u e _ n => a1.same b u e n, a1.mon⟩ I'
    rcases sub b hb with y | y
    · exact .inr (by rw [y]; exact hp)
    · exact .inl (a1.sub b y)
  · simp only [] at h2
    rw [if_neg hl] at h2; cases h2
end
section
variable {X : Cx} {g : Gh} {scope : Scope} {cl : List (Str × Addr)} {idx : List Nat} {iter elt : Expr} {ifs : List Expr} {pos : Pos} {fi : DA} {fc : DT} {fe : DE} {x y : Str} {px py pp : Pos} {kt : Nat} {caps : List Str}
end
end DL

namespace DL
open PySem PySem.Spec L2
theorem ints_plain : ∀ ns : List Int, D.plains (ns.map .int) = true
  | [] => rfl
  | n :: r => by simp only [List.map_cons, D.plains, D.plain, ints_plain r, Bool.and_self]
theorem ints_lay : ∀ ns : List Int, PyData.canLayAll0 (D.pys (ns.map .int)) = true
  | [] => rfl
  | n :: r => by simp only [List.map_cons, D.pys, D.py, PyData.canLayAll0, PyData.canLay0, ints_lay r, Bool.and_self]
theorem ints_depth : ∀ ns : List Int, PyData.depthAll (D.pys (ns.map .int)) = 0
  | [] => rfl
  | n :: r => by simp only [List.map_cons, D.pys, D.py, PyData.depthAll, PyData.depth, ints_depth r, Nat.max_self]
theorem eqOk_ints (ns : List Int) : eqOk (.lst (ns.map .int)) = true := by
  simp [eqOk, D.plain, ints_plain, D.py, SeqAt.shaped, PyData.canLay0, ints_lay, PyData.depth, ints_depth]
section
variable {X : Cx} {g : Gh}
theorem SqF.new {K : PySem.W.Frag} {H : Hp} {a p : Addr} {xs : List V} {o : HO} (h : SqF K H a xs) (hp : H p = none) : SqF K (upd H p o) a xs := by
  rcases h with ⟨o', h⟩ | h
  · exact .inl ⟨o', by rw [upd_ne (ne_of_none h hp)]; exact h⟩
  · exact .inr h
def cells4 (ns : List Int) : List Int := ns ++ (List.replicate (if ns = [] then 1 else 0) [0]).flatten
end
end DL

namespace DL
open PySem PySem.Spec L2 PyProof.Rows
section
variable {X : Cx} {g : Gh} {a st : Expr} {fa fs : DE} {pos p2 : Pos}
end
end DL

namespace DL
open PySem PySem.Spec L2 PyProof.Rows
section
variable {X : Cx} {K : PySem.W.Frag}
end
end DL

namespace DL
open PySem PySem.Spec L2 PyProof.Rows
section
variable {X : Cx} {g : Gh}
end
end DL

namespace L2
open PySem PySem.Spec PyProof.Rows
section
variable {X : Cx} {pins : List (Addr × Obj)} {σ : List (Option V)} {H : Hp} {s : Shared} {h' : Heap}
end
section
variable {X : Cx}
end
end L2
namespace L2
open PySem PySem.Spec PyProof.Rows
section
variable {X : Cx}
end
end L2
namespace DL
open PySem PySem.Spec L2 PyProof.Rows
def ownAt (s : DS) (i : Nat) : Option (List D) := match s.sl[i]? with
  | some (.own ds) => some ds
  | _ => none
theorem ownAt_inv {s : DS} {i : Nat} {ds : List D} (h : ownAt s i = some ds) : s.sl[i]? = some (.own ds) := by
  unfold ownAt at h
  cases q : s.sl[i]? with
  | none => rw [q] at h; cases h
  | some z =>
    rw [q] at h
    cases z with
    | own ds => cases h; rfl
    | no => cases h
    | val _ => cases h
section
variable {X : Cx} {g : Gh} {e : Expr} {body : List Stmt} {f : DA} {t : D → DS → Option DS} {b : DM} {pos p1 p2 pt : Pos} {elts : List Expr} {x1 : Nat}
end
end DL

namespace L2
open PySem PySem.Spec PyProof.Rows
section
variable {X : Cx} {pins : List (Addr × Obj)} {σ : List (Option V)} {H : Hp} {s : Shared} {h' : Heap}
end
end L2
namespace DL
open PySem PySem.Spec L2 PyProof.Rows
def RwI (t : Bool) (h : Heap) (i l : Addr) (k : Nat) : Prop := if t then h.IsTupleIter i l k else h.IsListIter i l k
theorem RwI.it {t : Bool} {h : Heap} {i l : Addr} {xs : Array Value} {k : Nat} (x : RwI t h i l k) (y : RwB t h l xs) : RwIt h i l xs k := by
  cases t with
  | true => exact .inr ⟨x, y⟩
  | false => exact .inl ⟨x, y⟩
theorem RwI.at {t : Bool} {h h' : Heap} {i l : Addr} {k : Nat} (x : RwI t h i l k) (e : ∀ o, h.get? i = some o → h'.get? i = some o) : RwI t h' i l k := by
  cases t with
  | true => obtain ⟨o, q, r⟩ := x; exact ⟨o, e o q, r⟩
  | false => obtain ⟨o, q, r⟩ := x; exact ⟨o, e o q, r⟩
theorem RwI.ob {t : Bool} {h : Heap} {i l : Addr} {k : Nat} (x : RwI t h i l k) : ∃ o, h.get? i = some o ∧ ∀ v, o.data ≠ .cell v := by
  cases t with
  | true => obtain ⟨o, q, c, d⟩ := x; exact ⟨o, q, fun v z => by rw [d] at z; cases z⟩
  | false => obtain ⟨o, q, c, d⟩ := x; exact ⟨o, q, fun v z => by rw [d] at z; cases z⟩
theorem RwIt.kind {t : Bool} {h : Heap} {i l : Addr} {xs ys : Array Value} {k : Nat} (x : RwIt h i l xs k) (y : RwB t h l ys) : RwI t h i l k := by
  cases t with
  | true =>
    rcases x with ⟨_, o, q, c, _⟩ | ⟨x, _⟩
    · obtain ⟨o', q', c', _⟩ := y
      rw [q] at q'; cases q'
      rw [c] at c'
      exact absurd c' (by decide)
    · exact x
  | false =>
    rcases x with ⟨x, _⟩ | ⟨_, o, q, c, _⟩
    · exact x
    · obtain ⟨o', q', c', _⟩ := y
      rw [q] at q'; cases q'
      rw [c] at c'
      exact absurd c' (by decide)
section
variable {prog : Program} {w : World} {A : Around} {E : Value → Shared → Prop} {s : Shared} {z TI TO i1 i2 l1 l2 : Addr} {xs ys : Array Value} {k : Nat}
end
section
variable {X : Cx}
end
section
variable {X : Cx} {g : Gh} {e : Expr} {es : List Expr} {body : List Stmt} {f : DA} {t : D → DS → Option DS} {b : DM} {pos p1 p2 pt : Pos} {elts : List Expr} {x1 : Nat}
end
end DL

namespace DL
open PySem PySem.Spec L2
theorem on1 {α : Type _} {P : List α → Prop} (h : ∀ a1 : α, P [a1]) : ∀ us : List α, us.length = 1 → P us := by
  intro us e
  match us, e with | [a1], _ => exact h a1
theorem on2 {α : Type _} {P : List α → Prop} (h : ∀ a1 a2 : α, P [a1, a2]) : ∀ us : List α, us.length = 2 → P us := by
  intro us e
  match us, e with | [a1, a2], _ => exact h a1 a2
theorem on3 {α : Type _} {P : List α → Prop} (h : ∀ a1 a2 a3 : α, P [a1, a2, a3]) : ∀ us : List α, us.length = 3 → P us := by
  intro us e
  match us, e with | [a1, a2, a3], _ => exact h a1 a2 a3
/-- a def of the text: where it lies, by its name -/
structure GF (K : PySem.W.Frag) (mg : Str → Option Value) (n : Str) (st : Stmt) (f : Addr) (fd : FuncData) : Prop where
  F : Fun K n n st f fd
  m : mg n = some (.ref f)
section
variable {K : PySem.W.Frag} {h : Heap} {mg : Str → Option Value} {n : Str} {st : Stmt} {f : Addr} {fd : FuncData}
theorem gf_mk (X : K.In h) (G : h.Ns mainGlobals mg) {oc : Value} {od an : Option Addr} {osl : Array (Option Value)} {kV doc pm cdv ct : Value} (a : PySem.W.nsIn K mainGlobals n = some (some (.ref f))) (l : K.lookup f = some ⟨oc, od, .func (PySem.W.fnOf n n (defArgs st) (defBody st) (defScope st) .none kV doc pm an cdv ct), osl⟩)
    (c : PySem.W.codeIn K cdv n = true) (k : PySem.W.keepIn K (.ref f) = true) : GF K mg n st f (PySem.W.fnOf n n (defArgs st) (defBody st) (defScope st) .none kV doc pm an cdv ct) := ⟨fun_mk l c k, PySem.W.mg_of X G a⟩
theorem law_binds {x : Str} (F : Fun K n n st f fd) (q : ∀ (kV doc pm : Value) (an : Option Addr) (cdv ct : Value) (s : Shared) (v : Value), BindsTo s (PySem.W.fnOf n n (defArgs st) (defBody st) (defScope st) .none kV doc pm an cdv ct) ⟨[v], []⟩ [(x, v)]) : ∀ (s : Shared) (v : Value), BindsTo s fd ⟨[v], []⟩ [(x, v)] := by
  obtain ⟨oc, od, kV, doc, pm, an, cdv, ct, osl, rfl, lk, hcd⟩ := F.ex
  exact fun s v => q kV doc pm an cdv ct s v
theorem blt_mk (X : K.In h) (G : h.Ns mainGlobals mg) (z0 : PySem.W.nsIn K mainGlobals "len" = some none) (z1 : PySem.W.nsIn K mainGlobals "range" = some none) (z2 : PySem.W.nsIn K mainGlobals "abs" = some none) (z3 : PySem.W.nsIn K mainGlobals "tuple" = some none) (z4 : PySem.W.nsIn K mainGlobals "list" = some none) (z5 : PySem.W.nsIn K mainGlobals "int" = some none) (z6 : PySem.W.nsIn K mainGlobals "bool" = some none) (z7 : PySem.W.nsIn K mainGlobals "str" = some none) (z8 : PySem.W.nsIn K mainGlobals "repr" = some none) (z9 : PySem.W.nsIn K mainGlobals "all" = some none) (z10 : PySem.W.nsIn K mainGlobals "isinstance" = some none) (z11 : PySem.W.nsIn K mainGlobals "zip" = some none) (z12 : PySem.W.nsIn K mainGlobals "enumerate" = some none) (z13 : PySem.W.nsIn K mainGlobals "min" = some none) (z14 : PySem.W.nsIn K mainGlobals "max" = some none) (z15 : PySem.W.nsIn K mainGlobals "reversed" = some none) (z16 : PySem.W.nsIn K mainGlobals "any" = some none) (z17 : PySem.W.nsIn K mainGlobals "sum" = some none) (z18 : PySem.W.nsIn K mainGlobals "sorted" = some none) : Blt mg := ⟨PySem.W.mg_none_of X G z0, PySem.W.mg_none_of X G z1, PySem.W.mg_none_of X G z2, PySem.W.mg_none_of X G z3, PySem.W.mg_none_of X G z4, PySem.W.mg_none_of X G z5, PySem.W.mg_none_of X G z6, PySem.W.mg_none_of X G z7, PySem.W.mg_none_of X G z8, PySem.W.mg_none_of X G z9, PySem.W.mg_none_of X G z10, PySem.W.mg_none_of X G z11, PySem.W.mg_none_of X G z12, PySem.W.mg_none_of X G z13, PySem.W.mg_none_of X G z14, PySem.W.mg_none_of X G z15, PySem.W.mg_none_of X G z16, PySem.W.mg_none_of X G z17, PySem.W.mg_none_of X G z18⟩
theorem cal_g {P : Program} {w : World} {base : Heap} {N ps : List Str} {k : Nat} {b : DM} (F : GF K mg n st f fd) (q : ∀ (kV doc pm : Value) (an : Option Addr) (cdv ct : Value) (us : List Value), us.length = ps.length → bindArgs (PySem.W.fnOf n n (defArgs st) (defBody st) (defScope st) .none kV doc pm an cdv ct) ⟨us, []⟩ = pure (ps.zip us)) (S : FnScope N ps (defScope st))
    (hbody : ∀ (cdv : Value) (A : Around) (outer : List Env) (s : Shared) (H : Hp) (E : XK) (g : Gh), Room k (A.deeper (PyProof.Rows.envOfC n (defScope st) s.heap.objs.size f cdv)) → SSO (cxOf CX0 P w K mg base N n (defScope st) f cdv A outer s H E).nox g (defBody st) b) :
    Cal P w K mg base (k + 1) n ps (mFn N.length b) := cal_of F.F F.m (F.F.binds q) S hbody
end
end DL

namespace DL
open PySem PySem.Spec L2 PyProof.Rows
def dSetI (i : Nat) (n : Nat) (f : DE) : DM := fun s => (f s).bind fun x => (ownAt x.2 i).bind fun ds => if n < ds.length then some (.next, { x.2 with sl := x.2.sl.set i (.own (ds.take n ++ x.1 :: ds.drop (n + 1))) }) else none
def dRevO (i : Nat) : DM := fun s => (ownAt s i).bind fun ds => if ds.length ≤ sizeLine then some (.next, { s with sl := s.sl.set i (.own ds.reverse) }) else none
theorem setI_inv {i n : Nat} {f : DE} {s : DS} {r : Fl × DS} (q : dSetI i n f s = some r) : ∃ d s1 ds, f s = some (d, s1) ∧ s1.sl[i]? = some (.own ds) ∧ n < ds.length ∧ (Fl.next, { s1 with sl := s1.sl.set i (.own (ds.take n ++ d :: ds.drop (n + 1))) }) = r := by
  refine bindP q fun d s1 h1 q => ?_
  refine bindQ q fun ds h2 q => ?_
  by_cases hl : n < ds.length
  · exact ⟨d, s1, ds, h1, ownAt_inv h2, hl, Option.some.inj ((if_pos hl).symm.trans q)⟩
  · cases (if_neg hl).symm.trans q
theorem revO_inv {i : Nat} {s : DS} {r : Fl × DS} (q : dRevO i s = some r) : ∃ ds, s.sl[i]? = some (.own ds) ∧ ds.length ≤ sizeLine ∧ (Fl.next, { s with sl := s.sl.set i (.own ds.reverse) }) = r := by
  refine bindQ q fun ds h2 q => ?_
  by_cases hl : ds.length ≤ sizeLine
  · exact ⟨ds, ownAt_inv h2, hl, Option.some.inj ((if_pos hl).symm.trans q)⟩
  · cases (if_neg hl).symm.trans q
section
variable {X : Cx} {g : Gh} {i n j : Nat} {x : Str} {e : Expr} {fe : DE} {pos pos' p1 p2 p3 p4 : Pos}
theorem set_cut {α : Type} (xs : List α) (v : α) {n : Nat} (h : n < xs.length) : xs.set n v = xs.take n ++ v :: xs.drop (n + 1) := by
  rw [List.set_eq_take_append_cons_drop, if_pos h]
theorem s_setI (hv : PE X (.Name x p1) (tVar i)) (he : EO X g e fe) (hs : swapsWithSole [.Subscript (.Name x p1) (.Constant (.int n) j p2) pos'] e pos.line X.env = pure false := by rfl) (hw : swappedStores [.Subscript (.Name x p1) (.Constant (.int n) j p2) pos'] e X.env = pure none := by rfl) :
    SO X g (.Assign [.Subscript (.Name x p1) (.Constant (.int n) j p2) pos'] e pos) (dSetI i n fe) :=
  SO.w (ps_asg he.pe (pg_sub hv pe_int set_list) hs hw) fun E σ H hQ => by
    refine hQ.elim fun fa O s fl s' I q k => ?_
    obtain ⟨d, s1, ds, h1, h2, hl, e⟩ := setI_inv q
    cases e
    refine ⟨fa, O, s, d, s1, I, h1, fun v H1 f1 O1 a1 I1 r => ?_⟩
    obtain ⟨b, xs, e3, m1, e4, r1⟩ := SlR.own I1.sl h2
    have rl := r1.length
    obtain ⟨I2, a2⟩ := I1.rew h2 e3 m1 e4 (Reps.append (r1.take n) (es := d :: ds.drop (n + 1)) (ys := v :: xs.drop (n + 1)) (by simp only [Reps]; exact ⟨v, _, rfl, r, r1.drop (n + 1)⟩))
    have hx : n < xs.length := by omega
    have k2 := k σ _ f1 O1 (a1.stp.trans a2) I2
    rw [← set_cut xs v hx] at k2
    refine ⟨_, e3, b, xs, (n : Int), n, rfl, rfl, e4, ?_, k2⟩
    unfold ixN
    rw [if_pos (by omega), if_pos (by omega), Int.toNat_natCast]
theorem s_revO (hv : PE X (.Name x p1) (tVar i)) (hbase : attributeBase (.Name x p1) ("reverse" : Str) X.env (eval (.Name x p1) X.env) = eval (.Name x p1) X.env := by rfl)
    (hline : (p2.endLine == p3.line) = true := by rfl) (hsw : swapsWith (.Call (.Attribute (.Name x p1) ("reverse" : Str) p2) [] [] p3) none p4.line X.env = pure false := by rfl) :
    SO X g (.Expr (.Call (.Attribute (.Name x p1) ("reverse" : Str) p2) [] [] p3) p4) (dRevO i) :=
  SO.w (ps_expr (pe_bm0 PySem.F.plainAttrs_list PySem.F.slot_list_reverse PySem.F.type_list_reverse mt_reverse hv hbase hline) hsw) fun E σ H hQ => by
    refine hQ.elim fun fa O s fl s' I q k => ?_
    obtain ⟨ds, h2, hl, e⟩ := revO_inv q
    cases e
    obtain ⟨b, xs, e3, m1, e4, r1⟩ := SlR.own I.sl h2
    have rl := r1.length
    obtain ⟨I2, a2⟩ := I.rew h2 e3 m1 e4 r1.reverse
    exact ⟨_, e3, .inl ⟨rfl, xs, SqL.of e4⟩, b, xs, rfl, rfl, e4, k σ _ fa O a2 I2⟩
end
end DL

namespace T
open PySem PySem.Spec L2 DL
noncomputable def b_law_draw : DM := (dSeq (dAsg (dOp pAdd (dFG 0 "turn") (dC (.int 1))) (dPut 2)) (dSeq (dFP 0 "turn" (dV 2)) (dSeq (dIfS (dB (dOp (pCmp (fun i j => decide (j < i))) (dFG 0 "left") (dC (.int 0)))) (dSeq (dAsg (dOp pMod (dFG 0 "left") (dL 1)) (dPut 3)) (dSeq (dFP 0 "left" (dOp pDiv (dFG 0 "left") (dL 1))) (dRet (dV 3)))) dSkip) (dSeq (dAsg (dFG 0 "cells") (dPut 4)) (dSeq (dAsg (dIf (dB (dOp (pCmp (fun i j => decide (j < i))) (dCB (one pLen) (dCons (dL 4) dNil)) (dC (.int 0)))) (dOp pIx (dL 4) (dOp pMod (dFG 0 "at") (dCB (one pLen) (dCons (dL 4) dNil)))) (dC (.int 0))) (dPut 5)) (dSeq (dFP 0 "at" (dOp pAdd (dFG 0 "at") (dC (.int 1)))) (dSeq (dIfS (dAnd (dB (dOp (pCmp (fun i j => decide (j ≤ i))) (dL 5) (dOp pPow (dC (.int 10)) (dC (.int 18))))) (dB (dOp (pCmp (fun i j => decide (i ≤ j))) (dFG 0 "at") (dCB (one pLen) (dCons (dL 4) dNil))))) (dSeq (dFP 0 "left" (dOp pDiv (dL 5) (dL 1))) (dRet (dOp pMod (dL 5) (dL 1)))) dSkip) (dSeq (dAsg (dOp pMod (dOp pMul (dOp pAdd (dOp pAdd (dOp pAdd (dOp pMod (dL 5) (dC (.int 1000003))) (dOp pMul (dOp pMul (dC (.int 31)) (dL 2)) (dL 2))) (dOp pMul (dC (.int 7)) (dL 2))) (dC (.int 11))) (dC (.int 48271))) (dC (.int 2147483647))) (dPut 6)) (dSeq (dAsg (dOp pMod (dOp pAdd (dOp pMul (dOp pDiv (dL 6) (dC (.int 64))) (dC (.int 69621))) (dOp pMul (dC (.int 7919)) (dL 2))) (dC (.int 2147483587))) (dPut 6)) (dRet (dOp pMod (dOp pDiv (dL 6) (dC (.int 64))) (dL 1))))))))))))
noncomputable def f_law_draw : DFn := mFn 7 (b_law_draw)
noncomputable abbrev l1_divisor_of_two : DM := (dSeq (dAsg (dOp pMod (dL 2) (dL 3)) (dPut 4)) (dSeq (dAsg (dV 3) (dPut 2)) (dAsg (dV 4) (dPut 3))))
noncomputable def b_divisor_of_two : DM := (dSeq (dAsg (dCB (one pAbs) (dCons (dL 0) dNil)) (dPut 2)) (dSeq (dAsg (dCB (one pAbs) (dCons (dL 1) dNil)) (dPut 3)) (dSeq (dWhile (dB (dOp pNe (dL 3) (dC (.int 0)))) (l1_divisor_of_two)) (dRet (dV 2)))))
noncomputable def f_divisor_of_two : DFn := mFn 5 (b_divisor_of_two)
noncomputable abbrev l1_divisor (m_divisor_of_two : DFn) : DM := (dAsg (dCall m_divisor_of_two (dCons (dV 1) (dCons (dV 2) dNil))) (dPut 1))
noncomputable def b_divisor (m_divisor_of_two : DFn) : DM := (dSeq (dAsg (dC (.int 0)) (dPut 1)) (dSeq (dFor (dV 0) (dPut 2) (l1_divisor m_divisor_of_two)) (dRet (dV 1))))
noncomputable def f_divisor (m_divisor_of_two : DFn) : DFn := mFn 3 (b_divisor m_divisor_of_two)
noncomputable def b_lowest (m_divisor : DFn) : DM := (dSeq (dAsg (dCall m_divisor (dCons (dV 0) dNil)) (dPut 1)) (dSeq (dIfS (dB (dOp (pCmp (fun i j => decide (i < j))) (dOp pIx (dL 0) (dUn pNeg (dC (.int 1)))) (dC (.int 0)))) (dAsg (dUn pNeg (dL 1)) (dPut 1)) dSkip) (dRet (dCB (one pTuple) (dCons (dNew (dComp1 [1] (dItems (dV 0)) dYes (dOp pDiv (dL 0) (dL 1)))) dNil)))))
noncomputable def f_lowest (m_divisor : DFn) : DFn := mFn 2 (b_lowest m_divisor)
noncomputable def b_fraction (m_lowest : DFn) : DM := (dRet (dCall m_lowest (dCons (dTup (dCons (dV 0) (dCons (dV 1) dNil))) dNil)))
noncomputable def f_fraction (m_lowest : DFn) : DFn := mFn 2 (b_fraction m_lowest)
noncomputable abbrev l1_law_fraction : DM := (dPar 2 3 (dCons (dV 3) (dCons (dOp pMod (dL 2) (dL 3)) dNil)))
noncomputable def b_law_fraction : DM := (dSeq (dAsg (dCB (one pAbs) (dCons (dL 0) dNil)) (dPut 2)) (dSeq (dAsg (dCB (one pAbs) (dCons (dL 1) dNil)) (dPut 3)) (dSeq (dWhile (dB (dOp (pCmp (fun i j => decide (j < i))) (dL 3) (dC (.int 0)))) (l1_law_fraction)) (dSeq (dIfS (dB (dOp (pCmp (fun i j => decide (i < j))) (dL 1) (dC (.int 0)))) (dAsg (dOp pSub (dC (.int 0)) (dL 2)) (dPut 2)) dSkip) (dRet (dTup (dCons (dOp pDiv (dL 0) (dL 2)) (dCons (dOp pDiv (dL 1) (dL 2)) dNil))))))))
noncomputable def f_law_fraction : DFn := mFn 4 (b_law_fraction)
noncomputable def b_law_number (m_law_fraction : DFn) (m_law_draw : DFn) : DM := (dSeq (dAsg (dCall m_law_draw (dCons (dV 0) (dCons (dOp pIx (dNew (dLst (dCons (dC (.int 7)) (dCons (dC (.int 13)) (dCons (dC (.int 30)) dNil))))) (dCall m_law_draw (dCons (dV 0) (dCons (dC (.int 3)) dNil)))) dNil))) (dPut 1)) (dSeq (dAsg (dOp pIx (dNew (dLst (dCons (dC (.int 1)) (dCons (dC (.int 1)) (dCons (dC (.int 1)) (dCons (dC (.int 2)) (dCons (dC (.int 3)) (dCons (dC (.int 4)) dNil)))))))) (dCall m_law_draw (dCons (dV 0) (dCons (dC (.int 6)) dNil)))) (dPut 2)) (dRet (dCall m_law_fraction (dCons (dOp pMul (dL 1) (dOp pSub (dC (.int 1)) (dOp pMul (dC (.int 2)) (dCall m_law_draw (dCons (dV 0) (dCons (dC (.int 2)) dNil)))))) (dCons (dV 2) dNil))))))
noncomputable def f_law_number (m_law_fraction : DFn) (m_law_draw : DFn) : DFn := mFn 3 (b_law_number m_law_fraction m_law_draw)
noncomputable def b_is_lesser : DM := (dSeq (dAsg (dOp pMul (dOp pIx (dL 0) (dC (.int 0))) (dOp pIx (dL 1) (dC (.int 2)))) (dPut 2)) (dSeq (dAsg (dOp pMul (dOp pIx (dL 1) (dC (.int 0))) (dOp pIx (dL 0) (dC (.int 2)))) (dPut 3)) (dSeq (dIfS (dB (dOp pNe (dL 2) (dL 3))) (dRet (dOp (pCmp (fun i j => decide (i < j))) (dL 2) (dL 3))) dSkip) (dRet (dOp (pCmp (fun i j => decide (i < j))) (dOp pMul (dOp pIx (dL 0) (dC (.int 1))) (dOp pIx (dL 1) (dC (.int 2)))) (dOp pMul (dOp pIx (dL 1) (dC (.int 1))) (dOp pIx (dL 0) (dC (.int 2)))))))))
noncomputable def f_is_lesser : DFn := mFn 4 (b_is_lesser)
noncomputable def b_sign : DM := (dSeq (dIfS (dB (dOp (pCmp (fun i j => decide (j < i))) (dL 0) (dC (.int 0)))) (dRet (dC (.int 1))) dSkip) (dSeq (dIfS (dB (dOp (pCmp (fun i j => decide (i < j))) (dL 0) (dC (.int 0)))) (dRet (dUn pNeg (dC (.int 1)))) dSkip) (dRet (dC (.int 0)))))
noncomputable def f_sign : DFn := mFn 1 (b_sign)
end T

namespace T
open PySem PySem.Spec L2 DL
end T

namespace T
open PySem PySem.Spec L2 DL
end T

namespace T
open PySem PySem.Spec L2 DL
noncomputable def b_law_new_tape : DM := (dRet (dTN 0))
noncomputable def f_law_new_tape : DFn := mFn 1 (b_law_new_tape)
noncomputable def b_law_draw__2 : DM := (dSeq (dIfS (dB (dOp (pCmp (fun i j => decide (j < i))) (dTG 0 2) (dC (.int 0)))) (dSeq (dAsg (dOp pMod (dTG 0 2) (dL 1)) (dPut 2)) (dSeq (dTP 0 2 (dOp pDiv (dTG 0 2) (dL 1))) (dRet (dV 2)))) dSkip) (dSeq (dAsg (dTG 0 1) (dPut 3)) (dSeq (dTP 0 1 (dOp pAdd (dL 3) (dC (.int 1)))) (dSeq (dAsg (dC (.int 0)) (dPut 4)) (dSeq (dIfS (dB (dOp (pCmp (fun i j => decide (j < i))) (dCB (one pLen) (dCons (dTG 0 0) dNil)) (dC (.int 0)))) (dAsg (dOp pIx (dTG 0 0) (dOp pMod (dL 3) (dCB (one pLen) (dCons (dTG 0 0) dNil)))) (dPut 4)) dSkip) (dSeq (dIfS (dAnd (dB (dOp (pCmp (fun i j => decide (j ≤ i))) (dL 4) (dOp pPow (dC (.int 10)) (dC (.int 18))))) (dB (dOp (pCmp (fun i j => decide (i < j))) (dL 3) (dCB (one pLen) (dCons (dTG 0 0) dNil))))) (dSeq (dTP 0 2 (dOp pDiv (dL 4) (dL 1))) (dRet (dOp pMod (dL 4) (dL 1)))) dSkip) (dSeq (dAsg (dOp pMod (dOp pMul (dOp pAdd (dOp pAdd (dOp pMod (dL 4) (dC (.int 1000033))) (dOp pMul (dOp pMul (dC (.int 37)) (dL 3)) (dL 3))) (dC (.int 11))) (dC (.int 69621))) (dC (.int 999983))) (dPut 5)) (dRet (dOp pMod (dOp pDiv (dOp pMod (dOp pMul (dOp pMod (dOp pAdd (dOp pMul (dL 5) (dC (.int 48271))) (dOp pMul (dL 3) (dC (.int 6007)))) (dC (.int 999979))) (dC (.int 40692))) (dC (.int 1048573))) (dC (.int 64))) (dL 1))))))))))
noncomputable def f_law_draw__2 : DFn := mFn 6 (b_law_draw__2)
noncomputable abbrev l1_law_divisor : DM := (dPar 0 1 (dCons (dV 1) (dCons (dOp pMod (dL 0) (dL 1)) dNil)))
noncomputable def b_law_divisor : DM := (dSeq (dPar 0 1 (dCons (dCB (one pAbs) (dCons (dL 0) dNil)) (dCons (dCB (one pAbs) (dCons (dL 1) dNil)) dNil))) (dSeq (dWhile (dB (dOp (pCmp (fun i j => decide (j < i))) (dL 1) (dC (.int 0)))) (l1_law_divisor)) (dRet (dV 0))))
noncomputable def f_law_divisor : DFn := mFn 2 (b_law_divisor)
noncomputable def b_law_low (m_law_divisor : DFn) : DM := (dSeq (dAsg (dCall m_law_divisor (dCons (dV 0) (dCons (dV 1) dNil))) (dPut 2)) (dSeq (dIfS (dB (dOp (pCmp (fun i j => decide (i < j))) (dL 1) (dC (.int 0)))) (dAsg (dUn pNeg (dL 2)) (dPut 2)) dSkip) (dRet (dTup (dCons (dOp pDiv (dL 0) (dL 2)) (dCons (dOp pDiv (dL 1) (dL 2)) dNil))))))
noncomputable def f_law_low (m_law_divisor : DFn) : DFn := mFn 3 (b_law_low m_law_divisor)
end T

namespace T
open PySem PySem.Spec L2 DL
end T

namespace T
open PySem PySem.Spec L2 DL
end T

namespace T
open PySem PySem.Spec L2 DL
noncomputable def b_span (m_is_lesser : DFn) : DM := (dRet (dIf (dTr (dCall m_is_lesser (dCons (dV 0) (dCons (dV 1) dNil)))) (dTup (dCons (dV 0) (dCons (dV 1) dNil))) (dTup (dCons (dV 1) (dCons (dV 0) dNil)))))
noncomputable def f_span (m_is_lesser : DFn) : DFn := mFn 2 (b_span m_is_lesser)
end T

namespace T
open PySem PySem.Spec L2 DL
noncomputable def b_law_product__2 (m_law_low : DFn) : DM := (dRet (dCall m_law_low (dCons (dOp pMul (dOp pIx (dL 0) (dC (.int 0))) (dOp pIx (dL 1) (dC (.int 0)))) (dCons (dOp pMul (dOp pIx (dL 0) (dC (.int 1))) (dOp pIx (dL 1) (dC (.int 1)))) dNil))))
noncomputable def f_law_product__2 (m_law_low : DFn) : DFn := mFn 2 (b_law_product__2 m_law_low)
noncomputable def b_law_spot (m_law_divisor : DFn) : DM := (dSeq (dAsg (dTup (dCons (dOp pMul (dOp pIx (dL 0) (dC (.int 0))) (dOp pIx (dL 1) (dC (.int 1)))) (dCons (dOp pMul (dOp pIx (dL 1) (dC (.int 0))) (dOp pIx (dL 0) (dC (.int 1)))) (dCons (dOp pMul (dOp pIx (dL 0) (dC (.int 1))) (dOp pIx (dL 1) (dC (.int 1)))) dNil)))) (dPut 2)) (dSeq (dAsg (dCall m_law_divisor (dCons (dCall m_law_divisor (dCons (dOp pIx (dL 2) (dC (.int 0))) (dCons (dOp pIx (dL 2) (dC (.int 1))) dNil))) (dCons (dOp pIx (dL 2) (dC (.int 2))) dNil))) (dPut 3)) (dRet (dCB (one pTuple) (dCons (dNew (dComp1 [3] (dItems (dV 2)) dYes (dOp pDiv (dL 0) (dL 1)))) dNil)))))
noncomputable def f_law_spot (m_law_divisor : DFn) : DFn := mFn 4 (b_law_spot m_law_divisor)
noncomputable def b_law_plus (m_law_low : DFn) : DM := (dRet (dCall m_law_low (dCons (dOp pAdd (dOp pMul (dOp pIx (dL 0) (dC (.int 0))) (dOp pIx (dL 1) (dC (.int 1)))) (dOp pMul (dOp pIx (dL 1) (dC (.int 0))) (dOp pIx (dL 0) (dC (.int 1))))) (dCons (dOp pMul (dOp pIx (dL 0) (dC (.int 1))) (dOp pIx (dL 1) (dC (.int 1)))) dNil))))
noncomputable def f_law_plus (m_law_low : DFn) : DFn := mFn 2 (b_law_plus m_law_low)
noncomputable def b_law_xy__2 (m_law_low : DFn) : DM := (dRet (dTup (dCons (dCall m_law_low (dCons (dOp pIx (dL 0) (dC (.int 0))) (dCons (dOp pIx (dL 0) (dC (.int 2))) dNil))) (dCons (dCall m_law_low (dCons (dOp pIx (dL 0) (dC (.int 1))) (dCons (dOp pIx (dL 0) (dC (.int 2))) dNil))) dNil))))
noncomputable def f_law_xy__2 (m_law_low : DFn) : DFn := mFn 1 (b_law_xy__2 m_law_low)
noncomputable def b_law_minus__2 (m_law_low : DFn) : DM := (dRet (dCall m_law_low (dCons (dOp pSub (dOp pMul (dOp pIx (dL 0) (dC (.int 0))) (dOp pIx (dL 1) (dC (.int 1)))) (dOp pMul (dOp pIx (dL 1) (dC (.int 0))) (dOp pIx (dL 0) (dC (.int 1))))) (dCons (dOp pMul (dOp pIx (dL 0) (dC (.int 1))) (dOp pIx (dL 1) (dC (.int 1)))) dNil))))
noncomputable def f_law_minus__2 (m_law_low : DFn) : DFn := mFn 2 (b_law_minus__2 m_law_low)
end T

namespace T
open PySem PySem.Spec L2 DL
noncomputable def b_law_near (m_law_spot : DFn) (m_law_low : DFn) (m_law_draw : DFn) : DM := (dSeq (dAsg (dCall m_law_low (dCons (dOp pSub (dCall m_law_draw (dCons (dV 0) (dCons (dC (.int 13)) dNil))) (dC (.int 6))) (dCons (dOp pIx (dNew (dLst (dCons (dC (.int 1)) (dCons (dC (.int 1)) (dCons (dC (.int 2)) (dCons (dC (.int 3)) dNil)))))) (dCall m_law_draw (dCons (dV 0) (dCons (dC (.int 4)) dNil)))) dNil))) (dPut 1)) (dRet (dCall m_law_spot (dCons (dV 1) (dCons (dCall m_law_low (dCons (dOp pSub (dCall m_law_draw (dCons (dV 0) (dCons (dC (.int 13)) dNil))) (dC (.int 6))) (dCons (dOp pIx (dNew (dLst (dCons (dC (.int 1)) (dCons (dC (.int 1)) (dCons (dC (.int 2)) (dCons (dC (.int 3)) dNil)))))) (dCall m_law_draw (dCons (dV 0) (dCons (dC (.int 4)) dNil)))) dNil))) dNil)))))
noncomputable def f_law_near (m_law_spot : DFn) (m_law_low : DFn) (m_law_draw : DFn) : DFn := mFn 2 (b_law_near m_law_spot m_law_low m_law_draw)
end T

namespace T
open PySem PySem.Spec L2 DL
noncomputable def b_law_below : DM := (dRet (dOp (pCmp (fun i j => decide (i < j))) (dOp pMul (dOp pIx (dL 0) (dC (.int 0))) (dOp pIx (dL 1) (dC (.int 1)))) (dOp pMul (dOp pIx (dL 1) (dC (.int 0))) (dOp pIx (dL 0) (dC (.int 1))))))
noncomputable def f_law_below : DFn := mFn 2 (b_law_below)
noncomputable def b_law_over (m_law_low : DFn) : DM := (dRet (dCall m_law_low (dCons (dOp pMul (dOp pIx (dL 0) (dC (.int 0))) (dOp pIx (dL 1) (dC (.int 1)))) (dCons (dOp pMul (dOp pIx (dL 0) (dC (.int 1))) (dOp pIx (dL 1) (dC (.int 0)))) dNil))))
noncomputable def f_law_over (m_law_low : DFn) : DFn := mFn 2 (b_law_over m_law_low)
end T

namespace T
open PySem PySem.Spec L2 DL
noncomputable def b_law_piece (m_law_draw : DFn) (m_law_near : DFn) : DM := (dSeq (dAsg (dCall m_law_near (dCons (dV 0) dNil)) (dPut 1)) (dSeq (dIfS (dB (dOp pEq (dCall m_law_draw (dCons (dV 0) (dCons (dC (.int 6)) dNil))) (dC (.int 0)))) (dAsg (dOp pIx (dNew (dLst (dCons (dTup (dCons (dC (.int 300)) (dCons (dUn pNeg (dC (.int 5))) (dCons (dC (.int 1)) dNil)))) (dCons (dTup (dCons (dUn pNeg (dOp pPow (dC (.int 10)) (dC (.int 12)))) (dCons (dC (.int 2)) (dCons (dC (.int 1)) dNil)))) (dCons (dTup (dCons (dOp pPow (dC (.int 10)) (dC (.int 20))) (dCons (dUn pNeg (dC (.int 3))) (dCons (dC (.int 7)) dNil)))) dNil))))) (dCall m_law_draw (dCons (dV 0) (dCons (dC (.int 3)) dNil)))) (dPut 1)) dSkip) (dSeq (dAsg (dCall m_law_near (dCons (dV 0) dNil)) (dPut 2)) (dRet (dIf (dB (dOp pNe (dL 1) (dL 2))) (dTup (dCons (dV 1) (dCons (dV 2) dNil))) (dTup (dCons (dV 1) (dCons (dOp pIx (dNew (dLst (dCons (dTup (dCons (dC (.int 7)) (dCons (dC (.int 0)) (dCons (dC (.int 1)) dNil)))) (dCons (dTup (dCons (dC (.int 0)) (dCons (dC (.int 7)) (dCons (dC (.int 1)) dNil)))) dNil)))) (dCall m_law_draw (dCons (dV 0) (dCons (dC (.int 2)) dNil)))) dNil))))))))
noncomputable def f_law_piece (m_law_draw : DFn) (m_law_near : DFn) : DFn := mFn 3 (b_law_piece m_law_draw m_law_near)
noncomputable def b_law_far (m_law_minus : DFn) (m_law_xy : DFn) : DM := (dSeq (dAsg (dTup (dCons (dCall m_law_xy (dCons (dV 0) dNil)) (dCons (dCall m_law_xy (dCons (dV 1) dNil)) dNil))) (dPutT 2 (dPuts1 (dPutT 2 (dPuts1 (dPut 2) (dPuts1 (dPut 3) dPuts0))) (dPuts1 (dPutT 2 (dPuts1 (dPut 4) (dPuts1 (dPut 5) dPuts0))) dPuts0)))) (dRet (dTup (dCons (dCall m_law_minus (dCons (dV 4) (dCons (dV 2) dNil))) (dCons (dCall m_law_minus (dCons (dV 5) (dCons (dV 3) dNil))) dNil)))))
noncomputable def f_law_far (m_law_minus : DFn) (m_law_xy : DFn) : DFn := mFn 6 (b_law_far m_law_minus m_law_xy)
noncomputable def b_law_athwart (m_law_minus : DFn) (m_law_product : DFn) : DM := (dRet (dCall m_law_minus (dCons (dCall m_law_product (dCons (dOp pIx (dL 0) (dC (.int 0))) (dCons (dOp pIx (dL 1) (dC (.int 1))) dNil))) (dCons (dCall m_law_product (dCons (dOp pIx (dL 0) (dC (.int 1))) (dCons (dOp pIx (dL 1) (dC (.int 0))) dNil))) dNil))))
noncomputable def f_law_athwart (m_law_minus : DFn) (m_law_product : DFn) : DFn := mFn 2 (b_law_athwart m_law_minus m_law_product)
noncomputable def b_law_on_the_way (m_law_spot : DFn) (m_law_plus : DFn) (m_law_product : DFn) (m_law_far : DFn) (m_law_xy : DFn) : DM := (dSeq (dAsg (dCall m_law_xy (dCons (dV 0) dNil)) (dPutT 2 (dPuts1 (dPut 3) (dPuts1 (dPut 4) dPuts0)))) (dSeq (dAsg (dCall m_law_far (dCons (dV 0) (dCons (dV 1) dNil))) (dPutT 2 (dPuts1 (dPut 5) (dPuts1 (dPut 6) dPuts0)))) (dRet (dCall m_law_spot (dCons (dCall m_law_plus (dCons (dV 3) (dCons (dCall m_law_product (dCons (dV 2) (dCons (dV 5) dNil))) dNil))) (dCons (dCall m_law_plus (dCons (dV 4) (dCons (dCall m_law_product (dCons (dV 2) (dCons (dV 6) dNil))) dNil))) dNil))))))
noncomputable def f_law_on_the_way (m_law_spot : DFn) (m_law_plus : DFn) (m_law_product : DFn) (m_law_far : DFn) (m_law_xy : DFn) : DFn := mFn 7 (b_law_on_the_way m_law_spot m_law_plus m_law_product m_law_far m_law_xy)
noncomputable def b_law_with (m_law_plus : DFn) (m_law_product : DFn) : DM := (dRet (dCall m_law_plus (dCons (dCall m_law_product (dCons (dOp pIx (dL 0) (dC (.int 0))) (dCons (dOp pIx (dL 1) (dC (.int 0))) dNil))) (dCons (dCall m_law_product (dCons (dOp pIx (dL 0) (dC (.int 1))) (dCons (dOp pIx (dL 1) (dC (.int 1))) dNil))) dNil))))
noncomputable def f_law_with (m_law_plus : DFn) (m_law_product : DFn) : DFn := mFn 2 (b_law_with m_law_plus m_law_product)
noncomputable def b_law_alongside (m_law_far : DFn) (m_law_on_the_way : DFn) (m_law_below : DFn) (m_law_over : DFn) (m_law_with : DFn) : DM := (dSeq (dAsg (dCall m_law_far (dCons (dOp pIx (dL 0) (dC (.int 0))) (dCons (dOp pIx (dL 0) (dC (.int 1))) dNil))) (dPut 2)) (dSeq (dAsgF 3 (dComp1 [2, 0] (dItems (dV 1)) dYes (dCall m_law_over (dCons (dCall m_law_with (dCons (dCall m_law_far (dCons (dOp pIx (dL 2) (dC (.int 0))) (dCons (dV 0) dNil))) (dCons (dV 1) dNil))) (dCons (dCall m_law_with (dCons (dV 1) (dCons (dV 1) dNil))) dNil))))) (dSeq (dIfS (dTr (dCall m_law_below (dCons (dOp pIx (dL 3) (dC (.int 1))) (dCons (dOp pIx (dL 3) (dC (.int 0))) dNil)))) (dRevO 3) dSkip) (dSeq (dAsg (dIf (dB (dOp (pCmp (fun i j => decide (i < j))) (dOp pIx (dOp pIx (dL 3) (dC (.int 0))) (dC (.int 0))) (dC (.int 0)))) (dTup (dCons (dC (.int 0)) (dCons (dC (.int 1)) dNil))) (dOp pIx (dL 3) (dC (.int 0)))) (dPut 4)) (dSeq (dAsg (dIf (dTr (dCall m_law_below (dCons (dTup (dCons (dC (.int 1)) (dCons (dC (.int 1)) dNil))) (dCons (dOp pIx (dL 3) (dC (.int 1))) dNil)))) (dTup (dCons (dC (.int 1)) (dCons (dC (.int 1)) dNil))) (dOp pIx (dL 3) (dC (.int 1)))) (dPut 5)) (dSeq (dIfS (dTr (dCall m_law_below (dCons (dV 5) (dCons (dV 4) dNil)))) (dRet (dC .non)) dSkip) (dSeq (dAsgF 6 (dComp1 [0] (dItems (dNew (dLst (dCons (dV 4) (dCons (dV 5) dNil))))) dYes (dCall m_law_on_the_way (dCons (dOp pIx (dL 1) (dC (.int 0))) (dCons (dOp pIx (dL 1) (dC (.int 1))) (dCons (dV 0) dNil)))))) (dSeq (dIfS (dB (dOp pEq (dOp pIx (dL 6) (dC (.int 0))) (dOp pIx (dL 6) (dC (.int 1))))) (dRet (dTup (dCons (dC (.str "at")) (dCons (dOp pIx (dL 6) (dC (.int 0))) dNil)))) dSkip) (dSeq (dAsg (dCall m_law_far (dCons (dOp pIx (dL 6) (dC (.int 0))) (dCons (dOp pIx (dL 6) (dC (.int 1))) dNil))) (dPut 2)) (dSeq (dAsg (dOrV (dOp (pCmp (fun i j => decide (j < i))) (dOp pIx (dOp pIx (dL 2) (dC (.int 0))) (dC (.int 0))) (dC (.int 0))) (dAndV (dOp pEq (dOp pIx (dOp pIx (dL 2) (dC (.int 0))) (dC (.int 0))) (dC (.int 0))) (dOp (pCmp (fun i j => decide (j < i))) (dOp pIx (dOp pIx (dL 2) (dC (.int 1))) (dC (.int 0))) (dC (.int 0))))) (dPut 7)) (dRet (dIf (dTr (dL 7)) (dTup (dCons (dC (.str "along")) (dCons (dOp pIx (dL 6) (dC (.int 0))) (dCons (dOp pIx (dL 6) (dC (.int 1))) dNil)))) (dTup (dCons (dC (.str "along")) (dCons (dOp pIx (dL 6) (dC (.int 1))) (dCons (dOp pIx (dL 6) (dC (.int 0))) dNil))))))))))))))))
noncomputable def f_law_alongside (m_law_far : DFn) (m_law_on_the_way : DFn) (m_law_below : DFn) (m_law_over : DFn) (m_law_with : DFn) : DFn := mFn 8 (b_law_alongside m_law_far m_law_on_the_way m_law_below m_law_over m_law_with)
noncomputable def b_law_is_share (m_law_below : DFn) : DM := (dRet (dAndV (dOp (pCmp (fun i j => decide (j ≤ i))) (dOp pIx (dL 0) (dC (.int 0))) (dC (.int 0))) (dNotV (dCall m_law_below (dCons (dTup (dCons (dC (.int 1)) (dCons (dC (.int 1)) dNil))) (dCons (dV 0) dNil))))))
noncomputable def f_law_is_share (m_law_below : DFn) : DFn := mFn 1 (b_law_is_share m_law_below)
noncomputable def b_law_common__2 (m_law_on_the_way : DFn) (m_law_is_share : DFn) (m_law_over : DFn) (m_law_athwart : DFn) (m_law_alongside : DFn) (m_law_far : DFn) : DM := (dSeq (dPar 2 3 (dCons (dCall m_law_far (dCons (dOp pIx (dL 0) (dC (.int 0))) (dCons (dOp pIx (dL 0) (dC (.int 1))) dNil))) (dCons (dCall m_law_far (dCons (dOp pIx (dL 1) (dC (.int 0))) (dCons (dOp pIx (dL 1) (dC (.int 1))) dNil))) dNil))) (dSeq (dAsg (dCall m_law_far (dCons (dOp pIx (dL 0) (dC (.int 0))) (dCons (dOp pIx (dL 1) (dC (.int 0))) dNil))) (dPut 4)) (dSeq (dAsg (dCall m_law_athwart (dCons (dV 2) (dCons (dV 3) dNil))) (dPut 5)) (dSeq (dIfS (dB (dOp pEq (dOp pIx (dL 5) (dC (.int 0))) (dC (.int 0)))) (dRet (dIf (dB (dOp pEq (dOp pIx (dCall m_law_athwart (dCons (dV 4) (dCons (dV 2) dNil))) (dC (.int 0))) (dC (.int 0)))) (dCall m_law_alongside (dCons (dV 0) (dCons (dV 1) dNil))) (dC .non))) dSkip) (dSeq (dAsg (dCall m_law_over (dCons (dCall m_law_athwart (dCons (dV 4) (dCons (dV 3) dNil))) (dCons (dV 5) dNil))) (dPut 6)) (dSeq (dIfS (dOr (dNot (dTr (dCall m_law_is_share (dCons (dV 6) dNil)))) (dNot (dTr (dCall m_law_is_share (dCons (dCall m_law_over (dCons (dCall m_law_athwart (dCons (dV 4) (dCons (dV 2) dNil))) (dCons (dV 5) dNil))) dNil))))) (dRet (dC .non)) dSkip) (dRet (dTup (dCons (dC (.str "at")) (dCons (dCall m_law_on_the_way (dCons (dOp pIx (dL 0) (dC (.int 0))) (dCons (dOp pIx (dL 0) (dC (.int 1))) (dCons (dV 6) dNil)))) dNil))))))))))
noncomputable def f_law_common__2 (m_law_on_the_way : DFn) (m_law_is_share : DFn) (m_law_over : DFn) (m_law_athwart : DFn) (m_law_alongside : DFn) (m_law_far : DFn) : DFn := mFn 7 (b_law_common__2 m_law_on_the_way m_law_is_share m_law_over m_law_athwart m_law_alongside m_law_far)
noncomputable def b_law_end (m_law_near : DFn) (m_law_on_the_way : DFn) (m_law_draw : DFn) : DM := (dSeq (dAsg (dV 1) (dPutT 2 (dPuts1 (dPut 2) (dPuts1 (dPut 3) dPuts0)))) (dSeq (dAsg (dCall m_law_draw (dCons (dV 0) (dCons (dC (.int 9)) dNil))) (dPut 4)) (dSeq (dIfS (dB (dOp (pCmp (fun i j => decide (i < j))) (dL 4) (dC (.int 2)))) (dRet (dOp pIx (dL 1) (dL 4))) dSkip) (dSeq (dIfS (dB (dOp (pCmp (fun i j => decide (i < j))) (dL 4) (dC (.int 6)))) (dRet (dCall m_law_on_the_way (dCons (dV 2) (dCons (dV 3) (dCons (dOp pIx (dNew (dLst (dCons (dTup (dCons (dC (.int 1)) (dCons (dC (.int 2)) dNil))) (dCons (dTup (dCons (dC (.int 1)) (dCons (dC (.int 3)) dNil))) (dCons (dTup (dCons (dC (.int 3)) (dCons (dC (.int 2)) dNil))) (dCons (dTup (dCons (dUn pNeg (dC (.int 1))) (dCons (dC (.int 2)) dNil))) dNil)))))) (dOp pSub (dL 4) (dC (.int 2)))) dNil))))) dSkip) (dRet (dCall m_law_near (dCons (dV 0) dNil)))))))
noncomputable def f_law_end (m_law_near : DFn) (m_law_on_the_way : DFn) (m_law_draw : DFn) : DFn := mFn 5 (b_law_end m_law_near m_law_on_the_way m_law_draw)
noncomputable def b_law_other (m_law_on_the_way : DFn) (m_law_draw : DFn) (m_law_end : DFn) : DM := (dSeq (dAsgF 2 (dLst (dCons (dCall m_law_end (dCons (dV 0) (dCons (dV 1) dNil))) (dCons (dCall m_law_end (dCons (dV 0) (dCons (dV 1) dNil))) dNil)))) (dSeq (dIfS (dB (dOp pEq (dOp pIx (dL 2) (dC (.int 0))) (dOp pIx (dL 2) (dC (.int 1))))) (dSetI 2 1 (dCall m_law_on_the_way (dCons (dOp pIx (dL 1) (dC (.int 0))) (dCons (dOp pIx (dL 1) (dC (.int 1))) (dCons (dOp pIx (dNew (dLst (dCons (dTup (dCons (dC (.int 2)) (dCons (dC (.int 1)) dNil))) (dCons (dTup (dCons (dUn pNeg (dC (.int 1))) (dCons (dC (.int 1)) dNil))) dNil)))) (dCall m_law_draw (dCons (dV 0) (dCons (dC (.int 2)) dNil)))) dNil))))) dSkip) (dSeq (dIfS (dB (dOp pEq (dOp pIx (dL 2) (dC (.int 0))) (dOp pIx (dL 2) (dC (.int 1))))) (dRet (dTup (dCons (dOp pIx (dL 2) (dC (.int 0))) (dCons (dTup (dCons (dC (.int 8)) (dCons (dC (.int 8)) (dCons (dC (.int 1)) dNil)))) dNil)))) dSkip) (dRet (dTup (dCons (dOp pIx (dL 2) (dC (.int 0))) (dCons (dOp pIx (dL 2) (dC (.int 1))) dNil)))))))
noncomputable def f_law_other (m_law_on_the_way : DFn) (m_law_draw : DFn) (m_law_end : DFn) : DFn := mFn 3 (b_law_other m_law_on_the_way m_law_draw m_law_end)
noncomputable def b_upright : DM := (dRet (dTup (dCons (dOp pSub (dOp pMul (dOp pIx (dL 0) (dC (.int 1))) (dOp pIx (dL 1) (dC (.int 2)))) (dOp pMul (dOp pIx (dL 0) (dC (.int 2))) (dOp pIx (dL 1) (dC (.int 1))))) (dCons (dOp pSub (dOp pMul (dOp pIx (dL 0) (dC (.int 2))) (dOp pIx (dL 1) (dC (.int 0)))) (dOp pMul (dOp pIx (dL 0) (dC (.int 0))) (dOp pIx (dL 1) (dC (.int 2))))) (dCons (dOp pSub (dOp pMul (dOp pIx (dL 0) (dC (.int 0))) (dOp pIx (dL 1) (dC (.int 1)))) (dOp pMul (dOp pIx (dL 0) (dC (.int 1))) (dOp pIx (dL 1) (dC (.int 0))))) dNil)))))
noncomputable def f_upright : DFn := mFn 2 (b_upright)
noncomputable def b_straight (m_upright : DFn) : DM := (dRet (dCall m_upright (dCons (dV 0) (dCons (dV 1) dNil))))
noncomputable def f_straight (m_upright : DFn) : DFn := mFn 2 (b_straight m_upright)
noncomputable def b_side_of (m_sign : DFn) : DM := (dRet (dCall m_sign (dCons (dOp pAdd (dOp pAdd (dOp pMul (dOp pIx (dL 0) (dC (.int 0))) (dOp pIx (dL 1) (dC (.int 0)))) (dOp pMul (dOp pIx (dL 0) (dC (.int 1))) (dOp pIx (dL 1) (dC (.int 1))))) (dOp pMul (dOp pIx (dL 0) (dC (.int 2))) (dOp pIx (dL 1) (dC (.int 2))))) dNil)))
noncomputable def f_side_of (m_sign : DFn) : DFn := mFn 2 (b_side_of m_sign)
noncomputable def b_common_along (m_is_lesser : DFn) : DM := (dSeq (dAsg (dIf (dTr (dCall m_is_lesser (dCons (dOp pIx (dL 0) (dC (.int 0))) (dCons (dOp pIx (dL 1) (dC (.int 0))) dNil)))) (dOp pIx (dL 1) (dC (.int 0))) (dOp pIx (dL 0) (dC (.int 0)))) (dPut 2)) (dSeq (dAsg (dIf (dTr (dCall m_is_lesser (dCons (dOp pIx (dL 0) (dC (.int 1))) (dCons (dOp pIx (dL 1) (dC (.int 1))) dNil)))) (dOp pIx (dL 0) (dC (.int 1))) (dOp pIx (dL 1) (dC (.int 1)))) (dPut 3)) (dSeq (dIfS (dTr (dCall m_is_lesser (dCons (dV 3) (dCons (dV 2) dNil)))) (dRet (dC .non)) dSkip) (dSeq (dIfS (dB (dOp pEq (dL 2) (dL 3))) (dRet (dTup (dCons (dC (.str "at")) (dCons (dV 2) dNil)))) dSkip) (dRet (dTup (dCons (dC (.str "along")) (dCons (dV 2) (dCons (dV 3) dNil)))))))))
noncomputable def f_common_along (m_is_lesser : DFn) : DFn := mFn 4 (b_common_along m_is_lesser)
noncomputable def b_crossing (m_lowest : DFn) (m_upright : DFn) : DM := (dRet (dCall m_lowest (dCons (dCall m_upright (dCons (dV 0) (dCons (dV 1) dNil))) dNil)))
noncomputable def f_crossing (m_lowest : DFn) (m_upright : DFn) : DFn := mFn 2 (b_crossing m_lowest m_upright)
noncomputable def b_common (m_crossing : DFn) (m_side_of : DFn) (m_common_along : DFn) (m_span : DFn) (m_straight : DFn) : DM := (dSeq (dAsg (dCall m_straight (dCons (dOp pIx (dL 0) (dC (.int 0))) (dCons (dOp pIx (dL 0) (dC (.int 1))) dNil))) (dPut 2)) (dSeq (dAsg (dCall m_straight (dCons (dOp pIx (dL 1) (dC (.int 0))) (dCons (dOp pIx (dL 1) (dC (.int 1))) dNil))) (dPut 3)) (dSeq (dAsgF 4 (dComp1 [2] (dItems (dV 1)) dYes (dCall m_side_of (dCons (dV 1) (dCons (dV 0) dNil))))) (dSeq (dIfS (dB (dOp pEq (dL 4) (dNew (dLst (dCons (dC (.int 0)) (dCons (dC (.int 0)) dNil)))))) (dRet (dCall m_common_along (dCons (dCall m_span (dCons (dOp pIx (dL 0) (dC (.int 0))) (dCons (dOp pIx (dL 0) (dC (.int 1))) dNil))) (dCons (dCall m_span (dCons (dOp pIx (dL 1) (dC (.int 0))) (dCons (dOp pIx (dL 1) (dC (.int 1))) dNil))) dNil)))) dSkip) (dSeq (dAsgF 5 (dComp1 [3] (dItems (dV 0)) dYes (dCall m_side_of (dCons (dV 1) (dCons (dV 0) dNil))))) (dSeq (dIfS (dOr (dB (dOp pEq (dOp pMul (dOp pIx (dL 4) (dC (.int 0))) (dOp pIx (dL 4) (dC (.int 1)))) (dC (.int 1)))) (dB (dOp pEq (dOp pMul (dOp pIx (dL 5) (dC (.int 0))) (dOp pIx (dL 5) (dC (.int 1)))) (dC (.int 1))))) (dRet (dC .non)) dSkip) (dRet (dTup (dCons (dC (.str "at")) (dCons (dCall m_crossing (dCons (dV 2) (dCons (dV 3) dNil))) dNil))))))))))
noncomputable def f_common (m_crossing : DFn) (m_side_of : DFn) (m_common_along : DFn) (m_span : DFn) (m_straight : DFn) : DFn := mFn 6 (b_common m_crossing m_side_of m_common_along m_span m_straight)
noncomputable abbrev l2_LAWk54 (m_common : DFn) (m_law_common : DFn) (m_law_draw : DFn) (m_law_other : DFn) (m_law_piece : DFn) (m_law_new_tape : DFn) : DM := (dIfS (dB (dOp pNe (dCB (one pRepr) (dCons (dCall m_common (dCons (dV 6) (dCons (dV 7) dNil))) dNil)) (dCB (one pRepr) (dCons (dL 5) dNil)))) (dRet (dC (.bl false))) dSkip)
noncomputable abbrev l1_LAWk54 (m_common : DFn) (m_law_common : DFn) (m_law_draw : DFn) (m_law_other : DFn) (m_law_piece : DFn) (m_law_new_tape : DFn) : DM := (dSeq (dAsg (dCall m_law_piece (dCons (dV 1) dNil)) (dPut 3)) (dSeq (dAsg (dIf (dB (dOp pEq (dCall m_law_draw (dCons (dV 1) (dCons (dC (.int 12)) dNil))) (dC (.int 0)))) (dV 3) (dCall m_law_other (dCons (dV 1) (dCons (dV 3) dNil)))) (dPut 4)) (dSeq (dAsg (dCall m_law_common (dCons (dV 3) (dCons (dV 4) dNil))) (dPut 5)) (dFor (dNew (dLst (dCons (dTup (dCons (dV 3) (dCons (dV 4) dNil))) (dCons (dTup (dCons (dV 4) (dCons (dV 3) dNil))) (dCons (dTup (dCons (dRev (dL 3) (dUn pNeg (dC (.int 1)))) (dCons (dV 4) dNil))) (dCons (dTup (dCons (dRev (dL 4) (dUn pNeg (dC (.int 1)))) (dCons (dRev (dL 3) (dUn pNeg (dC (.int 1)))) dNil))) dNil)))))) (dPutT 2 (dPuts1 (dPut 6) (dPuts1 (dPut 7) dPuts0))) (l2_LAWk54 m_common m_law_common m_law_draw m_law_other m_law_piece m_law_new_tape)))))
noncomputable def b_LAWk54 (m_common : DFn) (m_law_common : DFn) (m_law_draw : DFn) (m_law_other : DFn) (m_law_piece : DFn) (m_law_new_tape : DFn) : DM := (dSeq (dAsg (dCall m_law_new_tape (dCons (dV 0) dNil)) (dPut 1)) (dSeq (dForR (dCons (dC (.int 16)) dNil) (dPut 2) (l1_LAWk54 m_common m_law_common m_law_draw m_law_other m_law_piece m_law_new_tape)) (dRet (dC (.bl true)))))
noncomputable def f_LAWk54 (m_common : DFn) (m_law_common : DFn) (m_law_draw : DFn) (m_law_other : DFn) (m_law_piece : DFn) (m_law_new_tape : DFn) : DFn := mFn 8 (b_LAWk54 m_common m_law_common m_law_draw m_law_other m_law_piece m_law_new_tape)
end T

namespace T
open PySem PySem.Spec L2 DL
noncomputable abbrev l1_above_root : DM := (dSeq (dAsg (dOp pMul (dL 1) (dC (.int 2))) (dPut 1)) (dAsg (dOp pDiv (dL 2) (dC (.int 4))) (dPut 2)))
noncomputable def b_above_root : DM := (dSeq (dAsg (dC (.int 1)) (dPut 1)) (dSeq (dAsg (dV 0) (dPut 2)) (dSeq (dWhile (dB (dOp (pCmp (fun i j => decide (j < i))) (dL 2) (dC (.int 0)))) (l1_above_root)) (dRet (dV 1)))))
noncomputable def f_above_root : DFn := mFn 3 (b_above_root)
end T

namespace DL
open PySem L2
theorem log2_small {n k : Nat} (hk : 0 < k) (h : n < 2 ^ k) : n.log2 < k := by
  by_cases h0 : n = 0
  · subst h0; simpa using hk
  · exact (Nat.log2_lt h0).mpr h
theorem bitsOk_of {i : Int} (h : i.natAbs < 2 ^ 200) : bitsOk i = true := by
  have := log2_small (by decide) h
  exact decide_eq_true (by omega)
theorem divOk_of {j : Int} (h0 : j ≠ 0) (h : j.natAbs < 2 ^ 200) : divOk j = true := by
  have := log2_small (by decide) h
  unfold divOk
  rw [decide_eq_true h0, Bool.true_and]
  exact decide_eq_true (by omega)
theorem eqOk_int (i : Int) : eqOk (.int i) = true := by simp [eqOk, D.plain, D.py, SeqAt.shaped, PyData.canLay0, PyData.depth]
theorem pNe_int (i j : Int) : pNe (.int i) (.int j) = some (.bl (!decide (i = j))) := by
  simp only [pNe, eqOk_int, Bool.and_self, if_true, D.py, PyData.eqv, Bool.beq_eq_decide_eq]
theorem pEq_int (i j : Int) : pEq (.int i) (.int j) = some (.bl (decide (i = j))) := by
  simp only [pEq, eqOk_int, Bool.and_self, if_true, D.py, PyData.eqv, Bool.beq_eq_decide_eq]
theorem pNe_str (x y : Str) : pNe (.str x) (.str y) = some (.bl (!decide (x = y))) := rfl
theorem len_int {i : Int} (h : i.natAbs.log2 < 1920) : (PySem.Str.ofString (toString i)).length ≤ 1921 := PyProof.Rows.int_text_len_1921 h
theorem pRepr_of {d : D} (h : showOk d = true) : pRepr d = some (.str d.py.shown) := by unfold pRepr; rw [if_pos h]
theorem get_a (f : FS) (h : f.kind = 0) : f.get "at" = some (.int f.pos) := by unfold FS.get; rw [if_pos h, if_neg (by decide +kernel), if_pos rfl]
theorem atI_ok {α : Type} {xs : List α} {i : Int} (h0 : 0 ≤ i) (h1 : i < xs.length) : atI xs i = xs[i.toNat]? := by
  unfold atI ixN
  rw [if_pos h0, if_pos h1]
  rfl
theorem fmod_rng {a b : Int} (h : 0 < b) : 0 ≤ a.fmod b ∧ a.fmod b < b := by
  rw [Int.fmod_eq_emod_of_nonneg a (by omega)]
  exact ⟨Int.emod_nonneg a (by omega), Int.emod_lt_of_pos a h⟩
end DL

namespace DL
open PySem L2
theorem seq_next {a b : DM} {s s1 : DS} (h : a s = some (.next, s1)) : dSeq a b s = b s1 := by simp [dSeq, h, dThen]
theorem seq_ret {a b : DM} {s s1 : DS} {d : D} (h : a s = some (.ret d, s1)) : dSeq a b s = some (.ret d, s1) := by simp [dSeq, h, dThen]
theorem asg_put {f : DE} {i : Nat} {s s1 : DS} {d : D} (h : f s = some (d, s1)) : dAsg f (dPut i) s = some (.next, { s1 with sl := s1.sl.set i (.val d) }) := by simp [dAsg, h, dPut]
theorem call_e {m : DFn} {a : DA} {s s1 : DS} {xs : List D} {d : D} {fs : Option FS} (ha : a s = some (xs, s1)) (hm : m xs s1.fs = some (d, fs)) : dCall m a s = some (d, { s1 with fs := fs }) := by
  unfold dCall
  rw [ha, Option.bind_some, hm]
  rfl
theorem op_e {p : D → D → Option D} {a b : DE} {s s1 s2 : DS} {x y z : D} (h1 : a s = some (x, s1)) (h2 : b s1 = some (y, s2)) (h3 : p x y = some z) : dOp p a b s = some (z, s2) := by
  unfold dOp
  rw [h1, Option.bind_some, h2, Option.bind_some, h3]
  rfl
theorem cons_e {a : DE} {b : DA} {s s1 s2 : DS} {x : D} {xs : List D} (h1 : a s = some (x, s1)) (h2 : b s1 = some (xs, s2)) : dCons a b s = some (x :: xs, s2) := by
  unfold dCons
  rw [h1, Option.bind_some, h2]
  rfl
theorem asg_e {f : DE} {t : D → DS → Option DS} {s s1 s2 : DS} {d : D} (h1 : f s = some (d, s1)) (h2 : t d s1 = some s2) : dAsg f t s = some (.next, s2) := by
  unfold dAsg
  rw [h1, Option.bind_some, h2]
  rfl
theorem ifS_t {c : DT} {a b : DM} {s s1 : DS} (h : c s = some (true, s1)) : dIfS c a b s = a s1 := by simp [dIfS, h]
theorem ifS_f {c : DT} {a b : DM} {s s1 : DS} (h : c s = some (false, s1)) : dIfS c a b s = b s1 := by simp [dIfS, h]
theorem ret_of {f : DE} {s s1 : DS} {d : D} (h : f s = some (d, s1)) : dRet f s = some (.ret d, s1) := by simp [dRet, h]
theorem dB_of {f : DE} {s s1 : DS} {b : Bool} (h : f s = some (.bl b, s1)) : dB f s = some (b, s1) := by simp [dB, h]
theorem mFn_ret {n : Nat} {b : DM} {ds : List D} {fs : Option FS} {d : D} {s : DS} (h : b ⟨ds.map .val ++ List.replicate (n - ds.length) .no, fs⟩ = some (.ret d, s)) : mFn n b ds fs = some (d, s.fs) := by simp [mFn, h]
theorem cp_e {m : DFn} {a : DA} {sl : List Sl} {fs : Option FS} {xs : List D} {d : D} (ha : a ⟨sl, fs⟩ = some (xs, ⟨sl, fs⟩)) (hm : m xs fs = some (d, fs)) : dCall m a ⟨sl, fs⟩ = some (d, ⟨sl, fs⟩) := call_e (s1 := ⟨sl, fs⟩) ha hm
theorem cl_e {m : DFn} {a : DA} {sl : List Sl} {fs fs' : Option FS} {xs : List D} {d : D} (ha : a ⟨sl, fs⟩ = some (xs, ⟨sl, fs⟩)) (hm : m xs fs = some (d, fs')) : dCall m a ⟨sl, fs⟩ = some (d, ⟨sl, fs'⟩) := call_e (s1 := ⟨sl, fs⟩) ha hm
theorem cl_e2 {m : DFn} {a : DA} {sl sl' : List Sl} {fs fs' fs2 : Option FS} {xs : List D} {d : D} (ha : a ⟨sl, fs⟩ = some (xs, ⟨sl', fs'⟩)) (hm : m xs fs' = some (d, fs2)) : dCall m a ⟨sl, fs⟩ = some (d, ⟨sl', fs2⟩) := call_e (s1 := ⟨sl', fs'⟩) ha hm
theorem tup3_e {a b c : DE} {s s1 s2 s3 : DS} {x y z : D} (h1 : a s = some (x, s1)) (h2 : b s1 = some (y, s2)) (h3 : c s2 = some (z, s3)) : dTup (dCons a (dCons b (dCons c dNil))) s = some (.tup [x, y, z], s3) := by
  unfold dTup
  rw [cons_e h1 (cons_e h2 (cons_e h3 rfl)), Option.bind_some]
  exact if_pos (e := (none : Option (D × DS))) (show 3 ≤ sizeLine by decide)
theorem forL_go {t : D → DS → Option DS} {b : DM} {d : D} {r : List D} {s s1 s2 : DS} (h1 : t d s = some s1) (h2 : b s1 = some (.next, s2)) : dForL t b (d :: r) s = dForL t b r s2 := by
  rw [dForL, h1, Option.bind_some, h2]
  rfl
theorem tup2_e {a b : DE} {s s1 s2 : DS} {x y : D} (h1 : a s = some (x, s1)) (h2 : b s1 = some (y, s2)) : dTup (dCons a (dCons b dNil)) s = some (.tup [x, y], s2) := by
  unfold dTup
  rw [cons_e h1 (cons_e h2 rfl), Option.bind_some]
  exact if_pos (e := (none : Option (D × DS))) (show 2 ≤ sizeLine by decide)
theorem parS_e {i j : Nat} {f : DA} {s s1 s2 : DS} {a b : D} (h : f s = some ([a, b], s1)) (e : { s1 with sl := (s1.sl.set i (.val a)).set j (.val b) } = s2) : dPar i j f s = some (.next, s2) := by
  unfold dPar
  rw [h]
  exact congrArg (fun z => some (Fl.next, z)) e
theorem tr_e {f : DE} {s s1 : DS} {b : Bool} (h : f s = some (.bl b, s1)) : dTr f s = some (b, s1) := by
  unfold dTr
  rw [h]
  rfl
theorem not_e {a : DT} {s s1 : DS} {b : Bool} (h : a s = some (b, s1)) : dNot a s = some (!b, s1) := by
  unfold dNot
  rw [h]
  rfl
theorem and_tt {a b : DT} {s s1 : DS} {r : Option (Bool × DS)} (h1 : a s = some (true, s1)) (h2 : b s1 = r) : dAnd a b s = r := by
  unfold dAnd
  rw [h1, Option.bind_some, if_pos rfl]
  exact h2
theorem and_ff {a b : DT} {s s1 : DS} (h1 : a s = some (false, s1)) : dAnd a b s = some (false, s1) := by
  unfold dAnd
  rw [h1, Option.bind_some, if_neg Bool.false_ne_true]
theorem or_tt {a b : DT} {s s1 : DS} (h1 : a s = some (true, s1)) : dOr a b s = some (true, s1) := by
  unfold dOr
  rw [h1, Option.bind_some, if_pos rfl]
theorem or_fx {a b : DT} {s s1 : DS} {r : Option (Bool × DS)} (h1 : a s = some (false, s1)) (h2 : b s1 = r) : dOr a b s = r := by
  unfold dOr
  rw [h1, Option.bind_some, if_neg Bool.false_ne_true]
  exact h2
theorem ret2_e {c : DT} {a : DM} {s s1 : DS} (h : c s = some (false, s1)) : dIfS c a dSkip s = some (.next, s1) := by
  rw [ifS_f h]
  rfl
theorem asgO_e {i : Nat} {f : DA} {s s1 : DS} {ds : List D} (h : f s = some (ds, s1)) (hi : i < s1.sl.length) : dAsgF i f s = some (.next, { s1 with sl := s1.sl.set i (.own ds) }) := by
  unfold dAsgF
  rw [h, Option.bind_some, if_pos hi]
theorem newL_e {f : DA} {s s1 : DS} {ds : List D} (h : f s = some (ds, s1)) : dNew f s = some (.lst ds, s1) := by
  unfold dNew
  rw [h]
  rfl
theorem comp1F_e {idx : List Nat} {fi : DA} {fc : DT} {fe : DE} {s s1 : DS} {ds R : List D} (h : fi s = some (ds, s1)) (hz : ds.length ≤ sizeLine) (c : dCompL (fun d => some (.val d :: capS idx s1.sl)) fc fe ds s1.fs = some (R, s1.fs)) : dComp1 idx fi fc fe s = some (R, s1) := by
  unfold dComp1
  rw [h, Option.bind_some, if_pos hz, c]
  rfl
theorem lst2_e {a b : DE} {s s1 s2 : DS} {x y : D} (h : a s = some (x, s1)) (h2 : b s1 = some (y, s2)) : dLst (dCons a (dCons b dNil)) s = some ([x, y], s2) := by
  unfold dLst
  rw [cons_e h (cons_e h2 rfl), Option.bind_some]
  exact if_pos (e := (none : Option (List D × DS))) (show 2 ≤ sizeLine by decide)
theorem cb1_e {p : D → Option D} {a : DE} {s s1 : DS} {x d : D} (h : a s = some (x, s1)) (hp : p x = some d) : dCB (one p) (dCons a dNil) s = some (d, s1) := by
  unfold dCB
  rw [cons_e h rfl, Option.bind_some]
  show (p x).map _ = _
  rw [hp]
  rfl
theorem if_te {c : DT} {a b : DE} {s s1 : DS} (h : c s = some (true, s1)) : dIf c a b s = a s1 := by
  unfold dIf
  rw [h]
  rfl
theorem if_fe {c : DT} {a b : DE} {s s1 : DS} (h : c s = some (false, s1)) : dIf c a b s = b s1 := by
  unfold dIf
  rw [h]
  rfl
def fr (p : Rat) : D := .tup [.int p.num, .int p.den]
/-- a fraction's size in bits -/
def Sz (k : Nat) (p : Rat) : Prop := p.num.natAbs < 2 ^ k ∧ p.den < 2 ^ k
theorem Sz.mono {k l : Nat} {p : Rat} (h : Sz k p) (hl : k ≤ l) : Sz l p :=
  ⟨Nat.lt_of_lt_of_le h.1 (Nat.pow_le_pow_right (by decide) hl), Nat.lt_of_lt_of_le h.2 (Nat.pow_le_pow_right (by decide) hl)⟩
theorem divInt_le {a b : Int} (hb : b ≠ 0) : (Rat.divInt a b).num.natAbs ≤ a.natAbs ∧ (Rat.divInt a b).den ≤ b.natAbs := by
  constructor
  · rw [Rat.num_divInt, Int.natAbs_ediv_of_dvd (Int.dvd_mul_of_dvd_right (Int.gcd_dvd_right ..))]
    rw [Int.natAbs_mul, Int.natAbs_sign_of_ne_zero hb, Nat.one_mul]
    exact Nat.div_le_self _ _
  · rw [Rat.den_divInt, if_neg hb]
    exact Nat.div_le_self _ _
theorem Sz.of_divInt {k : Nat} {a b : Int} (hb : b ≠ 0) (h1 : a.natAbs < 2 ^ k) (h2 : b.natAbs < 2 ^ k) : Sz k (Rat.divInt a b) :=
  ⟨Nat.lt_of_le_of_lt (divInt_le hb).1 h1, Nat.lt_of_le_of_lt (divInt_le hb).2 h2⟩
theorem bd_mul {a b k l : Nat} (h1 : a < 2 ^ k) (h2 : b < 2 ^ l) : a * b < 2 ^ (k + l) := by
  rw [Nat.pow_add]
  exact Nat.mul_lt_mul_of_lt_of_lt h1 h2
theorem bd_add {a b k : Nat} (h1 : a < 2 ^ k) (h2 : b < 2 ^ k) : a + b < 2 ^ (k + 1) := by
  rw [Nat.pow_succ]; omega
/-- an int's size in bits -/
def Bd (k : Nat) (i : Int) : Prop := i.natAbs < 2 ^ k
theorem Bd.mono {k l : Nat} {i : Int} (h : Bd k i) (hl : k ≤ l) : Bd l i := Nat.lt_of_lt_of_le h (Nat.pow_le_pow_right (by decide) hl)
theorem Bd.mul {k l : Nat} {i j : Int} (h1 : Bd k i) (h2 : Bd l j) : Bd (k + l) (i * j) := by
  unfold Bd; rw [Int.natAbs_mul]; exact bd_mul h1 h2
theorem Bd.add {k l : Nat} {i j : Int} (h1 : Bd k i) (h2 : Bd l j) : Bd (max k l + 1) (i + j) :=
  Nat.lt_of_le_of_lt (Int.natAbs_add_le i j) (bd_add (h1.mono (Nat.le_max_left ..)) (h2.mono (Nat.le_max_right ..)))
theorem Bd.neg {k : Nat} {i : Int} (h1 : Bd k i) : Bd k (-i) := by unfold Bd; rw [Int.natAbs_neg]; exact h1
theorem Bd.sub {k l : Nat} {i j : Int} (h1 : Bd k i) (h2 : Bd l j) : Bd (max k l + 1) (i - j) := by rw [Int.sub_eq_add_neg]; exact h1.add h2.neg
theorem Bd.gcd {k : Nat} {i : Int} {j : Int} (h : Bd k j) (hj : j ≠ 0) : Bd k (Int.gcd i j : Int) := by
  have : Int.gcd i j ≤ j.natAbs := Nat.le_of_dvd (by omega) (Nat.gcd_dvd_right i.natAbs j.natAbs)
  exact Nat.lt_of_le_of_lt this h
theorem Bd.bits {k : Nat} {i : Int} (h : Bd k i) (hk : k ≤ 8000) : bitsOk i = true := by
  have := log2_small (k := 8000) (by decide) (h.mono hk)
  exact decide_eq_true (by omega)
theorem Bd.div {k : Nat} {i : Int} (h : Bd k i) (h0 : i ≠ 0) (hk : k ≤ 8000) : divOk i = true := by
  have := log2_small (k := 8000) (by decide) (h.mono hk)
  unfold divOk
  rw [decide_eq_true h0, Bool.true_and]
  exact decide_eq_true (by omega)
theorem Bd.lit {k : Nat} {i : Int} (h : decide (i.natAbs < 2 ^ k) = true) : Bd k i := by unfold Bd; exact of_decide_eq_true h
theorem Sz.num {k : Nat} {p : Rat} (h : Sz k p) : Bd k p.num := h.1
theorem Sz.den {k : Nat} {p : Rat} (h : Sz k p) : Bd k (p.den : Int) := h.2
theorem den_ne (p : Rat) : (p.den : Int) ≠ 0 := by have := p.den_nz; omega
theorem den_pos (p : Rat) : (0 : Int) < p.den := by have := p.den_nz; omega
theorem rat_eq (p : Rat) : p = Rat.divInt p.num p.den := (Rat.num_divInt_den p).symm
theorem Sz.mul {k l : Nat} {p q : Rat} (h1 : Sz k p) (h2 : Sz l q) : Sz (k + l) (p * q) := by
  rw [rat_eq p, rat_eq q, Rat.divInt_mul_divInt]
  exact Sz.of_divInt (Int.mul_ne_zero (den_ne p) (den_ne q)) (Bd.mul h1.num h2.num) (Bd.mul h1.den h2.den)
theorem Sz.add {k l : Nat} {p q : Rat} (h1 : Sz k p) (h2 : Sz l q) : Sz (k + l + 1) (p + q) := by
  rw [rat_eq p, rat_eq q, Rat.divInt_add_divInt _ _ (den_ne p) (den_ne q)]
  refine Sz.of_divInt (Int.mul_ne_zero (den_ne p) (den_ne q)) ?_ (Bd.mono (Bd.mul h1.den h2.den) (by omega))
  have e1 := Bd.mul h1.num h2.den
  have e2 := Bd.mul h2.num h1.den
  exact Bd.mono (Bd.add e1 e2) (by omega)
theorem Sz.neg {k : Nat} {p : Rat} (h : Sz k p) : Sz k (-p) := ⟨by rw [Rat.neg_num, Int.natAbs_neg]; exact h.1, h.2⟩
theorem Sz.sub {k l : Nat} {p q : Rat} (h1 : Sz k p) (h2 : Sz l q) : Sz (k + l + 1) (p - q) := by rw [Rat.sub_eq_add_neg]; exact h1.add h2.neg
theorem Sz.int {k : Nat} {i : Int} (h : Bd k i) (hk : 1 ≤ k) : Sz k (i : Rat) := ⟨h, Nat.lt_of_lt_of_le (by decide : 1 < 2 ^ 1) (Nat.pow_le_pow_right (by decide) hk)⟩
theorem Sz.lit {k : Nat} {p : Rat} (h : decide (p.num.natAbs < 2 ^ k ∧ p.den < 2 ^ k) = true) : Sz k p := by unfold Sz; exact of_decide_eq_true h
end DL

namespace DL
open PySem L2
abbrev Pt := Rat × Rat
def pL (a : Pt) : Int := ((Nat.lcm a.1.den a.2.den : Nat) : Int)
def pX (a : Pt) : Int := a.1.num * ((Nat.lcm a.1.den a.2.den / a.1.den : Nat) : Int)
def pY (a : Pt) : Int := a.2.num * ((Nat.lcm a.1.den a.2.den / a.2.den : Nat) : Int)
def pt (a : Pt) : D := .tup [.int (pX a), .int (pY a), .int (pL a)]
theorem lcm_pos (p q : Rat) : 0 < Nat.lcm p.den q.den := Nat.lcm_pos (by have := p.den_nz; omega) (by have := q.den_nz; omega)
theorem pL_pos (a : Pt) : 0 < pL a := by have := lcm_pos a.1 a.2; unfold pL; omega
theorem pL_ne (a : Pt) : pL a ≠ 0 := by have := pL_pos a; omega
theorem pL_posR (a : Pt) : (0 : Rat) < (pL a : Rat) := Rat.intCast_pos.mpr (pL_pos a)
theorem pL_neR (a : Pt) : (pL a : Rat) ≠ 0 := fun h => pL_ne a (Rat.intCast_eq_zero_iff.mp h)
theorem num_eq (p : Rat) : (p.num : Rat) = p * ((p.den : Int) : Rat) := by
  have e := Rat.num_divInt_den p
  rw [Rat.divInt_eq_div] at e
  have hd : ((p.den : Int) : Rat) ≠ 0 := fun h => den_ne p (Rat.intCast_eq_zero_iff.mp h)
  have : (p.num : Rat) / ((p.den : Int) : Rat) * ((p.den : Int) : Rat) = (p.num : Rat) := Rat.div_mul_cancel hd
  rw [e] at this
  exact this.symm
theorem pX_eq (a : Pt) : (pX a : Rat) = a.1 * (pL a : Rat) := by
  unfold pX pL
  obtain ⟨c, hc⟩ := Nat.dvd_lcm_left a.1.den a.2.den
  have hd := a.1.den_nz
  have e : Nat.lcm a.1.den a.2.den / a.1.den = c := Nat.div_eq_of_eq_mul_right (by omega) hc
  rw [e, hc, Int.natCast_mul, Rat.intCast_mul, Rat.intCast_mul, num_eq]
  grind
theorem pY_eq (a : Pt) : (pY a : Rat) = a.2 * (pL a : Rat) := by
  unfold pY pL
  obtain ⟨c, hc⟩ := Nat.dvd_lcm_right a.1.den a.2.den
  have hd := a.2.den_nz
  have e : Nat.lcm a.1.den a.2.den / a.2.den = c := Nat.div_eq_of_eq_mul_right (by omega) hc
  rw [e, hc, Int.natCast_mul, Rat.intCast_mul, Rat.intCast_mul, num_eq]
  grind
/-- the bottom of a quotient divides any -/
theorem den_dvd {x d : Int} {p : Rat} (hd : 0 < d) (h : (x : Rat) = p * (d : Rat)) : ∃ c : Int, d = p.den * c ∧ x = p.num * c := by
  have h1 : x * p.den = p.num * d := by
    have e := num_eq p
    have : ((x * p.den : Int) : Rat) = ((p.num * d : Int) : Rat) := by
      rw [Rat.intCast_mul, Rat.intCast_mul, h, e]; grind
    exact Rat.intCast_inj.mp this
  have dv : (p.den : Int) ∣ p.num * d := ⟨x, by rw [← h1, Int.mul_comm]⟩
  have dv2 : p.den ∣ p.num.natAbs * d.natAbs := by
    have := Int.natAbs_dvd_natAbs.mpr dv
    rwa [Int.natAbs_mul, Int.natAbs_natCast] at this
  have dv3 : p.den ∣ d.natAbs := Nat.Coprime.dvd_of_dvd_mul_left (Nat.Coprime.symm p.reduced) dv2
  obtain ⟨c, hc⟩ : (p.den : Int) ∣ d := Int.dvd_natAbs.mp (Int.ofNat_dvd.mpr dv3)
  refine ⟨c, hc, ?_⟩
  have hp := den_pos p
  have : (p.den : Int) * x = p.den * (p.num * c) := by rw [Int.mul_comm, h1, hc]; grind
  exact Int.eq_of_mul_eq_mul_left (by omega) this
/-- least numbers of a place: just one way -/
theorem pt_uniq {x y d : Int} {a : Pt} (hd : 0 < d) (hg : Int.gcd (Int.gcd x y : Int) d = 1) (hx : (x : Rat) = a.1 * (d : Rat)) (hy : (y : Rat) = a.2 * (d : Rat)) : x = pX a ∧ y = pY a ∧ d = pL a := by
  obtain ⟨c1, e1, f1⟩ := den_dvd hd hx
  obtain ⟨c2, e2, f2⟩ := den_dvd hd hy
  obtain ⟨D, rfl⟩ := Int.eq_ofNat_of_zero_le (show 0 ≤ d by omega)
  have dl : Nat.lcm a.1.den a.2.den ∣ D := Nat.lcm_dvd (Int.ofNat_dvd.mp ⟨c1, e1⟩) (Int.ofNat_dvd.mp ⟨c2, e2⟩)
  obtain ⟨m, hm⟩ := dl
  have key : ∀ z : Int, ∀ r : Rat, (z : Rat) = r * ((D : Int) : Rat) → ∀ w : Int, (w : Rat) = r * (pL a : Rat) → z = w * m := by
    intro z r h1 w h2
    have : (z : Rat) = ((w * m : Int) : Rat) := by
      rw [h1, Rat.intCast_mul, h2, hm]
      have : (((Nat.lcm a.1.den a.2.den * m : Nat) : Int) : Rat) = (pL a : Rat) * ((m : Int) : Rat) := by
        rw [Int.natCast_mul, Rat.intCast_mul]; rfl
      rw [this]; grind
    exact Rat.intCast_inj.mp this
  have kx := key x a.1 hx (pX a) (pX_eq a)
  have ky := key y a.2 hy (pY a) (pY_eq a)
  have kd : (D : Int) = pL a * m := by rw [hm, Int.natCast_mul]; rfl
  have m1 : (m : Int) ∣ 1 := by
    have h : (m : Int) ∣ (Int.gcd (Int.gcd x y : Int) (D : Int) : Int) := by
      refine Int.dvd_coe_gcd (Int.dvd_coe_gcd ?_ ?_) ?_
      · exact ⟨pX a, by rw [kx, Int.mul_comm]⟩
      · exact ⟨pY a, by rw [ky, Int.mul_comm]⟩
      · exact ⟨pL a, by rw [kd, Int.mul_comm]⟩
    rwa [hg] at h
  have m2 : m = 1 := Nat.eq_one_of_dvd_one (Int.ofNat_dvd.mp m1)
  subst m2
  exact ⟨by rw [kx]; simp, by rw [ky]; simp, by rw [kd]; simp⟩
structure Ps (k : Nat) (a : Pt) : Prop where
  x : Bd k (pX a)
  y : Bd k (pY a)
  l : Bd k (pL a)
theorem Ps.mono {k l : Nat} {a : Pt} (h : Ps k a) (hl : k ≤ l) : Ps l a := ⟨h.x.mono hl, h.y.mono hl, h.l.mono hl⟩
theorem Ps.of {k l : Nat} {a : Pt} (h1 : Sz k a.1) (h2 : Sz l a.2) : Ps (k + l) a := by
  have hl : Nat.lcm a.1.den a.2.den ≤ a.1.den * a.2.den := Nat.le_of_dvd (Nat.mul_pos (by have := a.1.den_nz; omega) (by have := a.2.den_nz; omega)) (Nat.lcm_dvd_mul ..)
  have b := bd_mul h1.2 h2.2
  have dl : Nat.lcm a.1.den a.2.den / a.1.den ≤ a.2.den := by
    rw [Nat.div_le_iff_le_mul_add_pred (by have := a.1.den_nz; omega)]; omega
  have dr : Nat.lcm a.1.den a.2.den / a.2.den ≤ a.1.den := by
    rw [Nat.div_le_iff_le_mul_add_pred (by have := a.2.den_nz; omega), Nat.mul_comm a.2.den]; omega
  refine ⟨?_, ?_, ?_⟩
  · exact Bd.mul h1.num (show Bd l ((_ : Nat) : Int) from Nat.lt_of_le_of_lt dl h2.2)
  · have := Bd.mul h2.num (show Bd k ((_ : Nat) : Int) from Nat.lt_of_le_of_lt dr h1.2)
    rw [Nat.add_comm]; exact this
  · exact Nat.lt_of_le_of_lt hl b
def cross (a b c : Pt) : Rat := (b.1 - a.1) * (c.2 - a.2) - (b.2 - a.2) * (c.1 - a.1)
def sgn (r : Rat) : Int := if 0 < r then 1 else if r < 0 then -1 else 0
def isgn (n : Int) : Int := if 0 < n then 1 else if n < 0 then -1 else 0
theorem isgn_eq {n : Int} {c r : Rat} (hc : 0 < c) (h : (n : Rat) = c * r) : isgn n = sgn r := by
  unfold isgn sgn
  have h1 : 0 < n ↔ 0 < r := by
    rw [← Rat.intCast_pos, h]; exact Rat.mul_pos_iff_of_pos_left hc
  have h2 : n < 0 ↔ r < 0 := by
    rw [← Rat.intCast_neg_iff, h]; exact Rat.mul_neg_iff_of_pos_left hc
  simp only [h1, h2]
def lsB (a b : Pt) : Bool := decide (a.1 < b.1) || (decide (a.1 = b.1) && decide (a.2 < b.2))
end DL

namespace DL
def LexPos (x y : Rat) : Prop := 0 < x ∨ (x = 0 ∧ 0 < y)
theorem lsB_iff (a b : Pt) : lsB a b = true ↔ LexPos (b.1 - a.1) (b.2 - a.2) := by
  unfold lsB LexPos
  rw [Bool.or_eq_true, Bool.and_eq_true, decide_eq_true_iff, decide_eq_true_iff, decide_eq_true_iff]
  constructor
  · rintro (h | ⟨h1, h2⟩)
    · left; grind
    · right; constructor <;> grind
  · rintro (h | ⟨h1, h2⟩)
    · left; grind
    · right; constructor <;> grind
theorem lex_tri (x y : Rat) (h : ¬ (x = 0 ∧ y = 0)) : LexPos x y ∨ LexPos (-x) (-y) := by
  unfold LexPos
  grind
theorem lex_anti (x y : Rat) (h : LexPos x y) : ¬ LexPos (-x) (-y) := by
  unfold LexPos at *
  grind
theorem lex_mul {x y s : Rat} (hs : 0 < s) : LexPos (s * x) (s * y) ↔ LexPos x y := by
  unfold LexPos
  have h1 : 0 < s * x ↔ 0 < x := Rat.mul_pos_iff_of_pos_left hs
  have h2 : 0 < s * y ↔ 0 < y := Rat.mul_pos_iff_of_pos_left hs
  have h3 : s * x = 0 ↔ x = 0 := by
    rw [Rat.mul_eq_zero]
    constructor
    · rintro (h | h)
      · rw [h] at hs; exact absurd hs Rat.lt_irrefl
      · exact h
    · exact fun h => .inr h
  rw [h1, h2, h3]
theorem lex_zero : ¬ LexPos 0 0 := by unfold LexPos; grind
/-- along a direction: the sign alone counts -/
theorem lex_along {x y : Rat} (h : LexPos x y) (s : Rat) : LexPos (s * x) (s * y) ↔ 0 < s := by
  constructor
  · intro q
    rcases Rat.le_total (a := s) (b := 0) with z | z
    · rcases (Rat.le_iff_lt_or_eq).mp z with z | z
      · have : LexPos (-s * x) (-s * y) := (lex_mul (by grind)).mpr h
        rw [Rat.neg_mul, Rat.neg_mul] at this
        exact absurd this (lex_anti _ _ q)
      · rw [z, Rat.zero_mul, Rat.zero_mul] at q; exact absurd q lex_zero
    · rcases (Rat.le_iff_lt_or_eq).mp z with z | z
      · exact z
      · rw [← z, Rat.zero_mul, Rat.zero_mul] at q; exact absurd q lex_zero
  · intro hs; exact (lex_mul hs).mpr h
def onB (a b c : Pt) : Bool := decide (cross a b c = 0) && (if lsB a b then !lsB c a && !lsB b c else !lsB c b && !lsB a c)
def along (a b : Pt) (s : Rat) : Pt := (a.1 + s * (b.1 - a.1), a.2 + s * (b.2 - a.2))
/-- on the straight line: by a share -/
theorem share_of {a b c : Pt} (hab : a ≠ b) (h : cross a b c = 0) : ∃ s, c = along a b s := by
  unfold cross at h
  by_cases h1 : b.1 - a.1 = 0
  · have h2 : b.2 - a.2 ≠ 0 := fun z => hab (Prod.ext (by grind) (by grind))
    refine ⟨(c.2 - a.2) / (b.2 - a.2), ?_⟩
    unfold along
    refine Prod.ext ?_ ?_
    · show c.1 = _
      have : (b.2 - a.2) * (c.1 - a.1) = 0 := by grind
      rcases Rat.mul_eq_zero.mp this with z | z
      · exact absurd z h2
      · grind
    · show c.2 = _
      grind
  · refine ⟨(c.1 - a.1) / (b.1 - a.1), ?_⟩
    unfold along
    refine Prod.ext ?_ ?_
    · show c.1 = _
      grind
    · show c.2 = _
      have e : (b.1 - a.1) * (c.2 - a.2) = (b.2 - a.2) * (c.1 - a.1) := by grind
      have : c.2 - a.2 = (c.1 - a.1) / (b.1 - a.1) * (b.2 - a.2) := by grind
      grind
def dsq (a b : Pt) : Rat := (a.1 - b.1) * (a.1 - b.1) + (a.2 - b.2) * (a.2 - b.2)
end DL

namespace T
open DL
def crs (u v : Pt) : Rat := u.1 * v.2 - u.2 * v.1
def dotv (u v : Pt) : Rat := u.1 * v.1 + u.2 * v.2
def vec (a b : Pt) : Pt := (b.1 - a.1, b.2 - a.2)
def lxM (x y : Pt) : Pt := if lsB x y then y else x
def lxm (x y : Pt) : Pt := if lsB x y then x else y
def spn (a b : Pt) : Pt × Pt := if lsB a b then (a, b) else (b, a)
abbrev Res := Option (Pt × Option Pt)
def alg (u v : Pt × Pt) : Res := if lsB (lxm u.2 v.2) (lxM u.1 v.1) then none else if lxM u.1 v.1 = lxm u.2 v.2 then some (lxM u.1 v.1, none) else some (lxM u.1 v.1, some (lxm u.2 v.2))
def nmX (a b c d : Pt) : Rat := (b.1 - a.1) * (c.1 * d.2 - c.2 * d.1) - (a.1 * b.2 - a.2 * b.1) * (d.1 - c.1)
def nmY (a b c d : Pt) : Rat := (a.1 * b.2 - a.2 * b.1) * (c.2 - d.2) - (a.2 - b.2) * (c.1 * d.2 - c.2 * d.1)
def xpt (a b c d : Pt) : Pt := (nmX a b c d / crs (vec a b) (vec c d), nmY a b c d / crs (vec a b) (vec c d))
def cmn (a b c d : Pt) : Res :=
  if cross a b c = 0 ∧ cross a b d = 0 then alg (spn a b) (spn c d)
  else if 0 < cross a b c * cross a b d ∨ 0 < cross c d a * cross c d b then none
  else some (xpt a b c d, none)
theorem ls_tri {x y : Pt} (h1 : ¬ lsB x y = true) (h2 : ¬ lsB y x = true) : x = y := by
  by_cases e : x = y
  · exact e
  · have nz : ¬ (y.1 - x.1 = 0 ∧ y.2 - x.2 = 0) := fun h => e (Prod.ext (by grind) (by grind))
    rcases lex_tri _ _ nz with z | z
    · exact absurd ((lsB_iff x y).mpr z) h1
    · refine absurd ((lsB_iff y x).mpr ?_) h2
      have q1 : -(y.1 - x.1) = x.1 - y.1 := by grind
      have q2 : -(y.2 - x.2) = x.2 - y.2 := by grind
      rwa [q1, q2] at z
theorem ls_no {x y : Pt} (h1 : lsB x y = true) : ¬ lsB y x = true := fun h2 => by
  have a := (lsB_iff x y).mp h1
  have b := (lsB_iff y x).mp h2
  have q1 : -(y.1 - x.1) = x.1 - y.1 := by grind
  have q2 : -(y.2 - x.2) = x.2 - y.2 := by grind
  rw [← q1, ← q2] at b
  exact lex_anti _ _ a b
theorem lxM_comm (x y : Pt) : lxM x y = lxM y x := by
  unfold lxM
  by_cases h : lsB x y = true
  · rw [if_pos h, if_neg (ls_no h)]
  · by_cases k : lsB y x = true
    · rw [if_neg h, if_pos k]
    · rw [if_neg h, if_neg k, ls_tri h k]
theorem lxm_comm (x y : Pt) : lxm x y = lxm y x := by
  unfold lxm
  by_cases h : lsB x y = true
  · rw [if_pos h, if_neg (ls_no h)]
  · by_cases k : lsB y x = true
    · rw [if_neg h, if_pos k]
    · rw [if_neg h, if_neg k, ls_tri h k]
theorem spn_comm (x y : Pt) : spn x y = spn y x := by
  unfold spn
  by_cases h : lsB x y = true
  · rw [if_pos h, if_neg (ls_no h)]
  · by_cases k : lsB y x = true
    · rw [if_neg h, if_pos k]
    · rw [if_neg h, if_neg k, ls_tri h k]
theorem alg_comm (u v : Pt × Pt) : alg u v = alg v u := by
  unfold alg
  rw [lxM_comm u.1 v.1, lxm_comm u.2 v.2]
theorem cross_rev (a b c : Pt) : cross b a c = -cross a b c := by unfold cross; grind
theorem neg_div {x y : Rat} : -x / -y = x / y := by
  by_cases h : y = 0
  · subst h
    rw [Rat.div_def, Rat.div_def]
    have : (-0 : Rat) = 0 := by decide
    rw [this, Rat.inv_zero, Rat.mul_zero, Rat.mul_zero]
  · have h2 : -y ≠ 0 := fun z => h (by grind)
    have e1 := Rat.div_mul_cancel (a := -x) h2
    have e2 := Rat.div_mul_cancel (a := x) h
    have : (-x / -y - x / y) * y = 0 := by grind
    rcases Rat.mul_eq_zero.mp this with z | z
    · grind
    · exact absurd z h
theorem xpt_rev (a b c d : Pt) : xpt b a c d = xpt a b c d := by
  unfold xpt
  have e1 : nmX b a c d = -nmX a b c d := by unfold nmX; grind
  have e2 : nmY b a c d = -nmY a b c d := by unfold nmY; grind
  have e3 : crs (vec b a) (vec c d) = -crs (vec a b) (vec c d) := by unfold crs vec; grind
  rw [e1, e2, e3, neg_div, neg_div]
theorem xpt_swap (a b c d : Pt) : xpt c d a b = xpt a b c d := by
  unfold xpt
  have e1 : nmX c d a b = -nmX a b c d := by unfold nmX; grind
  have e2 : nmY c d a b = -nmY a b c d := by unfold nmY; grind
  have e3 : crs (vec c d) (vec a b) = -crs (vec a b) (vec c d) := by unfold crs vec; grind
  rw [e1, e2, e3, neg_div, neg_div]
theorem cmn_rev (a b c d : Pt) : cmn b a c d = cmn a b c d := by
  unfold cmn
  have e0 : (cross b a c = 0 ∧ cross b a d = 0) ↔ (cross a b c = 0 ∧ cross a b d = 0) := by
    rw [cross_rev a b c, cross_rev a b d]
    constructor <;> rintro ⟨h1, h2⟩ <;> constructor <;> grind
  have e1 : cross b a c * cross b a d = cross a b c * cross a b d := by rw [cross_rev a b c, cross_rev a b d]; grind
  have e2 : cross c d b * cross c d a = cross c d a * cross c d b := Rat.mul_comm _ _
  simp only [e0, e1, e2, spn_comm b a, xpt_rev]
/-- on one straight line, both ways about -/
theorem col_swap {a b c d : Pt} (hab : a ≠ b) (h : cross a b c = 0 ∧ cross a b d = 0) : cross c d a = 0 ∧ cross c d b = 0 := by
  obtain ⟨s, hs⟩ := share_of hab h.1
  obtain ⟨t, ht⟩ := share_of hab h.2
  rw [hs, ht]
  unfold along cross
  constructor <;> grind
theorem cmn_swap {a b c d : Pt} (hab : a ≠ b) (hcd : c ≠ d) : cmn c d a b = cmn a b c d := by
  unfold cmn
  have e0 : (cross c d a = 0 ∧ cross c d b = 0) ↔ (cross a b c = 0 ∧ cross a b d = 0) := ⟨col_swap hcd, col_swap hab⟩
  have e1 : (0 < cross c d a * cross c d b ∨ 0 < cross a b c * cross a b d) ↔ (0 < cross a b c * cross a b d ∨ 0 < cross c d a * cross c d b) := Or.comm
  simp only [e0, e1, alg_comm (spn c d), xpt_swap c d a b]
/-- the four ways about -/
theorem cmn_four {a b c d : Pt} (hab : a ≠ b) (hcd : c ≠ d) : cmn c d a b = cmn a b c d ∧ cmn b a c d = cmn a b c d ∧ cmn d c b a = cmn a b c d := by
  refine ⟨cmn_swap hab hcd, cmn_rev a b c d, ?_⟩
  rw [cmn_rev c d b a, cmn_swap (fun z => hab z.symm) hcd, cmn_rev]
end T

namespace T
open DL
def loS (x : Rat) : Rat := if x < 0 then 0 else x
def hiS (x : Rat) : Rat := if 1 < x then 1 else x
def shr (a b c : Pt) : Rat := dotv (vec a c) (vec a b) / dotv (vec a b) (vec a b)
open Classical in
noncomputable def lawE (a b : Pt) (lo hi : Rat) : Res := if hi < lo then none else if along a b lo = along a b hi then some (along a b lo, none) else if LexPos (vec (along a b lo) (along a b hi)).1 (vec (along a b lo) (along a b hi)).2 then some (along a b lo, some (along a b hi)) else some (along a b hi, some (along a b lo))
noncomputable def lawA (a b : Pt) (x y : Rat) : Res := if y < x then lawE a b (loS y) (hiS x) else lawE a b (loS x) (hiS y)
noncomputable def lawR (a b c d : Pt) : Res :=
  if crs (vec a b) (vec c d) = 0 then (if crs (vec a c) (vec a b) = 0 then lawA a b (shr a b c) (shr a b d) else none)
  else if ¬ (0 ≤ crs (vec a c) (vec c d) / crs (vec a b) (vec c d) ∧ crs (vec a c) (vec c d) / crs (vec a b) (vec c d) ≤ 1) ∨ ¬ (0 ≤ crs (vec a c) (vec a b) / crs (vec a b) (vec c d) ∧ crs (vec a c) (vec a b) / crs (vec a b) (vec c d) ≤ 1) then none
  else some (along a b (crs (vec a c) (vec c d) / crs (vec a b) (vec c d)), none)
theorem vec_nz {a b : Pt} (h : a ≠ b) : ¬ (b.1 - a.1 = 0 ∧ b.2 - a.2 = 0) := fun ⟨x, y⟩ => h (Prod.ext (by grind) (by grind))
theorem sq_nn (x : Rat) : 0 ≤ x * x := by
  rcases Rat.le_total (a := 0) (b := x) with z | z
  · exact Rat.mul_nonneg z z
  · have := Rat.mul_nonneg (show 0 ≤ -x by grind) (show 0 ≤ -x by grind)
    grind
theorem dot_pos {a b : Pt} (h : a ≠ b) : 0 < dotv (vec a b) (vec a b) := by
  have nz := vec_nz h
  unfold dotv vec
  have s1 := sq_nn (b.1 - a.1)
  have s2 := sq_nn (b.2 - a.2)
  have n : ¬ ((b.1 - a.1) * (b.1 - a.1) + (b.2 - a.2) * (b.2 - a.2) = 0) := fun z => by
    have z1 : (b.1 - a.1) * (b.1 - a.1) = 0 := by grind
    have z2 : (b.2 - a.2) * (b.2 - a.2) = 0 := by grind
    exact nz ⟨by rcases Rat.mul_eq_zero.mp z1 with q | q <;> exact q, by rcases Rat.mul_eq_zero.mp z2 with q | q <;> exact q⟩
  grind
theorem ne_of_pos {x : Rat} (h : 0 < x) : x ≠ 0 := fun z => by rw [z] at h; exact absurd h Rat.lt_irrefl
theorem shr_along {a b : Pt} (h : a ≠ b) (s : Rat) : shr a b (along a b s) = s := by
  unfold shr
  have nz := ne_of_pos (dot_pos h)
  have e : dotv (vec a (along a b s)) (vec a b) = s * dotv (vec a b) (vec a b) := by
    unfold dotv vec along
    grind
  rw [e, Rat.mul_div_cancel nz]
theorem along_inj {a b : Pt} (h : a ≠ b) {s t : Rat} (e : along a b s = along a b t) : s = t := by
  rw [← shr_along h s, ← shr_along h t, e]
theorem vec_along (a b : Pt) (s t : Rat) : vec (along a b s) (along a b t) = ((t - s) * (b.1 - a.1), (t - s) * (b.2 - a.2)) := by
  unfold vec along
  exact Prod.ext (by grind) (by grind)
theorem ls_along {a b : Pt} (h : LexPos (b.1 - a.1) (b.2 - a.2)) (s t : Rat) : lsB (along a b s) (along a b t) = true ↔ s < t := by
  rw [lsB_iff]
  have e := vec_along a b s t
  have e1 : (along a b t).1 - (along a b s).1 = (t - s) * (b.1 - a.1) := congrArg Prod.fst e
  have e2 : (along a b t).2 - (along a b s).2 = (t - s) * (b.2 - a.2) := congrArg Prod.snd e
  rw [e1, e2, lex_along h]
  constructor <;> intro z <;> grind
theorem ls_back {a b : Pt} (h : LexPos (-(b.1 - a.1)) (-(b.2 - a.2))) (s t : Rat) : lsB (along a b s) (along a b t) = true ↔ t < s := by
  rw [lsB_iff]
  have e := vec_along a b s t
  have e1 : (along a b t).1 - (along a b s).1 = (s - t) * -(b.1 - a.1) := (congrArg Prod.fst e).trans (by grind)
  have e2 : (along a b t).2 - (along a b s).2 = (s - t) * -(b.2 - a.2) := (congrArg Prod.snd e).trans (by grind)
  rw [e1, e2, lex_along h]
  constructor <;> intro z <;> grind
theorem P0 (a b : Pt) : along a b 0 = a := by unfold along; exact Prod.ext (by grind) (by grind)
theorem P1 (a b : Pt) : along a b 1 = b := by unfold along; exact Prod.ext (by grind) (by grind)
/-- on one straight line, x below y -/
theorem lawE1 {a b : Pt} (h : a ≠ b) {x y : Rat} (hxy : x < y) : lawE a b (loS x) (hiS y) = alg (spn a b) (spn (along a b x) (along a b y)) := by
  rcases lex_tri _ _ (vec_nz h) with p | p
  · have L := ls_along p
    have sab : spn a b = (along a b 0, along a b 1) := by
      unfold spn
      have := (L 0 1).mpr (by decide)
      rw [P0, P1] at this
      rw [if_pos this, P0, P1]
    have scd : spn (along a b x) (along a b y) = (along a b x, along a b y) := by
      unfold spn
      rw [if_pos ((L x y).mpr hxy)]
    have lo : lxM (along a b 0) (along a b x) = along a b (loS x) := by
      unfold lxM loS
      by_cases c : 0 < x
      · rw [if_pos ((L 0 x).mpr c), if_neg (fun z => by grind)]
      · rw [if_neg (fun z => c ((L 0 x).mp z))]
        by_cases c2 : x < 0
        · rw [if_pos c2]
        · rw [if_neg c2, show x = 0 by grind]
    have hi : lxm (along a b 1) (along a b y) = along a b (hiS y) := by
      unfold lxm hiS
      by_cases c : 1 < y
      · rw [if_pos ((L 1 y).mpr c), if_pos c]
      · rw [if_neg (fun z => c ((L 1 y).mp z)), if_neg c]
    rw [sab, scd]
    unfold alg
    simp only [lo, hi]
    unfold lawE
    by_cases c : hiS y < loS x
    · rw [if_pos c, if_pos ((L _ _).mpr c)]
    · rw [if_neg c, if_neg (fun z => c ((L _ _).mp z))]
      by_cases e : along a b (loS x) = along a b (hiS y)
      · rw [if_pos e, if_pos e]
      · rw [if_neg e, if_neg e]
        have ne : loS x ≠ hiS y := fun z => e (by rw [z])
        have lt : loS x < hiS y := by grind
        have q : LexPos (vec (along a b (loS x)) (along a b (hiS y))).1 (vec (along a b (loS x)) (along a b (hiS y))).2 := by
          rw [vec_along]
          exact (lex_along p _).mpr (by grind)
        rw [if_pos q]
  · have L := ls_back p
    have sab : spn a b = (along a b 1, along a b 0) := by
      unfold spn
      have : ¬ lsB (along a b 0) (along a b 1) = true := fun z => by
        have := (L 0 1).mp z
        exact absurd this (by decide)
      rw [P0, P1] at this
      rw [if_neg this, P0, P1]
    have scd : spn (along a b x) (along a b y) = (along a b y, along a b x) := by
      unfold spn
      rw [if_neg (fun z => by have := (L x y).mp z; grind)]
    have lo : lxM (along a b 1) (along a b y) = along a b (hiS y) := by
      unfold lxM hiS
      by_cases c : y < 1
      · rw [if_pos ((L 1 y).mpr c), if_neg (fun z => by grind)]
      · rw [if_neg (fun z => c ((L 1 y).mp z))]
        by_cases c2 : 1 < y
        · rw [if_pos c2]
        · rw [if_neg c2, show y = 1 by grind]
    have hi : lxm (along a b 0) (along a b x) = along a b (loS x) := by
      unfold lxm loS
      by_cases c : x < 0
      · rw [if_pos ((L 0 x).mpr c), if_pos c]
      · rw [if_neg (fun z => c ((L 0 x).mp z)), if_neg c]
    rw [sab, scd]
    unfold alg
    simp only [lo, hi]
    unfold lawE
    by_cases c : hiS y < loS x
    · rw [if_pos c, if_pos ((L _ _).mpr c)]
    · rw [if_neg c, if_neg (fun z => c ((L _ _).mp z))]
      by_cases e : along a b (loS x) = along a b (hiS y)
      · rw [if_pos e, if_pos e.symm, e]
      · rw [if_neg e]
        have ne : loS x ≠ hiS y := fun z => e (by rw [z])
        have lt : loS x < hiS y := by grind
        have q : ¬ LexPos (vec (along a b (loS x)) (along a b (hiS y))).1 (vec (along a b (loS x)) (along a b (hiS y))).2 := by
          rw [vec_along]
          intro z
          have e1 : (hiS y - loS x) * (b.1 - a.1) = (loS x - hiS y) * -(b.1 - a.1) := by grind
          have e2 : (hiS y - loS x) * (b.2 - a.2) = (loS x - hiS y) * -(b.2 - a.2) := by grind
          have z : LexPos ((hiS y - loS x) * (b.1 - a.1)) ((hiS y - loS x) * (b.2 - a.2)) := z
          rw [e1, e2] at z
          have := (lex_along p _).mp z
          grind
        rw [if_neg q, if_neg (show ¬ along a b (hiS y) = along a b (loS x) from fun z => e z.symm)]
theorem sq_pos' {x : Rat} (h : x ≠ 0) : 0 < x * x := by
  rcases Rat.le_total (a := 0) (b := x) with z | z
  · exact Rat.mul_pos (by grind) (by grind)
  · have := Rat.mul_pos (show 0 < -x by grind) (show 0 < -x by grind)
    grind
theorem out_iff {W t : Rat} (hW : W ≠ 0) : 0 < (-(t * W)) * ((1 - t) * W) ↔ ¬ (0 ≤ t ∧ t ≤ 1) := by
  have e : (-(t * W)) * ((1 - t) * W) = (t * (t - 1)) * (W * W) := by grind
  have w := sq_pos' hW
  rw [e, Rat.mul_comm, Rat.mul_pos_iff_of_pos_left w]
  constructor
  · intro z ⟨h1, h2⟩
    have := Rat.mul_nonneg h1 (show 0 ≤ 1 - t by grind)
    grind
  · intro z
    by_cases c : 0 ≤ t
    · have : 1 < t := by
        refine Rat.not_le.mp fun q => z ⟨c, q⟩
      exact Rat.mul_pos (by grind) (by grind)
    · have := Rat.mul_pos (show 0 < -t by grind) (show 0 < 1 - t by grind)
      grind
theorem law_cmn {a b c d : Pt} (hab : a ≠ b) (hcd : c ≠ d) : lawR a b c d = cmn a b c d := by
  have c1 : cross a b c = -crs (vec a c) (vec a b) := by unfold cross crs vec; grind
  have c2 : cross a b d = crs (vec a b) (vec c d) - crs (vec a c) (vec a b) := by unfold cross crs vec; grind
  have c3 : cross c d a = crs (vec a c) (vec c d) := by unfold cross crs vec; grind
  have c4 : cross c d b = crs (vec a c) (vec c d) - crs (vec a b) (vec c d) := by unfold cross crs vec; grind
  unfold lawR
  by_cases hW : crs (vec a b) (vec c d) = 0
  · rw [if_pos hW]
    rw [hW] at c2
    by_cases h0 : crs (vec a c) (vec a b) = 0
    · rw [if_pos h0]
      have k1 : cross a b c = 0 := by rw [c1, h0]; grind
      have k2 : cross a b d = 0 := by rw [c2, h0]; grind
      unfold cmn
      rw [if_pos ⟨k1, k2⟩]
      obtain ⟨s, hs⟩ := share_of hab k1
      obtain ⟨t, ht⟩ := share_of hab k2
      have ne : s ≠ t := fun z => hcd (by rw [hs, ht, z])
      rw [hs, ht, shr_along hab, shr_along hab]
      unfold lawA
      by_cases q : t < s
      · rw [if_pos q]
        rw [lawE1 hab q, spn_comm (along a b s)]
      · rw [if_neg q]
        exact lawE1 hab (by grind)
    · rw [if_neg h0]
      unfold cmn
      have n1 : ¬ (cross a b c = 0 ∧ cross a b d = 0) := fun z => h0 (by have := z.1; grind)
      have p : 0 < cross a b c * cross a b d := by
        have e : cross a b c * cross a b d = crs (vec a c) (vec a b) * crs (vec a c) (vec a b) := by rw [c1, c2]; grind
        rw [e]
        exact sq_pos' h0
      rw [if_neg n1, if_pos (.inl p)]
  · rw [if_neg hW]
    unfold cmn
    have n1 : ¬ (cross a b c = 0 ∧ cross a b d = 0) := fun z => hW (by have := z.1; have := z.2; grind)
    rw [if_neg n1]
    have es := Rat.div_mul_cancel (a := crs (vec a c) (vec c d)) hW
    have et := Rat.div_mul_cancel (a := crs (vec a c) (vec a b)) hW
    generalize hs : crs (vec a c) (vec c d) / crs (vec a b) (vec c d) = s at *
    generalize ht : crs (vec a c) (vec a b) / crs (vec a b) (vec c d) = t at *
    have q1 : cross a b c * cross a b d = (-(t * crs (vec a b) (vec c d))) * ((1 - t) * crs (vec a b) (vec c d)) := by rw [c1, c2, ← et]; grind
    have q2 : cross c d a * cross c d b = (-(s * crs (vec a b) (vec c d))) * ((1 - s) * crs (vec a b) (vec c d)) := by rw [c3, c4, ← es]; grind
    have q3 : (0 < cross a b c * cross a b d ∨ 0 < cross c d a * cross c d b) ↔ (¬ (0 ≤ s ∧ s ≤ 1) ∨ ¬ (0 ≤ t ∧ t ≤ 1)) := by
      rw [q1, q2, out_iff hW, out_iff hW]
      exact Or.comm
    simp only [q3]
    have x1 : nmX a b c d = (a.1 + s * (b.1 - a.1)) * crs (vec a b) (vec c d) := by
      have : nmX a b c d = a.1 * crs (vec a b) (vec c d) + crs (vec a c) (vec c d) * (b.1 - a.1) := by unfold nmX crs vec; grind
      rw [this, ← es]
      grind
    have x2 : nmY a b c d = (a.2 + s * (b.2 - a.2)) * crs (vec a b) (vec c d) := by
      have : nmY a b c d = a.2 * crs (vec a b) (vec c d) + crs (vec a c) (vec c d) * (b.2 - a.2) := by unfold nmY crs vec; grind
      rw [this, ← es]
      grind
    have xe : along a b s = xpt a b c d := by
      unfold xpt along
      rw [x1, x2, Rat.mul_div_cancel hW, Rat.mul_div_cancel hW]
    rw [xe]
end T

namespace T
open PySem L2 DL
abbrev gT : DT := dB (dOp pNe (dL 3) (dC (.int 0)))
abbrev gB : DM := dSeq (dAsg (dOp pMod (dL 2) (dL 3)) (dPut 4)) (dSeq (dAsg (dV 3) (dPut 2)) (dAsg (dV 4) (dPut 3)))
theorem gcd_test (a b : Sl) (g r : Int) (x : Sl) (fs : Option FS) : gT ⟨[a, b, .val (.int g), .val (.int r), x], fs⟩ = some (!decide (r = 0), ⟨[a, b, .val (.int g), .val (.int r), x], fs⟩) := by
  simp [dB, dOp, dL, dC, pNe_int]
theorem gcd_body (a b : Sl) (g r : Int) (x : Sl) (fs : Option FS) (h : r ≠ 0) : gB ⟨[a, b, .val (.int g), .val (.int r), x], fs⟩ =
    some (.next, ⟨[a, b, .val (.int r), .val (.int (g.fmod r)), .val (.int (g.fmod r))], fs⟩) := by
  simp [dSeq, dThen, dAsg, dOp, dL, dV, dPut, pMod, h]
theorem gcd_while (a b : Sl) (fs : Option FS) (r : Nat) : ∀ (g : Nat) (x : Sl), ∃ y, dWhile gT gB ⟨[a, b, .val (.int g), .val (.int r), x], fs⟩ = some (.next, ⟨[a, b, .val (.int (Nat.gcd g r)), .val (.int 0), y], fs⟩) := by
  induction r using Nat.strongRecOn with
  | ind r ih =>
    intro g x
    by_cases h : r = 0
    · subst h
      refine ⟨x, ?_⟩
      rw [Nat.gcd_zero_right]
      exact dWhile_end (by rw [gcd_test]; rfl)
    · have e : ((g : Int).fmod (r : Int)) = ((g % r : Nat) : Int) := by rw [Int.fmod_eq_emod_of_nonneg _ (by omega)]; rfl
      obtain ⟨y, hy⟩ := ih (g % r) (Nat.mod_lt _ (by omega)) r (.val (.int ((g : Int).fmod (r : Int))))
      refine ⟨y, ?_⟩
      have hg : Nat.gcd g r = Nat.gcd r (g % r) := by rw [Nat.gcd_comm g r, Nat.gcd_rec, Nat.gcd_comm]
      rw [hg]
      refine dWhile_turn (s1 := ⟨[a, b, .val (.int g), .val (.int r), x], fs⟩) (by rw [gcd_test, decide_eq_false (by omega)]; rfl) (gcd_body _ _ _ _ _ _ (by omega)) ?_
      rw [e] at hy ⊢
      exact hy
theorem abs_eq (a : Int) : (if a < 0 then -a else a) = ((a.natAbs : Nat) : Int) := by split <;> omega
theorem div2 (a b : Int) (fs : Option FS) : f_divisor_of_two [.int a, .int b] fs = some (.int (Int.gcd a b), fs) := by
  obtain ⟨y, hy⟩ := gcd_while (.val (.int a)) (.val (.int b)) fs b.natAbs a.natAbs .no
  refine mFn_ret (s := ⟨[.val (.int a), .val (.int b), .val (.int (Int.gcd a b)), .val (.int 0), y], fs⟩) ?_
  show b_divisor_of_two ⟨[.val (.int a), .val (.int b), .no, .no, .no], fs⟩ = _
  unfold b_divisor_of_two
  rw [seq_next (s1 := ⟨[.val (.int a), .val (.int b), .val (.int a.natAbs), .no, .no], fs⟩) (by simp [dAsg, dCB, dCons, dNil, dL, one, pAbs, dPut, abs_eq])]
  rw [seq_next (s1 := ⟨[.val (.int a), .val (.int b), .val (.int a.natAbs), .val (.int b.natAbs), .no], fs⟩) (by simp [dAsg, dCB, dCons, dNil, dL, one, pAbs, dPut, abs_eq])]
  rw [seq_next hy]
  exact ret_of (by simp [dV, Int.gcd])
theorem gcd0 (a : Int) : Int.gcd 0 a = a.natAbs := by simp [Int.gcd]
theorem gcdA (a b : Int) : Int.gcd ((a.natAbs : Nat) : Int) b = Int.gcd a b := by simp [Int.gcd]
theorem div_step (P : D) (acc x : Int) (x2 : Sl) (r : List D) (fs : Option FS) : dForL (dPut 2) (l1_divisor f_divisor_of_two) (.int x :: r) ⟨[.val P, .val (.int acc), x2], fs⟩ = dForL (dPut 2) (l1_divisor f_divisor_of_two) r ⟨[.val P, .val (.int (Int.gcd acc x)), .val (.int x)], fs⟩ := forL_go (s1 := ⟨[.val P, .val (.int acc), .val (.int x)], fs⟩) rfl (asg_e (cp_e rfl (div2 acc x fs)) rfl)
theorem div_run {ds : List D} {g : Int} {x2 : Sl} {fs : Option FS} (h : dForL (dPut 2) (l1_divisor f_divisor_of_two) ds ⟨[.val (.tup ds), .val (.int 0), .no], fs⟩ = some (.next, ⟨[.val (.tup ds), .val (.int g), x2], fs⟩)) : f_divisor f_divisor_of_two [.tup ds] fs = some (.int g, fs) := by
  refine mFn_ret (s := ⟨[.val (.tup ds), .val (.int g), x2], fs⟩) ?_
  show b_divisor f_divisor_of_two ⟨[.val (.tup ds), .no, .no], fs⟩ = _
  unfold b_divisor
  have lp : dFor (dV 0) (dPut 2) (l1_divisor f_divisor_of_two) ⟨[.val (.tup ds), .val (.int 0), .no], fs⟩ = some (.next, ⟨[.val (.tup ds), .val (.int g), x2], fs⟩) := h
  rw [seq_next (s1 := ⟨[.val (.tup ds), .val (.int 0), .no], fs⟩) (asg_e rfl rfl), seq_next lp]
  exact ret_of rfl
theorem divs3 (a b c : Int) (fs : Option FS) : f_divisor f_divisor_of_two [.tup [.int a, .int b, .int c]] fs = some (.int (Int.gcd (Int.gcd a b : Int) c), fs) := div_run (x2 := .val (.int c)) (by
  rw [div_step, div_step, div_step, gcd0, gcdA]
  rfl)
theorem fdiv_ex {a g c : Int} (hg : g ≠ 0) (e : a = g * c) : a.fdiv g = c := by subst e; exact Int.mul_fdiv_cancel_left c hg
/-- what a divisor with the bottom's sign leaves -/
theorem parts2 (a b : Int) (hb : b ≠ 0) : let g : Int := if b < 0 then -(Int.gcd a b : Int) else (Int.gcd a b : Int)
    g ≠ 0 ∧ a.fdiv g = (Rat.divInt a b).num ∧ b.fdiv g = ((Rat.divInt a b).den : Int) := by
  intro g
  have g0 : 0 < Int.gcd a b := Int.gcd_pos_of_ne_zero_right a hb
  obtain ⟨c, hc⟩ := Int.gcd_dvd_left a b
  obtain ⟨d, hd⟩ := Int.gcd_dvd_right a b
  have e1 : (Rat.divInt a b).num = if b < 0 then -c else c := by
    rw [Rat.num_divInt, Int.gcd_comm]
    split
    · rename_i h
      rw [Int.sign_eq_neg_one_of_neg h]
      refine Int.ediv_eq_of_eq_mul_right (by omega) ?_
      grind
    · rename_i h
      rw [Int.sign_eq_one_of_pos (by omega), Int.one_mul]
      exact Int.ediv_eq_of_eq_mul_right (by omega) hc
  have e2 : ((Rat.divInt a b).den : Int) = if b < 0 then -d else d := by
    rw [Rat.den_divInt, if_neg hb, Int.gcd_comm, Int.natCast_ediv]
    split
    · refine Int.ediv_eq_of_eq_mul_right (by omega) ?_
      grind
    · refine Int.ediv_eq_of_eq_mul_right (by omega) ?_
      grind
  rw [e1, e2]
  by_cases h : b < 0
  · have eg : g = -(Int.gcd a b : Int) := if_pos h
    rw [eg, if_pos h, if_pos h]
    exact ⟨by omega, fdiv_ex (by omega) (by grind), fdiv_ex (by omega) (by grind)⟩
  · have eg : g = (Int.gcd a b : Int) := if_neg h
    rw [eg, if_neg h, if_neg h]
    exact ⟨by omega, fdiv_ex (by omega) hc, fdiv_ex (by omega) hd⟩
theorem gdiv {k : Nat} {a b : Int} (hb : b ≠ 0) (h : Bd k b) (hk : k ≤ 8000) : divOk (if b < 0 then -(Int.gcd a b : Int) else (Int.gcd a b : Int)) = true := by
  have g0 : 0 < Int.gcd a b := Int.gcd_pos_of_ne_zero_right a hb
  split
  · exact (Bd.gcd h hb).neg.div (by omega) hk
  · exact (Bd.gcd h hb).div (by omega) hk
theorem sz2 : (2 : Nat) ≤ sizeLine := by decide
theorem sz3 : (3 : Nat) ≤ sizeLine := by decide
theorem neg1_3 (a b c : D) : atI [a, b, c] (-1) = some c := atI_last [a, b] c
theorem at30 (a b c : D) : atI [a, b, c] 0 = some a := rfl
theorem at31 (a b c : D) : atI [a, b, c] 1 = some b := rfl
theorem at32 (a b c : D) : atI [a, b, c] 2 = some c := rfl
noncomputable abbrev FL : DFn := f_lowest (f_divisor f_divisor_of_two)
noncomputable abbrev FF : DFn := f_fraction FL
theorem comp_div {gg : Int} (dg : divOk gg = true) (fs : Option FS) : ∀ xs : List Int, dCompL (fun d => some [.val d, .val (.int gg)]) dYes (dOp pDiv (dL 0) (dL 1)) (xs.map .int) fs = some (xs.map (fun x => .int (x.fdiv gg)), fs)
  | [] => rfl
  | x :: r => by
    have e : dOp pDiv (dL 0) (dL 1) ⟨[.val (.int x), .val (.int gg)], fs⟩ = some (.int (x.fdiv gg), ⟨[.val (.int x), .val (.int gg)], fs⟩) := op_e rfl rfl (if_pos dg)
    have ih := comp_div dg fs r
    rw [List.map_cons, dCompL, Option.bind_some]
    show ((dOp pDiv (dL 0) (dL 1) ⟨[.val (.int x), .val (.int gg)], fs⟩).bind _) = _
    rw [e, Option.bind_some]
    show (dCompL _ dYes _ (r.map .int) fs).map _ = _
    rw [ih]
    rfl
theorem neg_fix {ds : List D} {d g : Int} (h : atI ds (-1) = some (.int d)) (fs : Option FS) : dIfS (dB (dOp (pCmp (fun i j => decide (i < j))) (dOp pIx (dL 0) (dUn pNeg (dC (.int 1)))) (dC (.int 0)))) (dAsg (dUn pNeg (dL 1)) (dPut 1)) dSkip ⟨[.val (.tup ds), .val (.int g)], fs⟩ = some (.next, ⟨[.val (.tup ds), .val (.int (if d < 0 then -g else g))], fs⟩) := by
  have t : dB (dOp (pCmp (fun i j => decide (i < j))) (dOp pIx (dL 0) (dUn pNeg (dC (.int 1)))) (dC (.int 0))) ⟨[.val (.tup ds), .val (.int g)], fs⟩ = some (decide (d < 0), ⟨[.val (.tup ds), .val (.int g)], fs⟩) := dB_of (op_e (op_e rfl rfl (show pIx (.tup ds) (.int (-1)) = some (.int d) from h)) rfl rfl)
  by_cases nb : d < 0
  · rw [decide_eq_true nb] at t
    rw [if_pos nb, ifS_t t]
    rfl
  · rw [decide_eq_false nb] at t
    rw [if_neg nb, ifS_f t]
    rfl
theorem low_run {xs : List Int} {d g : Int} (fs : Option FS) (hl : xs.length ≤ 10) (hd : f_divisor f_divisor_of_two [.tup (xs.map .int)] fs = some (.int g, fs)) (h : atI (xs.map D.int) (-1) = some (.int d)) (dg : divOk (if d < 0 then -g else g) = true) : FL [.tup (xs.map .int)] fs = some (.tup (xs.map fun x => .int (x.fdiv (if d < 0 then -g else g))), fs) := by
  have nf := neg_fix (g := g) h fs
  have cd := comp_div dg fs xs
  have ll : (xs.map D.int).length ≤ sizeLine := Nat.le_trans (by rw [List.length_map]; exact hl) (show 10 ≤ sizeLine by decide)
  generalize xs.map D.int = ds at *
  generalize (if d < 0 then -g else g) = gg at *
  refine mFn_ret (s := ⟨[.val (.tup ds), .val (.int gg)], fs⟩) ?_
  show b_lowest (f_divisor f_divisor_of_two) ⟨[.val (.tup ds), .no], fs⟩ = _
  unfold b_lowest
  rw [seq_next (s1 := ⟨[.val (.tup ds), .val (.int g)], fs⟩) (asg_e (cp_e rfl hd) rfl), seq_next nf]
  exact ret_of (cb1_e (p := pTuple) (newL_e (comp1F_e (idx := [1]) (ds := ds) (s1 := ⟨[.val (.tup ds), .val (.int gg)], fs⟩) rfl ll cd)) rfl)
end T

namespace T
open PySem L2 DL
abbrev lgT : DT := dB (dOp (pCmp (fun i j => decide (j < i))) (dL 3) (dC (.int 0)))
abbrev lgB : DM := dPar 2 3 (dCons (dV 3) (dCons (dOp pMod (dL 2) (dL 3)) dNil))
theorem lgcd_while (a b : Sl) (fs : Option FS) (r : Nat) : ∀ (g : Nat), dWhile lgT lgB ⟨[a, b, .val (.int g), .val (.int r)], fs⟩ = some (.next, ⟨[a, b, .val (.int (Nat.gcd g r)), .val (.int 0)], fs⟩) := by
  induction r using Nat.strongRecOn with
  | ind r ih =>
    intro g
    by_cases h : r = 0
    · subst h
      rw [Nat.gcd_zero_right]
      exact dWhile_end (by simp [dSeq, dThen, dAsg, dOp, dUn, dC, dL, dV, dPut, dIfS, dB, dRet, dCall, dCons, dNil, dTup, dSkip, dCB, one, dNew, dLst, dIf, dAnd, dOr, dNot, dAndV, dOrV, dNotV, pIx, pAdd, pSub, pNeg, pCmp, pLen, dPutT, dPuts1, dPuts0, dPar, dTr, dTru])
    · have e : ((g : Int).fmod (r : Int)) = ((g % r : Nat) : Int) := by rw [Int.fmod_eq_emod_of_nonneg _ (by omega)]; rfl
      have hy := ih (g % r) (Nat.mod_lt _ (by omega)) r
      have hg : Nat.gcd g r = Nat.gcd r (g % r) := by rw [Nat.gcd_comm g r, Nat.gcd_rec, Nat.gcd_comm]
      rw [hg]
      have hr : ¬ (r : Int) = 0 := by omega
      have hr2 : (0 : Int) < r := by omega
      refine dWhile_turn (s1 := ⟨[a, b, .val (.int g), .val (.int r)], fs⟩) (s2 := ⟨[a, b, .val (.int r), .val (.int ((g % r : Nat) : Int))], fs⟩) (by simp [dSeq, dThen, dAsg, dOp, dUn, dC, dL, dV, dPut, dIfS, dB, dRet, dCall, dCons, dNil, dTup, dSkip, dCB, one, dNew, dLst, dIf, dAnd, dOr, dNot, dAndV, dOrV, dNotV, pIx, pAdd, pSub, pNeg, pCmp, pLen, dPutT, dPuts1, dPuts0, dPar, dTr, dTru]; omega) ?_ hy
      rw [← e]
      simp [dPar, dCons, dNil, dV, dOp, dL, pMod, h]
noncomputable abbrev LF : DFn := f_law_fraction
theorem lfrac {k : Nat} (a b : Int) (fs : Option FS) (hb : b ≠ 0) (h : Bd k b) (hk : k ≤ 8000) : LF [.int a, .int b] fs = some (fr (Rat.divInt a b), fs) := by
  obtain ⟨p0, p1, p2⟩ := parts2 a b hb
  have dg := gdiv (a := a) hb h hk
  have hy := lgcd_while (.val (.int a)) (.val (.int b)) fs b.natAbs a.natAbs
  refine mFn_ret (s := ⟨[.val (.int a), .val (.int b), .val (.int (if b < 0 then -(Int.gcd a b : Int) else (Int.gcd a b : Int))), .val (.int 0)], fs⟩) ?_
  show b_law_fraction ⟨[.val (.int a), .val (.int b), .no, .no], fs⟩ = _
  unfold b_law_fraction
  rw [seq_next (s1 := ⟨[.val (.int a), .val (.int b), .val (.int a.natAbs), .no], fs⟩) (by simp [dSeq, dThen, dAsg, dOp, dUn, dC, dL, dV, dPut, dIfS, dB, dRet, dCall, dCons, dNil, dTup, dSkip, dCB, one, dNew, dLst, dIf, dAnd, dOr, dNot, dAndV, dOrV, dNotV, pIx, pAdd, pSub, pNeg, pCmp, pLen, dPutT, dPuts1, dPuts0, dPar, dTr, dTru, pAbs, abs_eq])]
  rw [seq_next (s1 := ⟨[.val (.int a), .val (.int b), .val (.int a.natAbs), .val (.int b.natAbs)], fs⟩) (by simp [dSeq, dThen, dAsg, dOp, dUn, dC, dL, dV, dPut, dIfS, dB, dRet, dCall, dCons, dNil, dTup, dSkip, dCB, one, dNew, dLst, dIf, dAnd, dOr, dNot, dAndV, dOrV, dNotV, pIx, pAdd, pSub, pNeg, pCmp, pLen, dPutT, dPuts1, dPuts0, dPar, dTr, dTru, pAbs, abs_eq])]
  rw [seq_next hy]
  rw [seq_next (s1 := ⟨[.val (.int a), .val (.int b), .val (.int (if b < 0 then -(Int.gcd a b : Int) else (Int.gcd a b : Int))), .val (.int 0)], fs⟩) (by
    by_cases nb : b < 0
    · simp [dSeq, dThen, dAsg, dOp, dUn, dC, dL, dV, dPut, dIfS, dB, dRet, dCall, dCons, dNil, dTup, dSkip, dCB, one, dNew, dLst, dIf, dAnd, dOr, dNot, dAndV, dOrV, dNotV, pIx, pAdd, pSub, pNeg, pCmp, pLen, dPutT, dPuts1, dPuts0, dPar, dTr, dTru, nb, Int.gcd]
    · simp [dSeq, dThen, dAsg, dOp, dUn, dC, dL, dV, dPut, dIfS, dB, dRet, dCall, dCons, dNil, dTup, dSkip, dCB, one, dNew, dLst, dIf, dAnd, dOr, dNot, dAndV, dOrV, dNotV, pIx, pAdd, pSub, pNeg, pCmp, pLen, dPutT, dPuts1, dPuts0, dPar, dTr, dTru, nb, Int.gcd])]
  generalize hg : (if b < 0 then -(Int.gcd a b : Int) else (Int.gcd a b : Int)) = gg at *
  refine ret_of ?_
  unfold fr
  rw [← p1, ← p2]
  simp [dSeq, dThen, dAsg, dOp, dUn, dC, dL, dV, dPut, dIfS, dB, dRet, dCall, dCons, dNil, dTup, dSkip, dCB, one, dNew, dLst, dIf, dAnd, dOr, dNot, dAndV, dOrV, dNotV, pIx, pAdd, pSub, pNeg, pCmp, pLen, dPutT, dPuts1, dPuts0, dPar, dTr, dTru, pDiv, dg, sz2]
theorem add_eq (p q : Rat) : p + q = Rat.divInt (p.num * q.den + q.num * p.den) (p.den * q.den) := by
  rw [Rat.add_def', ← Rat.divInt_ofNat]; rfl
theorem mul_eq (p q : Rat) : p * q = Rat.divInt (p.num * q.num) (p.den * q.den) := by
  rw [Rat.mul_def', ← Rat.divInt_ofNat]; rfl
theorem dd_ne (p q : Rat) : (p.den : Int) * q.den ≠ 0 := Int.mul_ne_zero (den_ne p) (den_ne q)
theorem lt_eq (p q : Rat) : decide (p.num * q.den < q.num * p.den) = decide (p < q) := by
  congr 1; exact propext (Rat.lt_iff p q).symm
end T

namespace T
open PySem L2 DL
theorem modOk (a : Int) {b : Int} (h : b ≠ 0) : pMod (.int a) (.int b) = some (.int (a.fmod b)) := by simp [pMod, h]
theorem divE (a : Int) {b : Int} (h : divOk b = true) : pDiv (.int a) (.int b) = some (.int (a.fdiv b)) := by simp [pDiv, h]
theorem mulE {a b : Int} (h1 : bitsOk a = true) (h2 : bitsOk b = true) : pMul (.int a) (.int b) = some (.int (a * b)) := by simp [pMul, h1, h2]
theorem fp_e {i : Nat} {key : Str} {fe : DE} {s s1 : DS} {d : D} {r : Option (Fl × DS)} (h : fe s = some (d, s1)) (e : dFP i key (fun _ => some (d, s1)) s = r) : dFP i key fe s = r := by
  rw [← e]
  unfold dFP
  rw [h]
set_option maxHeartbeats 4000000 in
theorem draw_ok (f : FS) (many : Int) (hm : 0 < many) (hm2 : many < 2 ^ 100) (ht : 0 ≤ f.turn) (ht2 : f.turn < 2 ^ 40) (hk : f.kind = 0) :
    ∃ r f', f_law_draw [.feed, .int many] (some f) = some (.int r, some f') ∧ 0 ≤ r ∧ r < many ∧ f'.turn = f.turn + 1 ∧ f'.kind = 0 := by
  have dm : divOk many = true := divOk_of (by omega) (by omega)
  have hne : many ≠ 0 := by omega
  obtain ⟨cs, ps, lf, tn, kd⟩ := f
  simp only at ht ht2 hk ⊢
  subst hk
  by_cases hl : 0 < lf
  · refine ⟨lf.fmod many, ⟨cs, ps, lf.fdiv many, tn + 1, 0⟩, ?_, (fmod_rng hm).1, (fmod_rng hm).2, rfl, rfl⟩
    refine mFn_ret (s := ⟨[.val .feed, .val (.int many), .val (.int (tn + 1)), .val (.int (lf.fmod many)), .no, .no, .no], some ⟨cs, ps, lf.fdiv many, tn + 1, 0⟩⟩) ?_
    show b_law_draw ⟨[.val .feed, .val (.int many), .no, .no, .no, .no, .no], some ⟨cs, ps, lf, tn, 0⟩⟩ = _
    unfold b_law_draw
    rw [seq_next (s1 := ⟨[.val .feed, .val (.int many), .val (.int (tn + 1)), .no, .no, .no, .no], some ⟨cs, ps, lf, tn, 0⟩⟩) (asg_e (op_e rfl rfl rfl) rfl), seq_next (s1 := ⟨[.val .feed, .val (.int many), .val (.int (tn + 1)), .no, .no, .no, .no], some ⟨cs, ps, lf, tn + 1, 0⟩⟩) rfl]
    have c0 : dB (dOp (pCmp (fun i j => decide (j < i))) (dFG 0 "left") (dC (.int 0))) ⟨[.val .feed, .val (.int many), .val (.int (tn + 1)), .no, .no, .no, .no], some ⟨cs, ps, lf, tn + 1, 0⟩⟩ = some (true, ⟨[.val .feed, .val (.int many), .val (.int (tn + 1)), .no, .no, .no, .no], some ⟨cs, ps, lf, tn + 1, 0⟩⟩) := by
      rw [← decide_eq_true hl]; rfl
    refine seq_ret ?_
    rw [ifS_t c0, seq_next (s1 := ⟨[.val .feed, .val (.int many), .val (.int (tn + 1)), .val (.int (lf.fmod many)), .no, .no, .no], some ⟨cs, ps, lf, tn + 1, 0⟩⟩) (asg_e (op_e rfl rfl (modOk lf hne)) rfl),
      seq_next (s1 := ⟨[.val .feed, .val (.int many), .val (.int (tn + 1)), .val (.int (lf.fmod many)), .no, .no, .no], some ⟨cs, ps, lf.fdiv many, tn + 1, 0⟩⟩) (fp_e (op_e rfl rfl (divE lf dm)) rfl)]
    rfl
  · -- the cell
    have cell : ∃ c : Int, ∀ a b e x y z : Sl, dIf (dB (dOp (pCmp (fun i j => decide (j < i))) (dCB (one pLen) (dCons (dL 4) dNil)) (dC (.int 0)))) (dOp pIx (dL 4) (dOp pMod (dFG 0 "at") (dCB (one pLen) (dCons (dL 4) dNil)))) (dC (.int 0)) ⟨[.val .feed, a, b, e, .val (.lst (cs.map .int)), x, y], some ⟨cs, ps, lf, tn + 1, 0⟩⟩ =
        some (.int c, ⟨[.val .feed, a, b, e, .val (.lst (cs.map .int)), x, y], some ⟨cs, ps, lf, tn + 1, 0⟩⟩) := by
      by_cases hc : 0 < cs.length
      · have hi := fmod_rng (a := ps) (b := (cs.length : Int)) (by omega)
        obtain ⟨c, hg⟩ : ∃ c : Int, atI (cs.map D.int) (ps.fmod (cs.length : Int)) = some (.int c) := by
          have : (ps.fmod (cs.length : Int)).toNat < cs.length := by omega
          refine ⟨cs[(ps.fmod (cs.length : Int)).toNat], ?_⟩
          rw [atI_ok hi.1 (by rw [List.length_map]; exact hi.2), List.getElem?_map, List.getElem?_eq_getElem this]
          rfl
        refine ⟨c, fun a b e x y z => ?_⟩
        have hn : cs ≠ [] := by intro z; rw [z] at hc; simp at hc
        simp [dIf, dB, dOp, dCB, one, pLen, dCons, dNil, dL, dC, pCmp, dFG, get_a, pMod, pIx, hn, hc, hg]
      · refine ⟨0, fun a b e x y z => ?_⟩
        have hz : cs = [] := List.eq_nil_of_length_eq_zero (by omega)
        subst hz
        simp [dIf, dB, dOp, dCB, one, pLen, dCons, dNil, dL, dC, pCmp]
    obtain ⟨c, hcell⟩ := cell
    have hc1 := fmod_rng (a := c) (b := 1000003) (by decide)
    -- up to the test
    have pre : ∀ rest : DM, dSeq (dAsg (dOp pAdd (dFG 0 "turn") (dC (.int 1))) (dPut 2)) (dSeq (dFP 0 "turn" (dV 2)) (dSeq (dIfS (dB (dOp (pCmp (fun i j => decide (j < i))) (dFG 0 "left") (dC (.int 0)))) (dSeq (dAsg (dOp pMod (dFG 0 "left") (dL 1)) (dPut 3)) (dSeq (dFP 0 "left" (dOp pDiv (dFG 0 "left") (dL 1))) (dRet (dV 3)))) dSkip)
        (dSeq (dAsg (dFG 0 "cells") (dPut 4)) (dSeq (dAsg (dIf (dB (dOp (pCmp (fun i j => decide (j < i))) (dCB (one pLen) (dCons (dL 4) dNil)) (dC (.int 0)))) (dOp pIx (dL 4) (dOp pMod (dFG 0 "at") (dCB (one pLen) (dCons (dL 4) dNil)))) (dC (.int 0))) (dPut 5)) (dSeq (dFP 0 "at" (dOp pAdd (dFG 0 "at") (dC (.int 1)))) rest)))))
        ⟨[.val .feed, .val (.int many), .no, .no, .no, .no, .no], some ⟨cs, ps, lf, tn, 0⟩⟩ = rest ⟨[.val .feed, .val (.int many), .val (.int (tn + 1)), .no, .val (.lst (cs.map .int)), .val (.int c), .no], some ⟨cs, ps + 1, lf, tn + 1, 0⟩⟩ := fun rest => by
      rw [seq_next (s1 := ⟨[.val .feed, .val (.int many), .val (.int (tn + 1)), .no, .no, .no, .no], some ⟨cs, ps, lf, tn, 0⟩⟩) (asg_e (op_e rfl rfl rfl) rfl)]
      rw [seq_next (s1 := ⟨[.val .feed, .val (.int many), .val (.int (tn + 1)), .no, .no, .no, .no], some ⟨cs, ps, lf, tn + 1, 0⟩⟩) rfl]
      rw [seq_next (s1 := ⟨[.val .feed, .val (.int many), .val (.int (tn + 1)), .no, .no, .no, .no], some ⟨cs, ps, lf, tn + 1, 0⟩⟩) (by
        have c0 : dB (dOp (pCmp (fun i j => decide (j < i))) (dFG 0 "left") (dC (.int 0))) ⟨[.val .feed, .val (.int many), .val (.int (tn + 1)), .no, .no, .no, .no], some ⟨cs, ps, lf, tn + 1, 0⟩⟩ = some (false, ⟨[.val .feed, .val (.int many), .val (.int (tn + 1)), .no, .no, .no, .no], some ⟨cs, ps, lf, tn + 1, 0⟩⟩) := by
          rw [← decide_eq_false hl]; rfl
        rw [ifS_f c0]; rfl)]
      rw [seq_next (s1 := ⟨[.val .feed, .val (.int many), .val (.int (tn + 1)), .no, .val (.lst (cs.map .int)), .no, .no], some ⟨cs, ps, lf, tn + 1, 0⟩⟩) rfl]
      rw [seq_next (asg_put (hcell _ _ _ _ _ .no))]
      rw [seq_next (s1 := ⟨[.val .feed, .val (.int many), .val (.int (tn + 1)), .no, .val (.lst (cs.map .int)), .val (.int c), .no], some ⟨cs, ps + 1, lf, tn + 1, 0⟩⟩) (fp_e (op_e rfl rfl rfl) rfl)]
    have test : dAnd (dB (dOp (pCmp (fun i j => decide (j ≤ i))) (dL 5) (dOp pPow (dC (.int 10)) (dC (.int 18))))) (dB (dOp (pCmp (fun i j => decide (i ≤ j))) (dFG 0 "at") (dCB (one pLen) (dCons (dL 4) dNil)))) ⟨[.val .feed, .val (.int many), .val (.int (tn + 1)), .no, .val (.lst (cs.map .int)), .val (.int c), .no], some ⟨cs, ps + 1, lf, tn + 1, 0⟩⟩ =
        some (decide (1000000000000000000 ≤ c) && decide (ps + 1 ≤ (cs.length : Int)), ⟨[.val .feed, .val (.int many), .val (.int (tn + 1)), .no, .val (.lst (cs.map .int)), .val (.int c), .no], some ⟨cs, ps + 1, lf, tn + 1, 0⟩⟩) := by
      by_cases h1 : 1000000000000000000 ≤ c
      · simp [dAnd, dB, dOp, dL, dC, pPow, pCmp, dFG, get_a, dCB, one, pLen, dCons, dNil, h1]
      · simp [dAnd, dB, dOp, dL, dC, pPow, pCmp, h1]
    by_cases hb : (decide (1000000000000000000 ≤ c) && decide (ps + 1 ≤ (cs.length : Int))) = true
    · refine ⟨c.fmod many, ⟨cs, ps + 1, c.fdiv many, tn + 1, 0⟩, mFn_ret (s := ⟨[.val .feed, .val (.int many), .val (.int (tn + 1)), .no, .val (.lst (cs.map .int)), .val (.int c), .no], some ⟨cs, ps + 1, c.fdiv many, tn + 1, 0⟩⟩) ?_, (fmod_rng hm).1, (fmod_rng hm).2, rfl, rfl⟩
      show b_law_draw ⟨[.val .feed, .val (.int many), .no, .no, .no, .no, .no], some ⟨cs, ps, lf, tn, 0⟩⟩ = _
      unfold b_law_draw
      rw [pre]
      rw [hb] at test
      refine seq_ret ?_
      rw [ifS_t test]
      rw [seq_next (s1 := ⟨[.val .feed, .val (.int many), .val (.int (tn + 1)), .no, .val (.lst (cs.map .int)), .val (.int c), .no], some ⟨cs, ps + 1, c.fdiv many, tn + 1, 0⟩⟩) (fp_e (op_e rfl rfl (divE c dm)) rfl)]
      exact ret_of (op_e rfl rfl (modOk c hne))
    · have q : ∃ M : Int, dAsg (dOp pMod (dOp pMul (dOp pAdd (dOp pAdd (dOp pAdd (dOp pMod (dL 5) (dC (.int 1000003))) (dOp pMul (dOp pMul (dC (.int 31)) (dL 2)) (dL 2))) (dOp pMul (dC (.int 7)) (dL 2))) (dC (.int 11))) (dC (.int 48271))) (dC (.int 2147483647))) (dPut 6)
          ⟨[.val .feed, .val (.int many), .val (.int (tn + 1)), .no, .val (.lst (cs.map .int)), .val (.int c), .no], some ⟨cs, ps + 1, lf, tn + 1, 0⟩⟩ = some (.next, ⟨[.val .feed, .val (.int many), .val (.int (tn + 1)), .no, .val (.lst (cs.map .int)), .val (.int c), .val (.int M)], some ⟨cs, ps + 1, lf, tn + 1, 0⟩⟩) ∧ 0 ≤ M ∧ M < 2147483647 := by
        have b1 : bitsOk 31 = true := by decide
        have b2 : bitsOk (tn + 1) = true := bitsOk_of (by omega)
        have p1 : (tn + 1) * 31 ≤ 2 ^ 40 * 31 := Int.mul_le_mul_of_nonneg_right (by omega) (by decide)
        have b3 : bitsOk (31 * (tn + 1)) = true := bitsOk_of (by omega)
        have p2 : 0 ≤ 31 * (tn + 1) * (tn + 1) := Int.mul_nonneg (by omega) (by omega)
        have p3 : 31 * (tn + 1) * (tn + 1) ≤ 31 * 2 ^ 40 * 2 ^ 40 := Int.mul_le_mul (by omega) (by omega) (by omega) (by decide)
        have b4 : bitsOk (c.fmod 1000003 + 31 * (tn + 1) * (tn + 1) + 7 * (tn + 1) + 11) = true := bitsOk_of (by omega)
        have b5 : bitsOk 48271 = true := by decide
        have b6 : bitsOk 7 = true := by decide
        refine ⟨((c.fmod 1000003 + 31 * (tn + 1) * (tn + 1) + 7 * (tn + 1) + 11) * 48271).fmod 2147483647, ?_, fmod_rng (by decide)⟩
        exact asg_e (op_e (op_e (op_e (op_e (op_e (op_e rfl rfl (modOk c (by decide))) (op_e (op_e rfl rfl (mulE b1 b2)) rfl (mulE b3 b2)) rfl) (op_e rfl rfl (mulE b6 b2)) rfl) rfl rfl) rfl (mulE b4 b5)) rfl (modOk _ (by decide))) rfl
      obtain ⟨M, e1, m1, m2⟩ := q
      have hM := Int.fdiv_eq_ediv_of_nonneg M (show (0 : Int) ≤ 64 by decide)
      have b7 : bitsOk (M.fdiv 64) = true := bitsOk_of (by rw [hM]; omega)
      have b8 : bitsOk 69621 = true := by decide
      have b9 : bitsOk 7919 = true := by decide
      have b10 : bitsOk (tn + 1) = true := bitsOk_of (by omega)
      have d64 : divOk 64 = true := by decide
      refine ⟨(((M.fdiv 64 * 69621 + 7919 * (tn + 1)).fmod 2147483587).fdiv 64).fmod many, ⟨cs, ps + 1, lf, tn + 1, 0⟩, mFn_ret (s := ⟨[.val .feed, .val (.int many), .val (.int (tn + 1)), .no, .val (.lst (cs.map .int)), .val (.int c), .val (.int ((M.fdiv 64 * 69621 + 7919 * (tn + 1)).fmod 2147483587))], some ⟨cs, ps + 1, lf, tn + 1, 0⟩⟩) ?_, (fmod_rng hm).1, (fmod_rng hm).2, rfl, rfl⟩
      show b_law_draw ⟨[.val .feed, .val (.int many), .no, .no, .no, .no, .no], some ⟨cs, ps, lf, tn, 0⟩⟩ = _
      unfold b_law_draw
      rw [pre]
      have hb' : (decide (1000000000000000000 ≤ c) && decide (ps + 1 ≤ (cs.length : Int))) = false := by simpa using hb
      rw [hb'] at test
      rw [seq_next (by rw [ifS_f test]; rfl)]
      rw [seq_next e1]
      rw [seq_next (s1 := ⟨[.val .feed, .val (.int many), .val (.int (tn + 1)), .no, .val (.lst (cs.map .int)), .val (.int c), .val (.int ((M.fdiv 64 * 69621 + 7919 * (tn + 1)).fmod 2147483587))], some ⟨cs, ps + 1, lf, tn + 1, 0⟩⟩) (asg_e (op_e (op_e (op_e (op_e rfl rfl (divE M d64)) rfl (mulE b7 b8)) (op_e rfl rfl (mulE b9 b10)) rfl) rfl (modOk _ (by decide))) rfl)]
      exact ret_of (op_e (op_e rfl rfl (divE _ d64)) rfl (modOk _ hne))
/-- how many draws at most -/
def Fd (n : Nat) (f : FS) : Prop := 0 ≤ f.turn ∧ f.turn ≤ n ∧ f.kind = 0
theorem Fd.mono {n m : Nat} {f : FS} (h : Fd n f) (hm : n ≤ m) : Fd m f := ⟨h.1, by have := h.2.1; omega, h.2.2⟩
theorem draw {n : Nat} {f : FS} (many : Int) (h : Fd n f) (hm : 0 < many := by first | decide | omega) (hn : n < 2 ^ 30 := by omega) (hm2 : many < 2 ^ 100 := by first | decide | omega) :
    ∃ r f', f_law_draw [.feed, .int many] (some f) = some (.int r, some f') ∧ 0 ≤ r ∧ r < many ∧ Fd (n + 1) f' := by
  obtain ⟨r, f', e, h0, h1, h2, h3⟩ := draw_ok f many hm hm2 h.1 (by have := h.2.1; omega) h.2.2
  exact ⟨r, f', e, h0, h1, by have := h.1; omega, by have := h.2.1; omega, h3⟩
theorem Fd.zero (ns : List Int) : Fd 0 ⟨ns, 0, 0, 0, 0⟩ := ⟨by simp, by simp, rfl⟩
/-- one of a written list -/
theorem pick {α : Type} {xs : List α} {r : Int} (h0 : 0 ≤ r) (h1 : r < xs.length) : ∃ x, x ∈ xs ∧ atI xs r = some x := by
  refine ⟨xs[r.toNat]'(by omega), List.getElem_mem _, ?_⟩
  rw [atI_ok h0 h1, List.getElem?_eq_getElem]
end T

namespace T
open PySem L2 DL
theorem parts3 (x y d : Int) (hd : d ≠ 0) : let G : Nat := Int.gcd (Int.gcd x y : Int) d
    let g : Int := if d < 0 then -(G : Int) else (G : Int)
    g ≠ 0 ∧ x.fdiv g = pX (Rat.divInt x d, Rat.divInt y d) ∧ y.fdiv g = pY (Rat.divInt x d, Rat.divInt y d) ∧ d.fdiv g = pL (Rat.divInt x d, Rat.divInt y d) := by
  intro G g
  have g0 : 0 < G := Int.gcd_pos_of_ne_zero_right _ hd
  obtain ⟨d', ed⟩ := Int.gcd_dvd_right (Int.gcd x y : Int) d
  have h1 := Int.gcd_dvd_left (Int.gcd x y : Int) d
  obtain ⟨x', ex⟩ := Int.dvd_trans h1 (Int.gcd_dvd_left ..)
  obtain ⟨y', ey⟩ := Int.dvd_trans h1 (Int.gcd_dvd_right ..)
  replace ed : d = (G : Int) * d' := ed
  replace ex : x = (G : Int) * x' := ex
  replace ey : y = (G : Int) * y' := ey
  have cop : Int.gcd (Int.gcd x' y' : Int) d' = 1 := by
    have e1 : Int.gcd x y = G * Int.gcd x' y' := by
      have := Int.gcd_mul_left (m := (G : Int)) (n := x') (k := y')
      rw [← ex, ← ey] at this; exact this
    have e2 : Int.gcd (Int.gcd x y : Int) d = G * Int.gcd (Int.gcd x' y' : Int) d' := by
      have := Int.gcd_mul_left (m := (G : Int)) (n := (Int.gcd x' y' : Int)) (k := d')
      rw [← ed, ← Int.natCast_mul, ← e1] at this; exact this
    have e3 : G * Int.gcd (Int.gcd x' y' : Int) d' = G * 1 := by rw [← e2, Nat.mul_one]
    exact Nat.eq_of_mul_eq_mul_left g0 e3
  have hdr : (d : Rat) ≠ 0 := fun h => hd (Rat.intCast_eq_zero_iff.mp h)
  have hGr : ((G : Int) : Rat) ≠ 0 := fun h => by have := Rat.intCast_eq_zero_iff.mp h; omega
  have vx : ∀ z z' : Int, z = (G : Int) * z' → (z' : Rat) = Rat.divInt z d * (d' : Rat) := fun z z' e => by
    rw [Rat.divInt_eq_div]
    have ed' : (d : Rat) = ((G : Int) : Rat) * (d' : Rat) := by rw [← Rat.intCast_mul]; exact congrArg _ ed
    have ez' : (z : Rat) = ((G : Int) : Rat) * (z' : Rat) := by rw [← Rat.intCast_mul]; exact congrArg _ e
    have hd'r : (d' : Rat) ≠ 0 := fun h => hdr (by rw [ed', h]; grind)
    rw [ez', ed']
    grind
  by_cases h : d < 0
  · have eg : g = -(G : Int) := if_pos h
    have dn : 0 < -d' := by
      rcases Int.lt_or_le d' 0 with z | z
      · omega
      · have : 0 ≤ (G : Int) * d' := Int.mul_nonneg (by omega) z
        omega
    obtain ⟨q1, q2, q3⟩ := pt_uniq (x := -x') (y := -y') (d := -d') (a := (Rat.divInt x d, Rat.divInt y d)) dn (by
      have : Int.gcd (-x') (-y') = Int.gcd x' y' := by simp [Int.gcd]
      rw [this]
      have : Int.gcd (Int.gcd x' y' : Int) (-d') = Int.gcd (Int.gcd x' y' : Int) d' := by simp [Int.gcd]
      rw [this]; exact cop) (by rw [Rat.intCast_neg, Rat.intCast_neg, vx x x' ex]; grind) (by rw [Rat.intCast_neg, Rat.intCast_neg, vx y y' ey]; grind)
    rw [eg, ← q1, ← q2, ← q3]
    exact ⟨by omega, fdiv_ex (by omega) (by grind), fdiv_ex (by omega) (by grind), fdiv_ex (by omega) (by grind)⟩
  · have eg : g = (G : Int) := if_neg h
    have dp : 0 < d' := by
      rcases Int.lt_or_le 0 d' with z | z
      · exact z
      · have : (G : Int) * d' ≤ G * 0 := Int.mul_le_mul_of_nonneg_left z (by omega)
        omega
    obtain ⟨q1, q2, q3⟩ := pt_uniq (x := x') (y := y') (d := d') (a := (Rat.divInt x d, Rat.divInt y d)) dp cop (vx x x' ex) (vx y y' ey)
    rw [eg, ← q1, ← q2, ← q3]
    exact ⟨by omega, fdiv_ex (by omega) ex, fdiv_ex (by omega) ey, fdiv_ex (by omega) ed⟩
theorem gdiv3 {k : Nat} {x y d : Int} (hd : d ≠ 0) (h : Bd k d) (hk : k ≤ 8000) : divOk (if d < 0 then -(Int.gcd (Int.gcd x y : Int) d : Int) else (Int.gcd (Int.gcd x y : Int) d : Int)) = true := gdiv (a := (Int.gcd x y : Int)) hd h hk
theorem low3 {k : Nat} (x y d : Int) (fs : Option FS) (hd : d ≠ 0) (h : Bd k d) (hk : k ≤ 8000) : FL [.tup [.int x, .int y, .int d]] fs = some (pt (Rat.divInt x d, Rat.divInt y d), fs) := by
  obtain ⟨p0, p1, p2, p3⟩ := parts3 x y d hd
  have e := low_run (xs := [x, y, d]) (d := d) fs (show 3 ≤ 10 by decide) (divs3 x y d fs) (neg1_3 _ _ _) (gdiv3 (x := x) (y := y) hd h hk)
  unfold pt
  rw [← p1, ← p2, ← p3]
  exact e
theorem div_den (p q : Rat) : Rat.divInt (p.num * q.den) (p.den * q.den) = p := by
  rw [Rat.divInt_mul_right (den_ne q), Rat.num_divInt_den]
theorem div_den' (p q : Rat) : Rat.divInt (q.num * p.den) (p.den * q.den) = q := by
  rw [Int.mul_comm (p.den : Int), Rat.divInt_mul_right (den_ne p), Rat.num_divInt_den]
/-- a quotient by a place's bottom -/
theorem px_div (a : Pt) : Rat.divInt (pX a) (pL a) = a.1 := by
  rw [Rat.divInt_eq_div, pX_eq, Rat.mul_div_cancel (pL_neR a)]
theorem py_div (a : Pt) : Rat.divInt (pY a) (pL a) = a.2 := by
  rw [Rat.divInt_eq_div, pY_eq, Rat.mul_div_cancel (pL_neR a)]
end T

namespace T
open PySem L2 DL
theorem psign (n : Int) (fs : Option FS) : f_sign [.int n] fs = some (.int (isgn n), fs) := by
  refine mFn_ret (s := ⟨[.val (.int n)], fs⟩) ?_
  show b_sign ⟨[.val (.int n)], fs⟩ = _
  unfold isgn
  by_cases h1 : 0 < n
  · simp [b_sign, dSeq, dThen, dAsg, dOp, dUn, dC, dL, dV, dPut, dIfS, dB, dRet, dCall, dCons, dNil, dTup, dSkip, dCB, one, dNew, dLst, dIf, dAnd, dOr, dNot, dAndV, dOrV, dNotV, pIx, pAdd, pSub, pNeg, pCmp, pLen, dPutT, dPuts1, dPuts0, dPar, dTr, dTru, h1]
  · by_cases h2 : n < 0
    · simp [b_sign, dSeq, dThen, dAsg, dOp, dUn, dC, dL, dV, dPut, dIfS, dB, dRet, dCall, dCons, dNil, dTup, dSkip, dCB, one, dNew, dLst, dIf, dAnd, dOr, dNot, dAndV, dOrV, dNotV, pIx, pAdd, pSub, pNeg, pCmp, pLen, dPutT, dPuts1, dPuts0, dPar, dTr, dTru, h1, h2]
    · simp [b_sign, dSeq, dThen, dAsg, dOp, dUn, dC, dL, dV, dPut, dIfS, dB, dRet, dCall, dCons, dNil, dTup, dSkip, dCB, one, dNew, dLst, dIf, dAnd, dOr, dNot, dAndV, dOrV, dNotV, pIx, pAdd, pSub, pNeg, pCmp, pLen, dPutT, dPuts1, dPuts0, dPar, dTr, dTru, h1, h2]
theorem bits_of {k : Nat} {i : Int} (h : Bd k i) (hk : decide (k ≤ 8000) = true) : bitsOk i = true := h.bits (of_decide_eq_true hk)
theorem rpos3 {a b c : Rat} (ha : 0 < a) (hb : 0 < b) (hc : 0 < c) : 0 < a * b * c := Rat.mul_pos (Rat.mul_pos ha hb) hc
theorem mul_lt_iff {x y : Int} {p q c : Rat} (hc : 0 < c) (hx : (x : Rat) = c * p) (hy : (y : Rat) = c * q) : (x < y ↔ p < q) ∧ (x = y ↔ p = q) := by
  constructor
  · rw [← Rat.intCast_lt_intCast, hx, hy]; exact Rat.mul_lt_mul_left hc
  · rw [← Rat.intCast_inj, hx, hy]
    constructor
    · intro h; have : c ≠ 0 := fun z => by rw [z] at hc; exact absurd hc Rat.lt_irrefl
      grind
    · intro h; rw [h]
theorem cmpX (a b : Pt) : (pX a * pL b < pX b * pL a ↔ a.1 < b.1) ∧ (pX a * pL b = pX b * pL a ↔ a.1 = b.1) :=
  mul_lt_iff (Rat.mul_pos (pL_posR a) (pL_posR b)) (by rw [Rat.intCast_mul, pX_eq]; grind) (by rw [Rat.intCast_mul, pX_eq]; grind)
theorem cmpY (a b : Pt) : (pY a * pL b < pY b * pL a ↔ a.2 < b.2) ∧ (pY a * pL b = pY b * pL a ↔ a.2 = b.2) :=
  mul_lt_iff (Rat.mul_pos (pL_posR a) (pL_posR b)) (by rw [Rat.intCast_mul, pY_eq]; grind) (by rw [Rat.intCast_mul, pY_eq]; grind)
theorem plesser {k : Nat} (a b : Pt) (fs : Option FS) (ha : Ps k a) (hb : Ps k b) (hk : k ≤ 2000) : f_is_lesser [pt a, pt b] fs = some (.bl (lsB a b), fs) := by
  have a1 := ha.x.bits (by omega)
  have a2 := ha.y.bits (by omega)
  have a3 := ha.l.bits (by omega)
  have b1 := hb.x.bits (by omega)
  have b2 := hb.y.bits (by omega)
  have b3 := hb.l.bits (by omega)
  obtain ⟨x1, x2⟩ := cmpX a b
  obtain ⟨y1, y2⟩ := cmpY a b
  refine mFn_ret (s := ⟨[.val (pt a), .val (pt b), .val (.int (pX a * pL b)), .val (.int (pX b * pL a))], fs⟩) ?_
  show b_is_lesser ⟨[.val (pt a), .val (pt b), .no, .no], fs⟩ = _
  by_cases h : a.1 = b.1
  · have h' := x2.mpr h
    have n1 : ¬ a.1 < b.1 := by rw [h]; exact Rat.lt_irrefl
    simp [b_is_lesser, dSeq, dThen, dAsg, dOp, dUn, dC, dL, dV, dPut, dIfS, dB, dRet, dCall, dCons, dNil, dTup, dSkip, dCB, one, dNew, dLst, dIf, dAnd, dOr, dNot, dAndV, dOrV, dNotV, pIx, pAdd, pSub, pNeg, pCmp, pLen, dPutT, dPuts1, dPuts0, dPar, dTr, dTru, pt, at30, at31, at32, pMul, a1, a2, a3, b1, b2, b3, pNe_int, h', lsB, n1, h, y1]
  · have h' : ¬ pX a * pL b = pX b * pL a := fun z => h (x2.mp z)
    simp [b_is_lesser, dSeq, dThen, dAsg, dOp, dUn, dC, dL, dV, dPut, dIfS, dB, dRet, dCall, dCons, dNil, dTup, dSkip, dCB, one, dNew, dLst, dIf, dAnd, dOr, dNot, dAndV, dOrV, dNotV, pIx, pAdd, pSub, pNeg, pCmp, pLen, dPutT, dPuts1, dPuts0, dPar, dTr, dTru, pt, at30, at31, at32, pMul, a1, a2, a3, b1, b2, b3, pNe_int, h', lsB, h, x1]
theorem sgn0 (r : Rat) : sgn r = 0 ↔ r = 0 := by
  unfold sgn
  by_cases h : 0 < r
  · rw [if_pos h]; constructor
    · intro z; exact absurd z (by decide)
    · intro z; rw [z] at h; exact absurd h Rat.lt_irrefl
  · by_cases h2 : r < 0
    · rw [if_neg h, if_pos h2]; constructor
      · intro z; exact absurd z (by decide)
      · intro z; rw [z] at h2; exact absurd h2 Rat.lt_irrefl
    · rw [if_neg h, if_neg h2]; constructor
      · intro _; grind
      · intro _; rfl
end T

namespace T
open PySem L2 DL
def spB (A B P : Pt) : Bool := if lsB A B then lsB P A || lsB B P else lsB P B || lsB A P
def pvE (A B P : Pt) : Int := if spB A B P then 0 else if sgn (cross A B P) = (if lsB A B then -1 else 1) then sgn (cross A B P) else 0
end T

namespace DL
open PySem L2
structure Ok (k n : Nat) (d : D) : Prop where
  pl : d.plain = true
  sh : d.py.showable = true
  la : d.py.canLay0 = true
  dp : d.py.depth ≤ k
  le : d.py.leavesShort 1921 = true
  bu : d.py.bulk ≤ n
structure OkL (k n : Nat) (ds : List D) : Prop where
  pl : D.plains ds = true
  sh : PyData.showableAll (D.pys ds) = true
  la : PyData.canLayAll0 (D.pys ds) = true
  dp : PyData.depthAll (D.pys ds) ≤ k
  le : PyData.leavesShortAll 1921 (D.pys ds) = true
  bu : PyData.bulkAll (D.pys ds) ≤ n
theorem Ok.mono {k n k' n' : Nat} {d : D} (h : Ok k n d) (hk : k ≤ k') (hn : n ≤ n') : Ok k' n' d := ⟨h.pl, h.sh, h.la, Nat.le_trans h.dp hk, h.le, Nat.le_trans h.bu hn⟩
theorem OkL.mono {k n k' n' : Nat} {ds : List D} (h : OkL k n ds) (hk : k ≤ k') (hn : n ≤ n') : OkL k' n' ds := ⟨h.pl, h.sh, h.la, Nat.le_trans h.dp hk, h.le, Nat.le_trans h.bu hn⟩
theorem Ok.non : Ok 0 0 .non := ⟨rfl, rfl, rfl, Nat.le_refl _, rfl, Nat.le_refl _⟩
theorem Ok.bl (b : Bool) : Ok 0 0 (.bl b) := ⟨rfl, rfl, rfl, Nat.le_refl _, rfl, Nat.le_refl _⟩
theorem Ok.int {i : Int} (h : Bd 1920 i) : Ok 0 0 (.int i) := by
  have hl : i.natAbs.log2 < 1920 := log2_small (by decide) h
  refine ⟨rfl, ?_, rfl, Nat.le_refl _, ?_, Nat.le_refl _⟩
  · simp only [D.py, PyData.showable]; exact decide_eq_true hl
  · simp only [D.py, PyData.leavesShort, PyData.shown]
    exact decide_eq_true (len_int hl)
theorem Ok.str {x : Str} (h : PyData.strOk x = true) : Ok 0 x.length (.str x) := by
  refine ⟨rfl, rfl, ?_, Nat.le_refl _, ?_, Nat.le_refl _⟩
  · simp only [D.py, PyData.canLay0]; exact h
  · exact PyData.leavesShort_of_canLay0 1921 (.str x) (by simp only [PyData.canLay0]; exact h) rfl
theorem OkL.nil : OkL 0 0 [] := ⟨rfl, rfl, rfl, Nat.le_refl _, rfl, Nat.le_refl _⟩
theorem OkL.cons {k l n m : Nat} {d : D} {ds : List D} (h : Ok k n d) (hs : OkL l m ds) : OkL (max k l) (n + 1 + m) (d :: ds) := by
  refine ⟨?_, ?_, ?_, ?_, ?_, ?_⟩
  · simp only [D.plains, h.pl, hs.pl, Bool.and_self]
  · simp only [D.pys, PyData.showableAll, h.sh, hs.sh, Bool.and_self]
  · simp only [D.pys, PyData.canLayAll0, h.la, hs.la, Bool.and_self]
  · have := h.dp; have := hs.dp; simp only [D.pys, PyData.depthAll]; omega
  · simp only [D.pys, PyData.leavesShortAll, h.le, hs.le, Bool.and_self]
  · have := h.bu; have := hs.bu; simp only [D.pys, PyData.bulkAll]; omega
theorem Ok.tup {k n : Nat} {ds : List D} (h : OkL k n ds) : Ok (k + 1) n (.tup ds) := by
  refine ⟨?_, ?_, ?_, ?_, ?_, ?_⟩
  · simp only [D.plain, h.pl]
  · simp only [D.py, PyData.showable, h.sh]
  · simp only [D.py, PyData.canLay0, h.la]
  · have := h.dp; simp only [D.py, PyData.depth]; omega
  · simp only [D.py, PyData.leavesShort, h.le]
  · have := h.bu; simp only [D.py, PyData.bulk]; omega
theorem Ok.lst {k n : Nat} {ds : List D} (h : OkL k n ds) : Ok (k + 1) n (.lst ds) := by
  refine ⟨?_, ?_, ?_, ?_, ?_, ?_⟩
  · simp only [D.plain, h.pl]
  · simp only [D.py, PyData.showable, h.sh]
  · simp only [D.py, PyData.canLay0, h.la]
  · have := h.dp; simp only [D.py, PyData.depth]; omega
  · simp only [D.py, PyData.leavesShort, h.le]
  · have := h.bu; simp only [D.py, PyData.bulk]; omega
theorem OkL.all {k n : Nat} : ∀ {ds : List D}, (∀ d ∈ ds, Ok k n d) → OkL k (ds.length * (n + 1)) ds
  | [], _ => OkL.nil.mono (by omega) (by omega)
  | d :: r, h => by
    have := (OkL.cons (h d (List.mem_cons_self ..)) (OkL.all (ds := r) fun x hx => h x (List.mem_cons_of_mem _ hx)))
    refine this.mono (by omega) ?_
    rw [List.length_cons, Nat.add_mul, Nat.one_mul]; omega
theorem Ok.show {k n : Nat} {d : D} (h : Ok k n d) (hk : k ≤ 64 := by decide) (hn : n ≤ 8000 := by decide) : showOk d = true := by
  have e := PyData.shown_le_bulk 1921 (by decide) d.py h.le
  have e2 : (1921 + 2) * d.py.bulk ≤ 1923 * 8000 := Nat.mul_le_mul (by decide) (Nat.le_trans h.bu hn)
  have : d.py.shown.length ≤ sizeLine := by rw [sizeLine_eq]; omega
  simp only [showOk, h.pl, h.sh, h.la, Bool.true_and, Bool.and_true, decide_eq_true this, decide_eq_true (Nat.le_trans h.dp hk)]
theorem Ok.eq {k n : Nat} {d : D} (h : Ok k n d) (hk : k ≤ 64 := by decide) : eqOk d = true := by
  simp only [eqOk, h.pl, SeqAt.shaped, h.la, Bool.true_and, decide_eq_true (Nat.le_trans h.dp hk)]
theorem Ok.repr {k n : Nat} {d : D} (h : Ok k n d) (hk : k ≤ 64 := by decide) (hn : n ≤ 8000 := by decide) : pRepr d = some (.str d.py.shown) := pRepr_of (h.show hk hn)
theorem Ok.fr {k : Nat} {p : Rat} (h : Sz k p) (hk : k ≤ 1920 := by decide) : Ok 1 2 (fr p) := Ok.tup ((OkL.cons (Ok.int (h.num.mono hk)) (OkL.cons (Ok.int (h.den.mono hk)) OkL.nil)))
theorem Ok.pt {k : Nat} {a : Pt} (h : Ps k a) (hk : k ≤ 1920 := by decide) : Ok 1 3 (pt a) := Ok.tup ((OkL.cons (Ok.int (h.x.mono hk)) (OkL.cons (Ok.int (h.y.mono hk)) (OkL.cons (Ok.int (h.l.mono hk)) OkL.nil))))
theorem strNe_self (x : Str) : pNe (.str x) (.str x) = some (.bl false) := by rw [pNe_str]; simp
theorem ixT (ds : List D) (i : Int) : pIx (.tup ds) (.int i) = atI ds i := rfl
theorem ixL (ds : List D) (i : Int) : pIx (.lst ds) (.int i) = atI ds i := rfl
theorem ix_fr0 (p : Rat) : pIx (DL.fr p) (.int 0) = some (.int p.num) := rfl
theorem ix_fr1 (p : Rat) : pIx (DL.fr p) (.int 1) = some (.int p.den) := rfl
theorem ix_pt0 (a : Pt) : pIx (DL.pt a) (.int 0) = some (.int (pX a)) := rfl
theorem ix_pt1 (a : Pt) : pIx (DL.pt a) (.int 1) = some (.int (pY a)) := rfl
theorem ix_pt2 (a : Pt) : pIx (DL.pt a) (.int 2) = some (.int (pL a)) := rfl
theorem pt_inj {a b : Pt} (h1 : pX a = pX b) (h2 : pY a = pY b) (h3 : pL a = pL b) : a = b := by
  have e1 := pX_eq a; have e2 := pX_eq b; have e3 := pY_eq a; have e4 := pY_eq b
  have n := pL_neR b
  rw [h1, h3] at e1; rw [h2, h3] at e3
  exact Prod.ext (by grind) (by grind)
theorem pEq_pt {k l : Nat} {a b : Pt} (ha : Ps k a) (hb : Ps l b) (hk : k ≤ 1920 := by decide) (hl : l ≤ 1920 := by decide) : pEq (pt a) (pt b) = some (.bl (decide (a = b))) := by
  have o1 := (Ok.pt ha hk).eq
  have o2 := (Ok.pt hb hl).eq
  unfold pt at *
  simp only [pEq, o1, o2, Bool.and_self, if_true, D.py, D.pys, PyData.eqv, PyData.eqvAll, Bool.beq_eq_decide_eq, Bool.and_true]
  congr 2
  rw [Bool.eq_iff_iff]
  simp only [Bool.and_eq_true, decide_eq_true_iff]
  constructor
  · rintro ⟨h1, h2, h3⟩; exact pt_inj h1 h2 h3
  · rintro rfl; exact ⟨rfl, rfl, rfl⟩
theorem pNe_pt {k l : Nat} {a b : Pt} (ha : Ps k a) (hb : Ps l b) (hk : k ≤ 1920 := by decide) (hl : l ≤ 1920 := by decide) : pNe (pt a) (pt b) = some (.bl (!decide (a = b))) := by
  have o1 := (Ok.pt ha hk).eq
  have o2 := (Ok.pt hb hl).eq
  unfold pt at *
  simp only [pNe, o1, o2, Bool.and_self, if_true, D.py, D.pys, PyData.eqv, PyData.eqvAll, Bool.beq_eq_decide_eq, Bool.and_true]
  congr 3
  rw [Bool.eq_iff_iff]
  simp only [Bool.and_eq_true, decide_eq_true_iff]
  constructor
  · rintro ⟨h1, h2, h3⟩; exact pt_inj h1 h2 h3
  · rintro rfl; exact ⟨rfl, rfl, rfl⟩
end DL

namespace DL
open PySem L2
def asc (x : Str) : Prop := ∀ c ∈ x.cps.toList, c < 128
mutual
def Th (b : Nat) : Nat → D → Prop
  | _, .non => True
  | _, .bl _ => True
  | _, .int i => Bd b i
  | _, .str x => asc x
  | k + 1, .tup ds => Ths b k ds
  | k + 1, .lst ds => Ths b k ds
  | _, _ => False
def Ths (b : Nat) : Nat → List D → Prop
  | _, [] => True
  | k, d :: r => Th b k d ∧ Ths b k r
end
def bk (d : D) : Nat := d.py.bulk
def bks (ds : List D) : Nat := PyData.bulkAll (D.pys ds)
theorem bks_cons (d : D) (r : List D) : bks (d :: r) = bk d + 1 + bks r := by simp only [bks, bk, D.pys, PyData.bulkAll]
theorem bk_tup (ds : List D) : bk (.tup ds) = bks ds := by simp only [bks, bk, D.py, PyData.bulk]
theorem bk_lst (ds : List D) : bk (.lst ds) = bks ds := by simp only [bks, bk, D.py, PyData.bulk]
section
variable {b b' k k' : Nat}
mutual
theorem Th.mono (hb : b ≤ b') : ∀ {k k' : Nat} (d : D), k ≤ k' → Th b k d → Th b' k' d
  | k, k', .non, _, _ => by unfold Th; trivial
  | k, k', .bl _, _, _ => by unfold Th; trivial
  | k, k', .int i, _, h => by unfold Th at *; exact Bd.mono h hb
  | k, k', .str x, _, h => by unfold Th at *; exact h
  | 0, k', .tup ds, _, h => by unfold Th at h; exact h.elim
  | k + 1, 0, .tup ds, hk, h => by omega
  | k + 1, k' + 1, .tup ds, hk, h => by unfold Th at *; exact Ths.mono hb ds (by omega) h
  | 0, k', .lst ds, _, h => by unfold Th at h; exact h.elim
  | k + 1, 0, .lst ds, hk, h => by omega
  | k + 1, k' + 1, .lst ds, hk, h => by unfold Th at *; exact Ths.mono hb ds (by omega) h
  | k, k', .feed, _, h => by unfold Th at h; exact h.elim
  | k, k', .scr _, _, h => by unfold Th at h; exact h.elim
theorem Ths.mono (hb : b ≤ b') : ∀ {k k' : Nat} (ds : List D), k ≤ k' → Ths b k ds → Ths b' k' ds
  | k, k', [], _, _ => by unfold Ths; trivial
  | k, k', d :: r, hk, h => by unfold Ths at *; exact ⟨Th.mono hb d hk h.1, Ths.mono hb r hk h.2⟩
end
theorem Ths.mem : ∀ {ds : List D} {d : D}, Ths b k ds → d ∈ ds → Th b k d
  | x :: r, d, h, m => by
    unfold Ths at h
    rcases List.mem_cons.mp m with z | z
    · subst z; exact h.1
    · exact Ths.mem h.2 z
theorem Ths.of : ∀ {ds : List D}, (∀ d ∈ ds, Th b k d) → Ths b k ds
  | [], _ => by unfold Ths; trivial
  | d :: r, h => by unfold Ths; exact ⟨h d (List.mem_cons_self ..), Ths.of fun x hx => h x (List.mem_cons_of_mem _ hx)⟩
theorem strOk_asc {x : Str} (h : asc x) : PyData.strOk x = true := by
  unfold PyData.strOk
  rw [Array.all_eq_true_iff_forall_mem]
  intro c hc
  have := h c (Array.mem_toList_iff.mpr hc)
  exact decide_eq_true (by omega)
mutual
theorem Th.ok (hb : b ≤ 1920) : ∀ {k : Nat} (d : D), Th b k d → Ok k (bk d) d
  | k, .non, _ => Ok.non.mono (by omega) (Nat.zero_le _)
  | k, .bl i, _ => (Ok.bl i).mono (by omega) (Nat.zero_le _)
  | k, .int i, h => by unfold Th at h; exact (Ok.int (Bd.mono h hb)).mono (by omega) (Nat.zero_le _)
  | k, .str x, h => by unfold Th at h; exact (Ok.str (strOk_asc h)).mono (by omega) (Nat.le_refl _)
  | 0, .tup ds, h => by unfold Th at h; exact h.elim
  | k + 1, .tup ds, h => by unfold Th at h; rw [bk_tup]; exact Ok.tup (Ths.ok hb ds h)
  | 0, .lst ds, h => by unfold Th at h; exact h.elim
  | k + 1, .lst ds, h => by unfold Th at h; rw [bk_lst]; exact Ok.lst (Ths.ok hb ds h)
  | k, .feed, h => by unfold Th at h; exact h.elim
  | k, .scr _, h => by unfold Th at h; exact h.elim
theorem Ths.ok (hb : b ≤ 1920) : ∀ {k : Nat} (ds : List D), Ths b k ds → OkL k (bks ds) ds
  | k, [], _ => OkL.nil.mono (by omega) (Nat.zero_le _)
  | k, d :: r, h => by
    unfold Ths at h
    rw [bks_cons]
    exact (OkL.cons (Th.ok hb d h.1) (Ths.ok hb r h.2)).mono (by omega) (Nat.le_refl _)
end
end
end DL

namespace DL
open PySem L2
theorem forL_inv {t : D → DS → Option DS} {b : DM} (P : Nat → DS → Prop) : ∀ (ds : List D) (n : Nat) (s : DS), P n s → (∀ i d s, ds[i]? = some d → P (n + i) s → ∃ s1 s2, t d s = some s1 ∧ (b s1 = some (.next, s2) ∨ b s1 = some (.cont, s2)) ∧ P (n + i + 1) s2) →
    ∃ s', dForL t b ds s = some (.next, s') ∧ P (n + ds.length) s'
  | [], n, s, h, _ => ⟨s, rfl, h⟩
  | d :: r, n, s, h, k => by
    obtain ⟨s1, s2, e1, e2, h2⟩ := k 0 d s rfl h
    obtain ⟨s', e3, h3⟩ := forL_inv P r (n + 1) s2 h2 (fun i d' s hd hp => by
      have := k (i + 1) d' s (by simpa using hd) (by rwa [show n + 1 + i = n + (i + 1) by omega] at hp)
      rwa [show n + (i + 1) + 1 = n + 1 + i + 1 by omega] at this)
    refine ⟨s', ?_, by rw [List.length_cons, show n + (r.length + 1) = n + 1 + r.length by omega]; exact h3⟩
    rw [dForL, e1]
    rcases e2 with e2 | e2 <;> simp [e2, e3]
theorem forR_of {f : DA} {t : D → DS → Option DS} {b : DM} {s s1 : DS} {xs ds : List D} (h1 : f s = some (xs, s1)) (h2 : dRng xs = some ds) : dForR f t b s = dForL t b ds s1 := by
  simp only [dForR, h1, Option.bind_some, h2]
theorem for_lst {f : DE} {t : D → DS → Option DS} {b : DM} {s s1 : DS} {ds : List D} (h1 : f s = some (.lst ds, s1)) : dFor f t b s = dForL t b ds s1 := by
  simp only [dFor, h1, Option.bind_some]
theorem for_tup {f : DE} {t : D → DS → Option DS} {b : DM} {s s1 : DS} {ds : List D} (h1 : f s = some (.tup ds, s1)) : dFor f t b s = dForL t b ds s1 := by
  simp only [dFor, h1, Option.bind_some]
theorem ups_at {lo : Int} {n i : Nat} {d : D} (h : (ups lo n)[i]? = some d) : d = .int (lo + i) ∧ i < n := by
  have hi : i < n := by have := (List.getElem?_eq_some_iff.mp h).1; rwa [ups_len] at this
  rw [ups_get hi] at h
  cases h
  exact ⟨rfl, hi⟩
theorem rng8 {n : Nat} (h : n < 2 ^ 30) : dRng [.int (n : Int)] = some (ups 0 n) := by
  have : -(2 ^ 62) ≤ (n : Int) ∧ (n : Int) < 2 ^ 62 := by omega
  simp only [dRng, if_pos this, Int.toNat_natCast]
end DL
namespace T
open PySem L2 DL
noncomputable abbrev LN : DFn := f_law_number LF f_law_draw
theorem num_tab {r : Int} (h0 : 0 ≤ r) (h1 : r < 3) : ∃ m : Int, atI [D.int 7, D.int 13, D.int 30] r = some (.int m) ∧ 0 < m ∧ m ≤ 30 := by
  have : r = 0 ∨ r = 1 ∨ r = 2 := by omega
  rcases this with rfl | rfl | rfl
  · exact ⟨7, rfl, by decide, by decide⟩
  · exact ⟨13, rfl, by decide, by decide⟩
  · exact ⟨30, rfl, by decide, by decide⟩
theorem num_tab2 {r : Int} (h0 : 0 ≤ r) (h1 : r < 6) : ∃ d : Int, atI [D.int 1, D.int 1, D.int 1, D.int 2, D.int 3, D.int 4] r = some (.int d) ∧ 0 < d ∧ d ≤ 4 := by
  have : r = 0 ∨ r = 1 ∨ r = 2 ∨ r = 3 ∨ r = 4 ∨ r = 5 := by omega
  rcases this with rfl | rfl | rfl | rfl | rfl | rfl
  · exact ⟨1, rfl, by decide, by decide⟩
  · exact ⟨1, rfl, by decide, by decide⟩
  · exact ⟨1, rfl, by decide, by decide⟩
  · exact ⟨2, rfl, by decide, by decide⟩
  · exact ⟨3, rfl, by decide, by decide⟩
  · exact ⟨4, rfl, by decide, by decide⟩
theorem num_bd {r m q : Int} (h0 : 0 ≤ r) (h1 : r < m) (hm : m ≤ 30) (q0 : 0 ≤ q) (q1 : q < 2) : Bd 5 (r * (1 - 2 * q)) ∧ Bd 5 r ∧ Bd 5 q ∧ Bd 5 (1 - 2 * q) := by
  unfold Bd
  have : q = 0 ∨ q = 1 := by omega
  rcases this with rfl | rfl <;> omega
theorem num_d {d : Int} (h0 : 0 < d) (h1 : d ≤ 4) : Bd 5 d ∧ d ≠ 0 := ⟨show d.natAbs < 2 ^ 5 by omega, by omega⟩
theorem num_m {m : Int} (h : m ≤ 30) : m < 2 ^ 100 := by omega
theorem num_n {n i : Nat} (h : n < 2 ^ 29) (hi : i ≤ 100 := by decide) : n + i < 2 ^ 30 := by omega
theorem number {n : Nat} {f : FS} (h : Fd n f) (hn : n < 2 ^ 29) : ∃ p f', LN [.feed] (some f) = some (fr p, some f') ∧ Sz 5 p ∧ Fd (n + 4) f' := by
  obtain ⟨r1, f1, e1, a1, a2, h1⟩ := draw 3 h (by decide) (num_n (i := 0) hn) (by decide)
  obtain ⟨m, q1, q2, q3⟩ := num_tab a1 a2
  obtain ⟨r2, f2, e2, b1, b2, h2⟩ := draw m h1 q2 (num_n hn) (num_m q3)
  obtain ⟨r3, f3, e3, c1, c2, h3⟩ := draw 6 h2 (by decide) (num_n (i := 2) hn) (by decide)
  obtain ⟨d, u1, u2, u3⟩ := num_tab2 c1 c2
  obtain ⟨r4, f4, e4, d1, d2, h4⟩ := draw 2 h3 (by decide) (num_n (i := 3) hn) (by decide)
  obtain ⟨bn, z3, z2, z4⟩ := num_bd b1 b2 q3 d1 d2
  obtain ⟨bd, dn⟩ := num_d u2 u3
  have g := lfrac (r2 * (1 - 2 * r4)) d (some f4) dn bd (by decide)
  refine ⟨_, f4, mFn_ret (s := ⟨[.val .feed, .val (.int r2), .val (.int d)], some f4⟩) ?_, Sz.of_divInt dn bn bd, h4⟩
  show b_law_number LF f_law_draw ⟨[.val .feed, .no, .no], some f⟩ = _
  unfold b_law_number
  rw [seq_next (s1 := ⟨[.val .feed, .val (.int r2), .no], some f2⟩) (asg_e (cl_e2 (cons_e rfl (cons_e (op_e (s1 := ⟨[.val .feed, .no, .no], some f⟩) rfl (cl_e rfl e1) q1) rfl)) e2) rfl),
    seq_next (s1 := ⟨[.val .feed, .val (.int r2), .val (.int d)], some f3⟩) (asg_e (op_e (s1 := ⟨[.val .feed, .val (.int r2), .no], some f2⟩) rfl (cl_e rfl e3) u1) rfl)]
  exact ret_of (cl_e2 (cons_e (op_e rfl (op_e rfl (op_e rfl (cl_e rfl e4) (mulE (by decide) (z2.bits (by decide)))) rfl) (mulE (z3.bits (by decide)) (z4.bits (by decide)))) rfl) g)
structure PtS (k : Nat) (a : Pt) : Prop where
  x : Sz k a.1
  y : Sz k a.2
theorem PtS.ps {k : Nat} {a : Pt} (h : PtS k a) : Ps (k + k) a := Ps.of h.x h.y
theorem PtS.mono {k l : Nat} {a : Pt} (h : PtS k a) (hl : k ≤ l) : PtS l a := ⟨h.x.mono hl, h.y.mono hl⟩
end T

namespace T
open PySem L2 DL
theorem asc_lit {x : Str} (h : x.cps.toList.all (fun c => decide (c < 128)) = true) : asc x := fun c hc => of_decide_eq_true (List.all_eq_true.mp h c hc)
end T

namespace DL
open PySem L2
def whole : D → Bool
  | .int _ => true
  | _ => false
end DL
namespace T
open PySem L2 DL
end T

namespace T
open PySem L2 DL
end T

namespace DL
open PySem L2
def nbs {α : Type} (c : Bool) (l : List α) : List (α × α) := l.zip (if c then l.drop 1 ++ l.take 1 else l.drop 1)
def goB (a b c : Pt) : Bool := decide (cross a b c = 0) && (lsB a b == lsB b c)
/-- of places: it goes somewhere and turns everywhere -/
def lineB (c : Bool) (ps : List Pt) : Bool := (nbs c ps).all (fun p => !decide (p.1 = p.2)) && (nbs c (nbs c ps)).all fun q => !goB q.1.1 q.1.2 q.2.2
def lo (c : Bool) : Nat := if c then 3 else 2
def hi (c : Bool) : Nat := if c then 8 else 9
end DL
namespace T
open PySem L2 DL
end T

namespace T
open PySem L2 DL
abbrev onF (P : Pt) (q : Pt × Pt) : Bool := onB q.1 q.2 P
abbrev pvF (P : Pt) (q : Pt × Pt) : Int := pvE q.1 q.2 P
end T

namespace DL
open PySem L2
theorem tg0 (f : FS) (h : f.kind = 1) : f.tget 0 = some (.lst (f.cells.map .int)) := by unfold FS.tget; rw [if_neg (by omega), if_pos rfl]
end DL
namespace T
open PySem L2 DL
theorem modE3 {a b : Int} (h : b ≠ 0) : pMod (.int a) (.int b) = some (.int (a.fmod b)) := if_pos h
theorem divE3 {a b : Int} (h : divOk b = true) : pDiv (.int a) (.int b) = some (.int (a.fdiv b)) := if_pos h
theorem tp_e {i : Nat} {k n : Int} {f : DE} {s s1 : DS} {z : Fl × DS} (h : f s = some (.int n, s1)) (h2 : dTP i k (fun _ => some (.int n, s1)) s = some z) : dTP i k f s = some z := by
  rw [← h2]
  unfold dTP
  rw [h]
noncomputable abbrev LDw : DFn := f_law_draw__2
set_option maxHeartbeats 4000000 in
theorem draw3_ok (f : FS) (many : Int) (hm : 0 < many) (hm2 : many < 2 ^ 100) (ht : 0 ≤ f.pos) (ht2 : f.pos < 2 ^ 40) (hk : f.kind = 1) :
    ∃ r f', LDw [.feed, .int many] (some f) = some (.int r, some f') ∧ 0 ≤ r ∧ r < many ∧ f.pos ≤ f'.pos ∧ f'.pos ≤ f.pos + 1 ∧ f'.kind = 1 := by
  have dm : divOk many = true := divOk_of (by omega) (by omega)
  have hne : many ≠ 0 := by omega
  obtain ⟨cs, ps, lf, tn, kd⟩ := f
  simp only at ht ht2 hk ⊢
  subst hk
  by_cases hl : 0 < lf
  · refine ⟨lf.fmod many, ⟨cs, ps, lf.fdiv many, tn, 1⟩, mFn_ret (s := ⟨[.val .feed, .val (.int many), .val (.int (lf.fmod many)), .no, .no, .no], some ⟨cs, ps, lf.fdiv many, tn, 1⟩⟩) ?_, (fmod_rng hm).1, (fmod_rng hm).2, Int.le_refl _, Int.le_of_lt (Int.lt_succ _), rfl⟩
    have t0 : dB (dOp (pCmp (fun i j => decide (j < i))) (dTG 0 2) (dC (.int 0))) ⟨[.val .feed, .val (.int many), .no, .no, .no, .no], some ⟨cs, ps, lf, tn, 1⟩⟩ = some (true, ⟨[.val .feed, .val (.int many), .no, .no, .no, .no], some ⟨cs, ps, lf, tn, 1⟩⟩) := dB_of (op_e rfl rfl (show some (D.bl (decide (0 < lf))) = _ by rw [decide_eq_true hl]))
    have e1 : dOp pMod (dTG 0 2) (dL 1) ⟨[.val .feed, .val (.int many), .no, .no, .no, .no], some ⟨cs, ps, lf, tn, 1⟩⟩ = some (.int (lf.fmod many), ⟨[.val .feed, .val (.int many), .no, .no, .no, .no], some ⟨cs, ps, lf, tn, 1⟩⟩) := op_e rfl rfl (modE3 hne)
    have e2 : dOp pDiv (dTG 0 2) (dL 1) ⟨[.val .feed, .val (.int many), .val (.int (lf.fmod many)), .no, .no, .no], some ⟨cs, ps, lf, tn, 1⟩⟩ = some (.int (lf.fdiv many), ⟨[.val .feed, .val (.int many), .val (.int (lf.fmod many)), .no, .no, .no], some ⟨cs, ps, lf, tn, 1⟩⟩) := op_e rfl rfl (divE3 dm)
    show b_law_draw__2 ⟨[.val .feed, .val (.int many), .no, .no, .no, .no], some ⟨cs, ps, lf, tn, 1⟩⟩ = _
    unfold b_law_draw__2
    refine seq_ret ?_
    rw [ifS_t t0, seq_next (s1 := ⟨[.val .feed, .val (.int many), .val (.int (lf.fmod many)), .no, .no, .no], some ⟨cs, ps, lf, tn, 1⟩⟩) (asg_e e1 rfl), seq_next (s1 := ⟨[.val .feed, .val (.int many), .val (.int (lf.fmod many)), .no, .no, .no], some ⟨cs, ps, lf.fdiv many, tn, 1⟩⟩) (tp_e e2 rfl)]
    exact ret_of rfl
  · have cell : ∃ c : Int, ∀ a b : Sl, dIfS (dB (dOp (pCmp (fun i j => decide (j < i))) (dCB (one pLen) (dCons (dTG 0 0) dNil)) (dC (.int 0)))) (dAsg (dOp pIx (dTG 0 0) (dOp pMod (dL 3) (dCB (one pLen) (dCons (dTG 0 0) dNil)))) (dPut 4)) dSkip ⟨[.val .feed, a, .no, .val (.int ps), .val (.int 0), b], some ⟨cs, ps + 1, lf, tn, 1⟩⟩ =
        some (.next, ⟨[.val .feed, a, .no, .val (.int ps), .val (.int c), b], some ⟨cs, ps + 1, lf, tn, 1⟩⟩) := by
      by_cases hc : 0 < cs.length
      · have hi := fmod_rng (a := ps) (b := (cs.length : Int)) (by omega)
        obtain ⟨c, hg⟩ : ∃ c : Int, atI (cs.map D.int) (ps.fmod (cs.length : Int)) = some (.int c) := by
          have : (ps.fmod (cs.length : Int)).toNat < cs.length := by omega
          refine ⟨cs[(ps.fmod (cs.length : Int)).toNat], ?_⟩
          rw [atI_ok hi.1 (by rw [List.length_map]; exact hi.2), List.getElem?_map, List.getElem?_eq_getElem this]
          rfl
        refine ⟨c, fun a b => ?_⟩
        have hn : cs ≠ [] := by intro z; rw [z] at hc; simp at hc
        simp [dIfS, dAsg, dPut, dB, dOp, dCB, one, pLen, dCons, dNil, dL, dC, pCmp, dTG, tg0, pMod, pIx, hn, hc, hg]
      · refine ⟨0, fun a b => ?_⟩
        have hz : cs = [] := List.eq_nil_of_length_eq_zero (by omega)
        subst hz
        simp [dIfS, dSkip, dB, dOp, dCB, one, pLen, dCons, dNil, dL, dC, pCmp, dTG, tg0]
    obtain ⟨c, hcell⟩ := cell
    have hc1 := fmod_rng (a := c) (b := 1000033) (by decide)
    have t0 : dB (dOp (pCmp (fun i j => decide (j < i))) (dTG 0 2) (dC (.int 0))) ⟨[.val .feed, .val (.int many), .no, .no, .no, .no], some ⟨cs, ps, lf, tn, 1⟩⟩ = some (false, ⟨[.val .feed, .val (.int many), .no, .no, .no, .no], some ⟨cs, ps, lf, tn, 1⟩⟩) := dB_of (op_e rfl rfl (show some (D.bl (decide (0 < lf))) = _ by rw [decide_eq_false hl]))
    have pre : ∀ rest : DM, dSeq (dIfS (dB (dOp (pCmp (fun i j => decide (j < i))) (dTG 0 2) (dC (.int 0)))) (dSeq (dAsg (dOp pMod (dTG 0 2) (dL 1)) (dPut 2)) (dSeq (dTP 0 2 (dOp pDiv (dTG 0 2) (dL 1))) (dRet (dV 2)))) dSkip) (dSeq (dAsg (dTG 0 1) (dPut 3)) (dSeq (dTP 0 1 (dOp pAdd (dL 3) (dC (.int 1)))) (dSeq (dAsg (dC (.int 0)) (dPut 4)) (dSeq (dIfS (dB (dOp (pCmp (fun i j => decide (j < i))) (dCB (one pLen) (dCons (dTG 0 0) dNil)) (dC (.int 0)))) (dAsg (dOp pIx (dTG 0 0) (dOp pMod (dL 3) (dCB (one pLen) (dCons (dTG 0 0) dNil)))) (dPut 4)) dSkip) rest))))
        ⟨[.val .feed, .val (.int many), .no, .no, .no, .no], some ⟨cs, ps, lf, tn, 1⟩⟩ = rest ⟨[.val .feed, .val (.int many), .no, .val (.int ps), .val (.int c), .no], some ⟨cs, ps + 1, lf, tn, 1⟩⟩ := fun rest => by
      rw [seq_next (s1 := ⟨[.val .feed, .val (.int many), .no, .no, .no, .no], some ⟨cs, ps, lf, tn, 1⟩⟩) (ret2_e t0)]
      rw [seq_next (s1 := ⟨[.val .feed, .val (.int many), .no, .val (.int ps), .no, .no], some ⟨cs, ps, lf, tn, 1⟩⟩) rfl]
      rw [seq_next (s1 := ⟨[.val .feed, .val (.int many), .no, .val (.int ps), .no, .no], some ⟨cs, ps + 1, lf, tn, 1⟩⟩) rfl]
      rw [seq_next (s1 := ⟨[.val .feed, .val (.int many), .no, .val (.int ps), .val (.int 0), .no], some ⟨cs, ps + 1, lf, tn, 1⟩⟩) rfl]
      rw [seq_next (hcell _ _)]
    have test : dAnd (dB (dOp (pCmp (fun i j => decide (j ≤ i))) (dL 4) (dOp pPow (dC (.int 10)) (dC (.int 18))))) (dB (dOp (pCmp (fun i j => decide (i < j))) (dL 3) (dCB (one pLen) (dCons (dTG 0 0) dNil)))) ⟨[.val .feed, .val (.int many), .no, .val (.int ps), .val (.int c), .no], some ⟨cs, ps + 1, lf, tn, 1⟩⟩ =
        some (decide (1000000000000000000 ≤ c) && decide (ps < (cs.length : Int)), ⟨[.val .feed, .val (.int many), .no, .val (.int ps), .val (.int c), .no], some ⟨cs, ps + 1, lf, tn, 1⟩⟩) := by
      have p18 : pPow (.int 10) (.int 18) = some (.int 1000000000000000000) := by simp [pPow]
      have t1 : dB (dOp (pCmp (fun i j => decide (j ≤ i))) (dL 4) (dOp pPow (dC (.int 10)) (dC (.int 18)))) ⟨[.val .feed, .val (.int many), .no, .val (.int ps), .val (.int c), .no], some ⟨cs, ps + 1, lf, tn, 1⟩⟩ = some (decide (1000000000000000000 ≤ c), ⟨[.val .feed, .val (.int many), .no, .val (.int ps), .val (.int c), .no], some ⟨cs, ps + 1, lf, tn, 1⟩⟩) := dB_of (op_e rfl (op_e rfl rfl p18) rfl)
      have t2 : dB (dOp (pCmp (fun i j => decide (i < j))) (dL 3) (dCB (one pLen) (dCons (dTG 0 0) dNil))) ⟨[.val .feed, .val (.int many), .no, .val (.int ps), .val (.int c), .no], some ⟨cs, ps + 1, lf, tn, 1⟩⟩ = some (decide (ps < ((cs.map D.int).length : Int)), ⟨[.val .feed, .val (.int many), .no, .val (.int ps), .val (.int c), .no], some ⟨cs, ps + 1, lf, tn, 1⟩⟩) := dB_of (op_e rfl (cb1_e (p := pLen) rfl rfl) rfl)
      rw [List.length_map] at t2
      cases h1 : decide (1000000000000000000 ≤ c) with
      | true =>
        rw [h1] at t1
        exact and_tt t1 t2
      | false =>
        rw [h1] at t1
        exact and_ff t1
    by_cases hb : (decide (1000000000000000000 ≤ c) && decide (ps < (cs.length : Int))) = true
    · refine ⟨c.fmod many, ⟨cs, ps + 1, c.fdiv many, tn, 1⟩, mFn_ret (s := ⟨[.val .feed, .val (.int many), .no, .val (.int ps), .val (.int c), .no], some ⟨cs, ps + 1, c.fdiv many, tn, 1⟩⟩) ?_, (fmod_rng hm).1, (fmod_rng hm).2, by simp; omega, by simp, rfl⟩
      show b_law_draw__2 ⟨[.val .feed, .val (.int many), .no, .no, .no, .no], some ⟨cs, ps, lf, tn, 1⟩⟩ = _
      unfold b_law_draw__2
      rw [pre]
      rw [hb] at test
      refine seq_ret ?_
      rw [ifS_t test]
      rw [seq_next (s1 := ⟨[.val .feed, .val (.int many), .no, .val (.int ps), .val (.int c), .no], some ⟨cs, ps + 1, c.fdiv many, tn, 1⟩⟩) (tp_e (op_e (s1 := ⟨[.val .feed, .val (.int many), .no, .val (.int ps), .val (.int c), .no], some ⟨cs, ps + 1, lf, tn, 1⟩⟩) rfl rfl (divE3 dm)) rfl)]
      exact ret_of (op_e rfl rfl (modE3 hne))
    · have hb' : (decide (1000000000000000000 ≤ c) && decide (ps < (cs.length : Int))) = false := by simpa using hb
      have q : ∃ M : Int, dAsg (dOp pMod (dOp pMul (dOp pAdd (dOp pAdd (dOp pMod (dL 4) (dC (.int 1000033))) (dOp pMul (dOp pMul (dC (.int 37)) (dL 3)) (dL 3))) (dC (.int 11))) (dC (.int 69621))) (dC (.int 999983))) (dPut 5)
          ⟨[.val .feed, .val (.int many), .no, .val (.int ps), .val (.int c), .no], some ⟨cs, ps + 1, lf, tn, 1⟩⟩ = some (.next, ⟨[.val .feed, .val (.int many), .no, .val (.int ps), .val (.int c), .val (.int M)], some ⟨cs, ps + 1, lf, tn, 1⟩⟩) ∧ 0 ≤ M ∧ M < 999983 := by
        have b1 : bitsOk 37 = true := by decide
        have b2 : bitsOk ps = true := bitsOk_of (by omega)
        have b3 : bitsOk (37 * ps) = true := bitsOk_of (by omega)
        have p2 : 0 ≤ 37 * ps * ps := Int.mul_nonneg (by omega) (by omega)
        have p3 : 37 * ps * ps ≤ 37 * 2 ^ 40 * 2 ^ 40 := Int.mul_le_mul (by omega) (by omega) (by omega) (by decide)
        have b4 : bitsOk (c.fmod 1000033 + 37 * ps * ps + 11) = true := bitsOk_of (by omega)
        have b5 : bitsOk 69621 = true := by decide
        refine ⟨((c.fmod 1000033 + 37 * ps * ps + 11) * 69621).fmod 999983, ?_, fmod_rng (by decide)⟩
        exact asg_e (op_e (op_e (op_e (op_e (op_e rfl rfl (modE3 (by decide))) (op_e (op_e rfl rfl (mulE b1 b2)) rfl (mulE b3 b2)) rfl) rfl rfl) rfl (mulE b4 b5)) rfl (modE3 (by decide))) rfl
      obtain ⟨M, e1, m1, m2⟩ := q
      have b7 : bitsOk M = true := bitsOk_of (by omega)
      have b8 : bitsOk 48271 = true := by decide
      have b9 : bitsOk 6007 = true := by decide
      have b10 : bitsOk ps = true := bitsOk_of (by omega)
      have r1 := fmod_rng (a := M * 48271 + ps * 6007) (b := 999979) (by decide)
      have b11 : bitsOk ((M * 48271 + ps * 6007).fmod 999979) = true := bitsOk_of (by omega)
      have b12 : bitsOk 40692 = true := by decide
      have d64 : divOk 64 = true := by decide
      refine ⟨((((M * 48271 + ps * 6007).fmod 999979 * 40692).fmod 1048573).fdiv 64).fmod many, ⟨cs, ps + 1, lf, tn, 1⟩, mFn_ret (s := ⟨[.val .feed, .val (.int many), .no, .val (.int ps), .val (.int c), .val (.int M)], some ⟨cs, ps + 1, lf, tn, 1⟩⟩) ?_, (fmod_rng hm).1, (fmod_rng hm).2, by simp; omega, by simp, rfl⟩
      show b_law_draw__2 ⟨[.val .feed, .val (.int many), .no, .no, .no, .no], some ⟨cs, ps, lf, tn, 1⟩⟩ = _
      unfold b_law_draw__2
      rw [pre]
      rw [hb'] at test
      rw [seq_next (by rw [ifS_f test]; rfl)]
      rw [seq_next e1]
      exact ret_of (op_e (op_e (op_e (op_e (op_e (op_e (op_e rfl rfl (mulE b7 b8)) (op_e rfl rfl (mulE b10 b9)) rfl) rfl (modE3 (by decide))) rfl (mulE b11 b12)) rfl (modE3 (by decide))) rfl (divE3 d64)) rfl (modE3 hne))
/-- how far the tape is at most -/
def Fd3 (n : Nat) (f : FS) : Prop := 0 ≤ f.pos ∧ f.pos ≤ n ∧ f.kind = 1
theorem Fd3.mono {n m : Nat} {f : FS} (h : Fd3 n f) (hm : n ≤ m) : Fd3 m f := ⟨h.1, by have := h.2.1; omega, h.2.2⟩
theorem draw3 {n : Nat} {f : FS} (many : Int) (h : Fd3 n f) (hm : 0 < many := by omega) (hn : n < 2 ^ 30 := by omega) (hm2 : many < 2 ^ 100 := by omega) :
    ∃ r f', LDw [.feed, .int many] (some f) = some (.int r, some f') ∧ 0 ≤ r ∧ r < many ∧ Fd3 (n + 1) f' := by
  obtain ⟨r, f', e, h0, h1, h2, h3, h4⟩ := draw3_ok f many hm hm2 h.1 (by have := h.2.1; omega) h.2.2
  exact ⟨r, f', e, h0, h1, by have := h.1; omega, by have := h.2.1; omega, h4⟩
theorem tape0 (ns : List Int) : f_law_new_tape [.scr ns] none = some (.feed, some ⟨ns, 0, 0, 0, 1⟩) := by
  refine mFn_ret (s := ⟨[.val (.scr ns)], some ⟨ns, 0, 0, 0, 1⟩⟩) ?_
  show b_law_new_tape ⟨[.val (.scr ns)], none⟩ = _
  simp [b_law_new_tape, dRet, dTN]
theorem Fd3.zero (ns : List Int) : Fd3 0 ⟨ns, 0, 0, 0, 1⟩ := ⟨by simp, by simp, rfl⟩
end T

namespace T
open PySem L2 DL
abbrev wgT : DT := dB (dOp (pCmp (fun i j => decide (j < i))) (dL 1) (dC (.int 0)))
abbrev wgB : DM := dPar 0 1 (dCons (dV 1) (dCons (dOp pMod (dL 0) (dL 1)) dNil))
theorem wgcd_while (fs : Option FS) (r : Nat) : ∀ (g : Nat), dWhile wgT wgB ⟨[.val (.int g), .val (.int r)], fs⟩ = some (.next, ⟨[.val (.int (Nat.gcd g r)), .val (.int 0)], fs⟩) := by
  induction r using Nat.strongRecOn with
  | ind r ih =>
    intro g
    by_cases h : r = 0
    · subst h
      rw [Nat.gcd_zero_right]
      exact dWhile_end (by simp [dSeq, dThen, dAsg, dOp, dUn, dC, dL, dV, dPut, dIfS, dB, dRet, dCall, dCons, dNil, dTup, dSkip, dCB, one, dNew, dLst, dIf, dAnd, dOr, dNot, dAndV, dOrV, dNotV, pIx, pAdd, pSub, pNeg, pCmp, pLen, dPutT, dPuts1, dPuts0, dPar, dTr, dTru])
    · have e : ((g : Int).fmod (r : Int)) = ((g % r : Nat) : Int) := by rw [Int.fmod_eq_emod_of_nonneg _ (by omega)]; rfl
      have hy := ih (g % r) (Nat.mod_lt _ (by omega)) r
      have hg : Nat.gcd g r = Nat.gcd r (g % r) := by rw [Nat.gcd_comm g r, Nat.gcd_rec, Nat.gcd_comm]
      rw [hg]
      refine dWhile_turn (s1 := ⟨[.val (.int g), .val (.int r)], fs⟩) (s2 := ⟨[.val (.int r), .val (.int ((g % r : Nat) : Int))], fs⟩) (by simp [dSeq, dThen, dAsg, dOp, dUn, dC, dL, dV, dPut, dIfS, dB, dRet, dCall, dCons, dNil, dTup, dSkip, dCB, one, dNew, dLst, dIf, dAnd, dOr, dNot, dAndV, dOrV, dNotV, pIx, pAdd, pSub, pNeg, pCmp, pLen, dPutT, dPuts1, dPuts0, dPar, dTr, dTru]; omega) ?_ hy
      rw [← e]
      simp [dPar, dCons, dNil, dV, dOp, dL, pMod, h]
noncomputable abbrev LGd : DFn := f_law_divisor
theorem wdiv (a b : Int) (fs : Option FS) : LGd [.int a, .int b] fs = some (.int (Int.gcd a b), fs) := by
  have hy := wgcd_while fs b.natAbs a.natAbs
  refine mFn_ret (s := ⟨[.val (.int (Nat.gcd a.natAbs b.natAbs)), .val (.int 0)], fs⟩) ?_
  show b_law_divisor ⟨[.val (.int a), .val (.int b)], fs⟩ = _
  unfold b_law_divisor
  rw [seq_next (s1 := ⟨[.val (.int a.natAbs), .val (.int b.natAbs)], fs⟩) (by simp [dSeq, dThen, dAsg, dOp, dUn, dC, dL, dV, dPut, dIfS, dB, dRet, dCall, dCons, dNil, dTup, dSkip, dCB, one, dNew, dLst, dIf, dAnd, dOr, dNot, dAndV, dOrV, dNotV, pIx, pAdd, pSub, pNeg, pCmp, pLen, dPutT, dPuts1, dPuts0, dPar, dTr, dTru, pAbs, abs_eq])]
  rw [seq_next hy]
  refine ret_of ?_
  simp [dV, Int.gcd]
noncomputable abbrev LLw : DFn := f_law_low LGd
theorem wlow {k : Nat} (a b : Int) (fs : Option FS) (hb : b ≠ 0) (h : Bd k b) (hk : k ≤ 8000) : LLw [.int a, .int b] fs = some (fr (Rat.divInt a b), fs) := by
  obtain ⟨p0, p1, p2⟩ := parts2 a b hb
  have dg := gdiv (a := a) hb h hk
  have e := wdiv a b fs
  refine mFn_ret (s := ⟨[.val (.int a), .val (.int b), .val (.int (if b < 0 then -(Int.gcd a b : Int) else (Int.gcd a b : Int)))], fs⟩) ?_
  show b_law_low LGd ⟨[.val (.int a), .val (.int b), .no], fs⟩ = _
  unfold b_law_low
  rw [seq_next (s1 := ⟨[.val (.int a), .val (.int b), .val (.int (Int.gcd a b))], fs⟩) (by simp [dSeq, dThen, dAsg, dOp, dUn, dC, dL, dV, dPut, dIfS, dB, dRet, dCall, dCons, dNil, dTup, dSkip, dCB, one, dNew, dLst, dIf, dAnd, dOr, dNot, dAndV, dOrV, dNotV, pIx, pAdd, pSub, pNeg, pCmp, pLen, dPutT, dPuts1, dPuts0, dPar, dTr, dTru, e])]
  rw [seq_next (s1 := ⟨[.val (.int a), .val (.int b), .val (.int (if b < 0 then -(Int.gcd a b : Int) else (Int.gcd a b : Int)))], fs⟩) (by
    by_cases nb : b < 0
    · simp [dSeq, dThen, dAsg, dOp, dUn, dC, dL, dV, dPut, dIfS, dB, dRet, dCall, dCons, dNil, dTup, dSkip, dCB, one, dNew, dLst, dIf, dAnd, dOr, dNot, dAndV, dOrV, dNotV, pIx, pAdd, pSub, pNeg, pCmp, pLen, dPutT, dPuts1, dPuts0, dPar, dTr, dTru, nb]
    · simp [dSeq, dThen, dAsg, dOp, dUn, dC, dL, dV, dPut, dIfS, dB, dRet, dCall, dCons, dNil, dTup, dSkip, dCB, one, dNew, dLst, dIf, dAnd, dOr, dNot, dAndV, dOrV, dNotV, pIx, pAdd, pSub, pNeg, pCmp, pLen, dPutT, dPuts1, dPuts0, dPar, dTr, dTru, nb])]
  generalize hg : (if b < 0 then -(Int.gcd a b : Int) else (Int.gcd a b : Int)) = gg at *
  refine ret_of ?_
  unfold fr
  rw [← p1, ← p2]
  simp [dSeq, dThen, dAsg, dOp, dUn, dC, dL, dV, dPut, dIfS, dB, dRet, dCall, dCons, dNil, dTup, dSkip, dCB, one, dNew, dLst, dIf, dAnd, dOr, dNot, dAndV, dOrV, dNotV, pIx, pAdd, pSub, pNeg, pCmp, pLen, dPutT, dPuts1, dPuts0, dPar, dTr, dTru, pDiv, dg, sz2]
end T

namespace DL
open PySem L2
end DL
namespace T
open PySem L2 DL
def Fd4 (n : Nat) (f : FS) : Prop := 0 ≤ f.pos ∧ f.pos ≤ n ∧ 0 ≤ f.turn ∧ f.turn ≤ n ∧ f.kind = 2 ∧ f.cells ≠ []
theorem Fd4.mono {n m : Nat} {f : FS} (h : Fd4 n f) (hm : n ≤ m) : Fd4 m f := ⟨h.1, by have := h.2.1; omega, h.2.2.1, by have := h.2.2.2.1; omega, h.2.2.2.2⟩
theorem cells4_ne (ns : List Int) : cells4 ns ≠ [] := by
  unfold cells4
  cases ns with
  | nil => simp
  | cons n r => simp
theorem Fd4.zero (ns : List Int) : Fd4 0 ⟨cells4 ns, 0, 0, 0, 2⟩ := ⟨by simp, by simp, by simp, by simp, rfl, cells4_ne ns⟩
end T

namespace DL
open PySem L2
end DL
namespace T
open PySem L2 DL
/-- Th of a thing's part -/
theorem Th.part {b k : Nat} {ds : List D} (h : Th b k (.tup ds)) : ∀ d ∈ ds, Th b k d := fun d hd => by
  cases k with
  | zero => unfold Th at h; exact h.elim
  | succ k => unfold Th at h; exact Th.mono (Nat.le_refl _) d (by omega) (Ths.mem h hd)
theorem Th.ints {b k : Nat} {n m : Int} (h : Th b k (.tup [.int n, .int m])) : Bd b n ∧ Bd b m := by
  have h1 := Th.part h (.int n) (by simp)
  have h2 := Th.part h (.int m) (by simp)
  unfold Th at h1 h2
  exact ⟨h1, h2⟩
end T

namespace T
open PySem L2 DL
def TriS (d : D) : Prop := ∃ x y z : Int, d = .tup [.int x, .int y, .int z] ∧ Bd 20 x ∧ Bd 20 y ∧ Bd 20 z
theorem TriS.th {d : D} (h : TriS d) : Th 20 1 d := by
  obtain ⟨x, y, z, rfl, a, b, c⟩ := h
  simp only [Th, Ths, and_true]
  exact ⟨a, b, c⟩
theorem TriS.bk {d : D} (h : TriS d) : DL.bk d = 3 := by
  obtain ⟨x, y, z, rfl, _⟩ := h
  rfl
theorem bks_tri : ∀ ds : List D, (∀ d ∈ ds, TriS d) → bks ds = 4 * ds.length
  | [], _ => rfl
  | d :: r, h => by rw [bks_cons, (h d (by simp)).bk, bks_tri r fun x hx => h x (List.mem_cons_of_mem _ hx), List.length_cons]; omega
end T

namespace T
open PySem L2 DL
end T

namespace DL
open PySem L2
end DL

namespace DL
open PySem L2
theorem atI_last {α : Type} {xs : List α} {x : α} (h : xs[xs.length - 1]? = some x) : atI xs (-1) = some x := by
  have hi := (List.getElem?_eq_some_iff.mp h).1
  unfold atI ixN
  rw [if_neg (by omega), if_pos (by omega)]
  show xs[_]? = _
  rw [show ((-1 : Int) + xs.length).toNat = xs.length - 1 by omega]
  exact h
end DL

namespace T
open PySem L2 DL
def RgS (d : D) : Prop := ∃ ds, d = .tup ds ∧ (∀ x ∈ ds, TriS x) ∧ ds.length ≤ 8
theorem RgS.th {d : D} (h : RgS d) : Th 20 2 d := by
  obtain ⟨ds, rfl, h, _⟩ := h
  unfold Th; exact Ths.of fun d hd => (h d hd).th
theorem RgS.bk {d : D} (h : RgS d) : DL.bk d ≤ 32 := by
  obtain ⟨ds, rfl, h, hl⟩ := h
  rw [bk_tup, bks_tri ds h]; omega
end T

namespace T
open PySem L2 DL
end T

namespace T
open PySem L2 DL
end T

namespace DL
open PySem L2
theorem eqv_nilL' (ds : List D) : PyData.eqv (D.py (.lst ds)) (D.py (.lst [])) = decide (ds = []) := by
  cases ds with
  | nil => rfl
  | cons d r => simp [D.py, D.pys, PyData.eqv, PyData.eqvAll]
theorem neL {b k : Nat} (ds : List D) (h : ∀ d ∈ ds, Th b k d) (hb : b ≤ 1920) (hk : k + 1 ≤ 64) : pNe (.lst ds) (.lst []) = some (.bl (!decide (ds = []))) := by
  have t : Th b (k + 1) (.lst ds) := by unfold Th; exact Ths.of h
  have o1 := (Th.ok hb _ t).eq hk
  have o2 : eqOk (.lst []) = true := by decide +kernel
  have : pNe (.lst ds) (.lst []) = if eqOk (.lst ds) && eqOk (.lst []) then some (.bl (!PyData.eqv (D.py (.lst ds)) (D.py (.lst [])))) else none := rfl
  rw [this, o1, o2, eqv_nilL']; rfl
end DL
namespace T
open PySem L2 DL
end T

namespace T
open PySem L2 DL
end T

namespace DL
open PySem L2
end DL
namespace T
open PySem L2 DL
end T

namespace T
open PySem L2 DL
end T

namespace DL
open PySem L2
structure WyS (k : Nat) (w : Rat × Rat × Rat) : Prop where
  x : Sz k w.1
  y : Sz k w.2.1
  l : Sz k w.2.2
  nz : ¬ (w.1 = 0 ∧ w.2.1 = 0)
  ex : w.1 * w.1 + w.2.1 * w.2.1 = w.2.2 * w.2.2
end DL
namespace T
open PySem L2 DL
end T

namespace T
open PySem L2 DL
def cr (a b : Pt) : Rat := a.1 * b.2 - a.2 * b.1
def fan (p : Pt) : Pt → List Pt → Rat
  | _, [] => 0
  | b, c :: r => cr p b + cr b c + cr c p + fan p c r
end T

namespace T
open PySem L2 DL
end T

namespace T
open PySem L2 DL
end T

namespace T
open PySem L2 DL
def TrT (d : D) : Prop := ∃ x y z : Int, d = .tup [.int x, .int y, .int z] ∧ Bd 11 x ∧ Bd 11 y ∧ 1 ≤ z ∧ z ≤ 3
def RgT (d : D) : Prop := ∃ ds, d = .tup ds ∧ (∀ x ∈ ds, TrT x) ∧ 3 ≤ ds.length ∧ ds.length ≤ 8
end T

namespace DL
open PySem L2
/-- an open row -/
structure Open (ps : List Pt) : Prop where
  ne : ∀ (j : Nat) a b, ps[j]? = some a → ps[j + 1]? = some b → a ≠ b
  go : ∀ (j : Nat) a b c, ps[j]? = some a → ps[j + 1]? = some b → ps[j + 2]? = some c → goB a b c = false
theorem nbs_open {α : Type} {l : List α} {j : Nat} {p : α × α} (h : (nbs false l)[j]? = some p) : l[j]? = some p.1 ∧ l[j + 1]? = some p.2 := by
  obtain ⟨h1, h2⟩ := List.getElem?_zip_eq_some.mp (show (l.zip (l.drop 1))[j]? = some p from h)
  rw [List.getElem?_drop, Nat.add_comm] at h2
  exact ⟨h1, h2⟩
theorem Open.line {ps : List Pt} (h : Open ps) : lineB false ps = true := by
  unfold lineB
  simp only [Bool.and_eq_true, List.all_eq_true]
  constructor
  · intro p hp
    obtain ⟨j, hj⟩ := List.mem_iff_getElem?.mp hp
    obtain ⟨q1, q2⟩ := nbs_open hj
    simp [h.ne j _ _ q1 q2]
  · intro q hq
    obtain ⟨j, hj⟩ := List.mem_iff_getElem?.mp hq
    obtain ⟨q1, q2⟩ := nbs_open hj
    obtain ⟨r1, r2⟩ := nbs_open q1
    obtain ⟨t1, t2⟩ := nbs_open q2
    rw [h.go j _ _ _ r1 r2 t2]
    rfl
theorem Open.one (a : Pt) : Open [a] := ⟨fun j x y h1 h2 => by simp at h2, fun j x y z h1 h2 h3 => by simp at h2⟩
/-- one place more -/
theorem Open.app {ps : List Pt} {z : Pt} (h : Open ps) (hn : ∀ a, ps[ps.length - 1]? = some a → a ≠ z) (hg : ∀ a b, 2 ≤ ps.length → ps[ps.length - 2]? = some a → ps[ps.length - 1]? = some b → goB a b z = false) : Open (ps ++ [z]) := by
  have at' : ∀ {j : Nat} {a : Pt}, (ps ++ [z])[j]? = some a → (j < ps.length ∧ ps[j]? = some a) ∨ (j = ps.length ∧ a = z) := fun {j a} e => by
    by_cases hj : j < ps.length
    · exact .inl ⟨hj, by rwa [List.getElem?_append_left hj] at e⟩
    · have hl := (List.getElem?_eq_some_iff.mp e).1
      simp only [List.length_append, List.length_singleton] at hl
      have ej : j = ps.length := by omega
      rw [List.getElem?_append_right (by omega), ej, Nat.sub_self] at e
      exact .inr ⟨ej, by simpa using e.symm⟩
  constructor
  · intro j a b h1 h2
    rcases at' h2 with ⟨l2, e2⟩ | ⟨l2, rfl⟩
    · rcases at' h1 with ⟨l1, e1⟩ | ⟨l1, _⟩
      · exact h.ne j a b e1 e2
      · omega
    · rcases at' h1 with ⟨l1, e1⟩ | ⟨l1, _⟩
      · exact hn a (by rw [show ps.length - 1 = j by omega]; exact e1)
      · omega
  · intro j a b c h1 h2 h3
    rcases at' h3 with ⟨l3, e3⟩ | ⟨l3, rfl⟩
    · rcases at' h1 with ⟨l1, e1⟩ | ⟨l1, _⟩
      · rcases at' h2 with ⟨l2, e2⟩ | ⟨l2, _⟩
        · exact h.go j a b c e1 e2 e3
        · omega
      · omega
    · rcases at' h1 with ⟨l1, e1⟩ | ⟨l1, _⟩
      · rcases at' h2 with ⟨l2, e2⟩ | ⟨l2, _⟩
        · exact hg a b (by omega) (by rw [show ps.length - 2 = j by omega]; exact e1) (by rw [show ps.length - 1 = j + 1 by omega]; exact e2)
        · omega
      · omega
end DL

namespace DL
open PySem L2
end DL
namespace T
open PySem L2 DL
end T

namespace T
open PySem L2 DL
/-- where the drawing of an open row stands -/
structure OpI (most : Int) (n i : Nat) (ps : List Pt) (ws : List (Rat × Rat × Rat)) (f : FS) : Prop where
  op : Open ps
  len : ps.length = ws.length + 1
  any : 1 ≤ i → 1 ≤ ws.length
  few : ps.length ≤ i + 1
  sz : ∀ p ∈ ps, PtS (5 + 21 * i) p
  wy : ∀ w ∈ ws, WyS 20 w
  rel : ∀ (j : Nat) w a b, ws[j]? = some w → ps[j]? = some a → ps[j + 1]? = some b → b = (a.1 + w.1, a.2 + w.2.1)
  fd : Fd (n + 8 * i) f
end T

namespace T
open PySem L2 DL
end T

namespace T
open PySem L2 DL
/-- a line that was drawn -/
structure LnS (c : Bool) (ps : List Pt) : Prop where
  ok : lineB c ps = true
  lo : lo c ≤ ps.length
  hi : ps.length ≤ hi c
  sz : ∀ p ∈ ps, PtS 200 p
  ex : ∀ q ∈ nbs c ps, ∃ r : Rat, dsq q.1 q.2 = r * r
end T

namespace T
open PySem L2 DL
end T

namespace T
open PySem L2 DL
end T

namespace T
open PySem L2 DL
theorem RgT.ex {d : D} (h : RgT d) : ∃ p b r, d = .tup (p :: b :: r) ∧ TrT p ∧ TrT b ∧ (∀ x ∈ p :: b :: r, TrT x) ∧ 1 ≤ r.length ∧ r.length ≤ 6 := by
  obtain ⟨ds, rfl, h, l1, l2⟩ := h
  match ds, h, l1, l2 with
  | p :: b :: r, h, l1, l2 =>
    simp only [List.length_cons] at l1 l2
    exact ⟨p, b, r, rfl, h p (by simp), h b (by simp), h, by omega, by omega⟩
end T

namespace T
open PySem L2 DL
theorem spanRun {m : DFn} {a b : D} {l : Bool} {fs : Option FS} (e : m [a, b] fs = some (.bl l, fs)) : f_span m [a, b] fs = some (.tup (if l then [a, b] else [b, a]), fs) := by
  cases l <;> simp [f_span, mFn, b_span, dSeq, dThen, dAsg, dOp, dUn, dC, dL, dV, dPut, dIfS, dB, dRet, dCall, dCons, dNil, dTup, dSkip, dCB, one, dNew, dLst, dIf, dAnd, dOr, dNot, dAndV, dOrV, dNotV, pIx, pAdd, pSub, pNeg, pCmp, pLen, dPutT, dPuts1, dPuts0, dPar, dTr, dTru, e, sz2]
def rep (P : Pt) (q : Pt × Pt) : D := if onF P q then .non else .int (pvF P q)
end T

namespace T
open PySem L2 DL
def resD : Res → D
  | none => .non
  | some (p, none) => .tup [.str "at", pt p]
  | some (p, some q) => .tup [.str "along", pt p, pt q]
abbrev triD (x y l : Int) : D := .tup [.int x, .int y, .int l]
theorem comp_p1 {α : Type} {caps : List Sl} {fe : DE} (fs : Option FS) (A G : α → D) : ∀ l : List α, (∀ z ∈ l, fe ⟨.val (A z) :: caps, fs⟩ = some (G z, ⟨.val (A z) :: caps, fs⟩)) → dCompL (fun d => some (.val d :: caps)) dYes fe (l.map A) fs = some (l.map G, fs) := by
  intro l
  induction l with
  | nil => exact fun _ => rfl
  | cons z r ih =>
    intro h
    have e := h z (List.mem_cons_self ..)
    have ih := ih fun y hy => h y (List.mem_cons_of_mem _ hy)
    rw [List.map_cons, dCompL, Option.bind_some,
      show dYes ⟨.val (A z) :: caps, fs⟩ = some (true, ⟨.val (A z) :: caps, fs⟩) from rfl, Option.bind_some, if_pos rfl, e, Option.bind_some, ih]
    rfl
theorem pupright {k : Nat} {x y l x' y' l' : Int} (fs : Option FS) (hx : Bd k x) (hy : Bd k y) (hl : Bd k l) (hx' : Bd k x') (hy' : Bd k y') (hl' : Bd k l') (hk : k ≤ 2000) : f_upright [triD x y l, triD x' y' l'] fs = some (triD (y * l' - l * y') (l * x' - x * l') (x * y' - y * x'), fs) := by
  have b1 := hx.bits (by omega)
  have b2 := hy.bits (by omega)
  have b3 := hl.bits (by omega)
  have c1 := hx'.bits (by omega)
  have c2 := hy'.bits (by omega)
  have c3 := hl'.bits (by omega)
  refine mFn_ret (s := ⟨[.val (triD x y l), .val (triD x' y' l')], fs⟩) (ret_of ?_)
  exact tup3_e (op_e (op_e (op_e rfl rfl rfl) (op_e rfl rfl rfl) (mulE b2 c3)) (op_e (op_e rfl rfl rfl) (op_e rfl rfl rfl) (mulE b3 c2)) rfl) (op_e (op_e (op_e rfl rfl rfl) (op_e rfl rfl rfl) (mulE b3 c1)) (op_e (op_e rfl rfl rfl) (op_e rfl rfl rfl) (mulE b1 c3)) rfl) (op_e (op_e (op_e rfl rfl rfl) (op_e rfl rfl rfl) (mulE b1 c2)) (op_e (op_e rfl rfl rfl) (op_e rfl rfl rfl) (mulE b2 c1)) rfl)
noncomputable abbrev FSg : DFn := f_straight f_upright
def lnA (a b : Pt) : Int := pY a * pL b - pL a * pY b
def lnB (a b : Pt) : Int := pL a * pX b - pX a * pL b
def lnC (a b : Pt) : Int := pX a * pY b - pY a * pX b
abbrev lnT (a b : Pt) : D := triD (lnA a b) (lnB a b) (lnC a b)
theorem ln_bd {k : Nat} {a b : Pt} (ha : Ps k a) (hb : Ps k b) : Bd (k + k + 1) (lnA a b) ∧ Bd (k + k + 1) (lnB a b) ∧ Bd (k + k + 1) (lnC a b) :=
  ⟨((ha.y.mul hb.l).sub (ha.l.mul hb.y)).mono (by omega), ((ha.l.mul hb.x).sub (ha.x.mul hb.l)).mono (by omega), ((ha.x.mul hb.y).sub (ha.y.mul hb.x)).mono (by omega)⟩
theorem pstraight {k : Nat} {a b : Pt} (fs : Option FS) (ha : Ps k a) (hb : Ps k b) (hk : k ≤ 900) : FSg [pt a, pt b] fs = some (lnT a b, fs) := by
  have e := pupright fs ha.x ha.y ha.l hb.x hb.y hb.l (by omega)
  exact mFn_ret (s := ⟨[.val (pt a), .val (pt b)], fs⟩) (ret_of (cp_e rfl e))
noncomputable abbrev FSd : DFn := f_side_of f_sign
theorem side_val (a b c : Pt) : isgn (lnA a b * pX c + lnB a b * pY c + lnC a b * pL c) = sgn (cross a b c) := by
  refine isgn_eq (rpos3 (pL_posR a) (pL_posR b) (pL_posR c)) ?_
  unfold lnA lnB lnC
  simp only [Rat.intCast_add, Rat.intCast_sub, Rat.intCast_mul, pX_eq, pY_eq, cross]
  grind
theorem pside {k : Nat} {a b c : Pt} (fs : Option FS) (ha : Ps k a) (hb : Ps k b) (hc : Ps k c) (hk : k ≤ 900) : FSd [lnT a b, pt c] fs = some (.int (sgn (cross a b c)), fs) := by
  obtain ⟨h1, h2, h3⟩ := ln_bd ha hb
  have b1 := h1.bits (by omega)
  have b2 := h2.bits (by omega)
  have b3 := h3.bits (by omega)
  have c1 := hc.x.bits (by omega)
  have c2 := hc.y.bits (by omega)
  have c3 := hc.l.bits (by omega)
  rw [← side_val]
  refine mFn_ret (s := ⟨[.val (lnT a b), .val (pt c)], fs⟩) (ret_of (cp_e (cons_e (op_e (op_e (op_e (op_e rfl rfl rfl) (op_e rfl rfl (ix_pt0 c)) (mulE b1 c1)) (op_e (op_e rfl rfl rfl) (op_e rfl rfl (ix_pt1 c)) (mulE b2 c2)) rfl) (op_e (op_e rfl rfl rfl) (op_e rfl rfl (ix_pt2 c)) (mulE b3 c3)) rfl) rfl) (psign _ fs)))
theorem div_two {q a b : Rat} (hq : q ≠ 0) (hb : b ≠ 0) : (q * a) / (q * b) = a / b := by
  have hz : q * b ≠ 0 := fun z => by
    rcases Rat.mul_eq_zero.mp z with z | z
    · exact hq z
    · exact hb z
  have e1 := Rat.div_mul_cancel (a := q * a) hz
  have e2 := Rat.div_mul_cancel (a := a) hb
  have : (q * a / (q * b) - a / b) * (q * b) = 0 := by grind
  rcases Rat.mul_eq_zero.mp this with z | z
  · grind
  · exact absurd z hz
theorem xpt_int {a b c d : Pt} (hW : crs (vec a b) (vec c d) ≠ 0) : lnA a b * lnB c d - lnB a b * lnA c d ≠ 0 ∧ (Rat.divInt (lnB a b * lnC c d - lnC a b * lnB c d) (lnA a b * lnB c d - lnB a b * lnA c d), Rat.divInt (lnC a b * lnA c d - lnA a b * lnC c d) (lnA a b * lnB c d - lnB a b * lnA c d)) = xpt a b c d := by
  have P : (pL a : Rat) * pL b * (pL c * pL d) ≠ 0 := fun z => by
    rcases Rat.mul_eq_zero.mp z with z | z
    · rcases Rat.mul_eq_zero.mp z with z | z
      · exact pL_neR a z
      · exact pL_neR b z
    · rcases Rat.mul_eq_zero.mp z with z | z
      · exact pL_neR c z
      · exact pL_neR d z
  have eD : ((lnA a b * lnB c d - lnB a b * lnA c d : Int) : Rat) = ((pL a : Rat) * pL b * (pL c * pL d)) * crs (vec a b) (vec c d) := by
    unfold lnA lnB crs vec
    simp only [Rat.intCast_sub, Rat.intCast_mul, pX_eq, pY_eq]
    grind
  have eX : ((lnB a b * lnC c d - lnC a b * lnB c d : Int) : Rat) = ((pL a : Rat) * pL b * (pL c * pL d)) * nmX a b c d := by
    unfold lnB lnC nmX
    simp only [Rat.intCast_sub, Rat.intCast_mul, pX_eq, pY_eq]
    grind
  have eY : ((lnC a b * lnA c d - lnA a b * lnC c d : Int) : Rat) = ((pL a : Rat) * pL b * (pL c * pL d)) * nmY a b c d := by
    unfold lnA lnC nmY
    simp only [Rat.intCast_sub, Rat.intCast_mul, pX_eq, pY_eq]
    grind
  refine ⟨fun z => ?_, ?_⟩
  · rw [z] at eD
    rcases Rat.mul_eq_zero.mp eD.symm with q | q
    · exact P q
    · exact hW q
  · unfold xpt
    rw [Rat.divInt_eq_div, Rat.divInt_eq_div, eD, eX, eY, div_two P hW, div_two P hW]
theorem xpt_sz {k : Nat} {a b c d : Pt} (ha : Ps k a) (hb : Ps k b) (hc : Ps k c) (hd : Ps k d) (hW : crs (vec a b) (vec c d) ≠ 0) : PtS (4 * k + 3) (xpt a b c d) := by
  obtain ⟨h1, h2, h3⟩ := ln_bd ha hb
  obtain ⟨g1, g2, g3⟩ := ln_bd hc hd
  obtain ⟨hz, q⟩ := xpt_int hW
  rw [← q]
  exact ⟨Sz.of_divInt hz (((h2.mul g3).sub (h3.mul g2)).mono (by omega)) (((h1.mul g2).sub (h2.mul g1)).mono (by omega)), Sz.of_divInt hz (((h3.mul g1).sub (h1.mul g3)).mono (by omega)) (((h1.mul g2).sub (h2.mul g1)).mono (by omega))⟩
noncomputable abbrev FCr : DFn := f_crossing FL f_upright
theorem pcrossing {k : Nat} {a b c d : Pt} (fs : Option FS) (ha : Ps k a) (hb : Ps k b) (hc : Ps k c) (hd : Ps k d) (hk : k ≤ 400) (hW : crs (vec a b) (vec c d) ≠ 0) : FCr [lnT a b, lnT c d] fs = some (pt (xpt a b c d), fs) := by
  obtain ⟨h1, h2, h3⟩ := ln_bd ha hb
  obtain ⟨g1, g2, g3⟩ := ln_bd hc hd
  have e := pupright fs h1 h2 h3 g1 g2 g3 (by omega)
  obtain ⟨hz, q⟩ := xpt_int hW
  have l := low3 (lnB a b * lnC c d - lnC a b * lnB c d) (lnC a b * lnA c d - lnA a b * lnC c d) (lnA a b * lnB c d - lnB a b * lnA c d) fs hz ((h1.mul g2).sub (h2.mul g1)) (by omega)
  rw [q] at l
  exact mFn_ret (s := ⟨[.val (lnT a b), .val (lnT c d)], fs⟩) (ret_of (cp_e (cons_e (cp_e rfl e) rfl) l))
noncomputable abbrev FSn : DFn := f_span f_is_lesser
abbrev pcD (u : Pt × Pt) : D := .tup [pt u.1, pt u.2]
theorem pspan2 {k : Nat} {a b : Pt} (fs : Option FS) (ha : Ps k a) (hb : Ps k b) (hk : k ≤ 2000) : FSn [pt a, pt b] fs = some (pcD (spn a b), fs) := by
  have e := spanRun (plesser a b fs ha hb hk)
  refine e.trans ?_
  unfold spn
  cases lsB a b <;> rfl
noncomputable abbrev FCa : DFn := f_common_along f_is_lesser
theorem lxM_ps {k : Nat} {x y : Pt} (hx : Ps k x) (hy : Ps k y) : Ps k (lxM x y) := by unfold lxM; split <;> assumption
theorem lxm_ps {k : Nat} {x y : Pt} (hx : Ps k x) (hy : Ps k y) : Ps k (lxm x y) := by unfold lxm; split <;> assumption
theorem palong {k : Nat} {u v : Pt × Pt} (fs : Option FS) (h1 : Ps k u.1) (h2 : Ps k u.2) (h3 : Ps k v.1) (h4 : Ps k v.2) (hk : k ≤ 1920) : FCa [pcD u, pcD v] fs = some (resD (alg u v), fs) := by
  have e1 := plesser u.1 v.1 fs h1 h3 (by omega)
  have e2 := plesser u.2 v.2 fs h2 h4 (by omega)
  have lo : dIf (dTr (dCall f_is_lesser (dCons (dOp pIx (dL 0) (dC (.int 0))) (dCons (dOp pIx (dL 1) (dC (.int 0))) dNil)))) (dOp pIx (dL 1) (dC (.int 0))) (dOp pIx (dL 0) (dC (.int 0))) ⟨[.val (pcD u), .val (pcD v), .no, .no], fs⟩ = some (pt (lxM u.1 v.1), ⟨[.val (pcD u), .val (pcD v), .no, .no], fs⟩) := by
    unfold lxM
    cases c : lsB u.1 v.1 with
    | true => rw [c] at e1; rw [if_pos rfl]; exact (if_te (tr_e (cp_e (cons_e (op_e rfl rfl rfl) (cons_e (op_e rfl rfl rfl) rfl)) e1))).trans (op_e rfl rfl rfl)
    | false => rw [c] at e1; rw [if_neg Bool.false_ne_true]; exact (if_fe (tr_e (cp_e (cons_e (op_e rfl rfl rfl) (cons_e (op_e rfl rfl rfl) rfl)) e1))).trans (op_e rfl rfl rfl)
  have hi : dIf (dTr (dCall f_is_lesser (dCons (dOp pIx (dL 0) (dC (.int 1))) (dCons (dOp pIx (dL 1) (dC (.int 1))) dNil)))) (dOp pIx (dL 0) (dC (.int 1))) (dOp pIx (dL 1) (dC (.int 1))) ⟨[.val (pcD u), .val (pcD v), .val (pt (lxM u.1 v.1)), .no], fs⟩ = some (pt (lxm u.2 v.2), ⟨[.val (pcD u), .val (pcD v), .val (pt (lxM u.1 v.1)), .no], fs⟩) := by
    unfold lxm
    cases c : lsB u.2 v.2 with
    | true => rw [c] at e2; rw [if_pos rfl]; exact (if_te (tr_e (cp_e (cons_e (op_e rfl rfl rfl) (cons_e (op_e rfl rfl rfl) rfl)) e2))).trans (op_e rfl rfl rfl)
    | false => rw [c] at e2; rw [if_neg Bool.false_ne_true]; exact (if_fe (tr_e (cp_e (cons_e (op_e rfl rfl rfl) (cons_e (op_e rfl rfl rfl) rfl)) e2))).trans (op_e rfl rfl rfl)
  have pl := lxM_ps h1 h3
  have ph := lxm_ps h2 h4
  have e3 := plesser (lxm u.2 v.2) (lxM u.1 v.1) fs ph pl (by omega)
  have e4 := pEq_pt pl ph hk hk
  unfold alg
  generalize lxM u.1 v.1 = L at *
  generalize lxm u.2 v.2 = M at *
  refine mFn_ret (s := ⟨[.val (pcD u), .val (pcD v), .val (pt L), .val (pt M)], fs⟩) ?_
  show b_common_along f_is_lesser ⟨[.val (pcD u), .val (pcD v), .no, .no], fs⟩ = _
  unfold b_common_along
  rw [seq_next (s1 := ⟨[.val (pcD u), .val (pcD v), .val (pt L), .no], fs⟩) (asg_e lo rfl), seq_next (s1 := ⟨[.val (pcD u), .val (pcD v), .val (pt L), .val (pt M)], fs⟩) (asg_e hi rfl)]
  cases c : lsB M L with
  | true =>
    rw [c] at e3
    rw [if_pos rfl]
    exact seq_ret ((ifS_t (tr_e (cp_e rfl e3))).trans (ret_of rfl))
  | false =>
    rw [c] at e3
    rw [if_neg Bool.false_ne_true, seq_next (s1 := ⟨[.val (pcD u), .val (pcD v), .val (pt L), .val (pt M)], fs⟩) (ret2_e (tr_e (cp_e rfl e3)))]
    by_cases q : L = M
    · rw [decide_eq_true q] at e4
      rw [if_pos q]
      exact seq_ret ((ifS_t (dB_of (op_e rfl rfl e4))).trans (ret_of (tup2_e rfl rfl)))
    · rw [decide_eq_false q] at e4
      rw [if_neg q, seq_next (s1 := ⟨[.val (pcD u), .val (pcD v), .val (pt L), .val (pt M)], fs⟩) (ret2_e (dB_of (op_e rfl rfl e4)))]
      exact ret_of (tup3_e rfl rfl rfl)
theorem sgn_mul (x y : Rat) : sgn x * sgn y = 1 ↔ 0 < x * y := by
  unfold sgn
  by_cases a1 : 0 < x
  · rw [if_pos a1]
    by_cases b1 : 0 < y
    · rw [if_pos b1]
      exact ⟨fun _ => Rat.mul_pos a1 b1, fun _ => by decide⟩
    · rw [if_neg b1]
      have n : ¬ 0 < x * y := fun z => b1 ((Rat.mul_pos_iff_of_pos_left a1).mp z)
      split <;> exact ⟨fun z => absurd z (by decide), fun z => absurd z n⟩
  · rw [if_neg a1]
    by_cases a2 : x < 0
    · rw [if_pos a2]
      have na : 0 < -x := by grind
      have k : 0 < x * y ↔ 0 < -y := by
        rw [← Rat.mul_pos_iff_of_pos_left na (b := -y)]
        have : -x * -y = x * y := by grind
        rw [this]
      rw [k]
      by_cases b1 : 0 < y
      · rw [if_pos b1]
        exact ⟨fun z => absurd z (by decide), fun z => by grind⟩
      · rw [if_neg b1]
        by_cases b2 : y < 0
        · rw [if_pos b2]
          exact ⟨fun _ => by grind, fun _ => by decide⟩
        · rw [if_neg b2]
          exact ⟨fun z => absurd z (by decide), fun z => by grind⟩
    · rw [if_neg a2]
      have e : x = 0 := by grind
      rw [e, Rat.zero_mul, Int.zero_mul]
      exact ⟨fun z => absurd z (by decide), fun z => absurd z Rat.lt_irrefl⟩
theorem sgn_bits (x : Rat) : bitsOk (sgn x) = true := by
  unfold sgn
  split
  · decide
  · split <;> decide
theorem eq00 (i j : Int) : pEq (.lst [.int i, .int j]) (.lst [.int 0, .int 0]) = some (.bl (decide (i = 0 ∧ j = 0))) := by
  have o1 : eqOk (.lst [.int i, .int j]) = true := eqOk_ints [i, j]
  have o2 : eqOk (.lst [.int 0, .int 0]) = true := eqOk_ints [0, 0]
  have e : decide (i = 0 ∧ j = 0) = (decide (i = 0) && decide (j = 0)) := by rw [Bool.eq_iff_iff]; simp
  rw [e]
  simp only [pEq, o1, o2, Bool.and_self, if_true, D.py, D.pys, PyData.eqv, PyData.eqvAll, Bool.beq_eq_decide_eq, Bool.and_true]
noncomputable abbrev FCm : DFn := f_common FCr FSd FCa FSn FSg
theorem pcommon {k : Nat} {a b c d : Pt} (fs : Option FS) (ha : Ps k a) (hb : Ps k b) (hc : Ps k c) (hd : Ps k d) (hk : k ≤ 400) : FCm [pcD (a, b), pcD (c, d)] fs = some (resD (cmn a b c d), fs) := by
  have s1 := pstraight fs ha hb (by omega)
  have s2 := pstraight fs hc hd (by omega)
  have cm1 := comp_p1 (caps := [.val (lnT a b)]) (fe := dCall FSd (dCons (dV 1) (dCons (dV 0) dNil))) fs pt (fun z => .int (sgn (cross a b z))) [c, d] fun z hz => by
    have : Ps k z := by
      rcases List.mem_cons.mp hz with q | q
      · rw [q]; exact hc
      · rw [List.mem_singleton.mp q]; exact hd
    exact cp_e rfl (pside fs ha hb this (by omega))
  have cm2 := comp_p1 (caps := [.val (lnT c d)]) (fe := dCall FSd (dCons (dV 1) (dCons (dV 0) dNil))) fs pt (fun z => .int (sgn (cross c d z))) [a, b] fun z hz => by
    have : Ps k z := by
      rcases List.mem_cons.mp hz with q | q
      · rw [q]; exact ha
      · rw [List.mem_singleton.mp q]; exact hb
    exact cp_e rfl (pside fs hc hd this (by omega))
  have e00 := eq00 (sgn (cross a b c)) (sgn (cross a b d))
  have sp1 := pspan2 fs ha hb (by omega)
  have sp2 := pspan2 fs hc hd (by omega)
  have q0 : (sgn (cross a b c) = 0 ∧ sgn (cross a b d) = 0) ↔ (cross a b c = 0 ∧ cross a b d = 0) := by rw [sgn0, sgn0]
  have st : b_common FCr FSd FCa FSn FSg ⟨[.val (pcD (a, b)), .val (pcD (c, d)), .no, .no, .no, .no], fs⟩ = (dSeq (dIfS (dB (dOp pEq (dL 4) (dNew (dLst (dCons (dC (.int 0)) (dCons (dC (.int 0)) dNil)))))) (dRet (dCall FCa (dCons (dCall FSn (dCons (dOp pIx (dL 0) (dC (.int 0))) (dCons (dOp pIx (dL 0) (dC (.int 1))) dNil))) (dCons (dCall FSn (dCons (dOp pIx (dL 1) (dC (.int 0))) (dCons (dOp pIx (dL 1) (dC (.int 1))) dNil))) dNil)))) dSkip) (dSeq (dAsgF 5 (dComp1 [3] (dItems (dV 0)) dYes (dCall FSd (dCons (dV 1) (dCons (dV 0) dNil))))) (dSeq (dIfS (dOr (dB (dOp pEq (dOp pMul (dOp pIx (dL 4) (dC (.int 0))) (dOp pIx (dL 4) (dC (.int 1)))) (dC (.int 1)))) (dB (dOp pEq (dOp pMul (dOp pIx (dL 5) (dC (.int 0))) (dOp pIx (dL 5) (dC (.int 1)))) (dC (.int 1))))) (dRet (dC .non)) dSkip) (dRet (dTup (dCons (dC (.str "at")) (dCons (dCall FCr (dCons (dV 2) (dCons (dV 3) dNil))) dNil))))))) ⟨[.val (pcD (a, b)), .val (pcD (c, d)), .val (lnT a b), .val (lnT c d), .own [.int (sgn (cross a b c)), .int (sgn (cross a b d))], .no], fs⟩ := by
    unfold b_common
    rw [seq_next (s1 := ⟨[.val (pcD (a, b)), .val (pcD (c, d)), .val (lnT a b), .no, .no, .no], fs⟩) (asg_e (cp_e (cons_e (op_e rfl rfl rfl) (cons_e (op_e rfl rfl rfl) rfl)) s1) rfl),
      seq_next (s1 := ⟨[.val (pcD (a, b)), .val (pcD (c, d)), .val (lnT a b), .val (lnT c d), .no, .no], fs⟩) (asg_e (cp_e (cons_e (op_e rfl rfl rfl) (cons_e (op_e rfl rfl rfl) rfl)) s2) rfl),
      seq_next (s1 := ⟨[.val (pcD (a, b)), .val (pcD (c, d)), .val (lnT a b), .val (lnT c d), .own [.int (sgn (cross a b c)), .int (sgn (cross a b d))], .no], fs⟩) (asgO_e (s1 := ⟨[.val (pcD (a, b)), .val (pcD (c, d)), .val (lnT a b), .val (lnT c d), .no, .no], fs⟩) (comp1F_e (idx := [2]) (ds := [pt c, pt d]) (R := [.int (sgn (cross a b c)), .int (sgn (cross a b d))]) (s1 := ⟨[.val (pcD (a, b)), .val (pcD (c, d)), .val (lnT a b), .val (lnT c d), .no, .no], fs⟩) rfl (show 2 ≤ sizeLine by decide) cm1) (show 4 < 6 by decide))]
  by_cases h0 : cross a b c = 0 ∧ cross a b d = 0
  · rw [decide_eq_true (q0.mpr h0)] at e00
    have al := palong (u := spn a b) (v := spn c d) fs (by unfold spn; split <;> assumption) (by unfold spn; split <;> assumption) (by unfold spn; split <;> assumption) (by unfold spn; split <;> assumption) (show k ≤ 1920 by omega)
    unfold cmn
    rw [if_pos h0]
    refine mFn_ret (s := ⟨[.val (pcD (a, b)), .val (pcD (c, d)), .val (lnT a b), .val (lnT c d), .own [.int (sgn (cross a b c)), .int (sgn (cross a b d))], .no], fs⟩) ?_
    refine st.trans (seq_ret ?_)
    rw [ifS_t (dB_of (op_e rfl (newL_e rfl) e00))]
    exact ret_of (cp_e (cons_e (cp_e (cons_e (op_e rfl rfl rfl) (cons_e (op_e rfl rfl rfl) rfl)) sp1) (cons_e (cp_e (cons_e (op_e rfl rfl rfl) (cons_e (op_e rfl rfl rfl) rfl)) sp2) rfl)) al)
  · rw [decide_eq_false (fun z => h0 (q0.mp z))] at e00
    unfold cmn
    rw [if_neg h0]
    refine mFn_ret (s := ⟨[.val (pcD (a, b)), .val (pcD (c, d)), .val (lnT a b), .val (lnT c d), .own [.int (sgn (cross a b c)), .int (sgn (cross a b d))], .own [.int (sgn (cross c d a)), .int (sgn (cross c d b))]], fs⟩) ?_
    refine st.trans ?_
    rw [seq_next (s1 := ⟨[.val (pcD (a, b)), .val (pcD (c, d)), .val (lnT a b), .val (lnT c d), .own [.int (sgn (cross a b c)), .int (sgn (cross a b d))], .no], fs⟩) (ret2_e (dB_of (op_e rfl (newL_e rfl) e00))),
      seq_next (s1 := ⟨[.val (pcD (a, b)), .val (pcD (c, d)), .val (lnT a b), .val (lnT c d), .own [.int (sgn (cross a b c)), .int (sgn (cross a b d))], .own [.int (sgn (cross c d a)), .int (sgn (cross c d b))]], fs⟩) (asgO_e (s1 := ⟨[.val (pcD (a, b)), .val (pcD (c, d)), .val (lnT a b), .val (lnT c d), .own [.int (sgn (cross a b c)), .int (sgn (cross a b d))], .no], fs⟩) (comp1F_e (idx := [3]) (ds := [pt a, pt b]) (R := [.int (sgn (cross c d a)), .int (sgn (cross c d b))]) (s1 := ⟨[.val (pcD (a, b)), .val (pcD (c, d)), .val (lnT a b), .val (lnT c d), .own [.int (sgn (cross a b c)), .int (sgn (cross a b d))], .no], fs⟩) rfl (show 2 ≤ sizeLine by decide) cm2) (show 5 < 6 by decide))]
    have m1 := mulE (sgn_bits (cross a b c)) (sgn_bits (cross a b d))
    have m2 := mulE (sgn_bits (cross c d a)) (sgn_bits (cross c d b))
    have t1 : dB (dOp pEq (dOp pMul (dOp pIx (dL 4) (dC (.int 0))) (dOp pIx (dL 4) (dC (.int 1)))) (dC (.int 1))) ⟨[.val (pcD (a, b)), .val (pcD (c, d)), .val (lnT a b), .val (lnT c d), .own [.int (sgn (cross a b c)), .int (sgn (cross a b d))], .own [.int (sgn (cross c d a)), .int (sgn (cross c d b))]], fs⟩ = some (decide (sgn (cross a b c) * sgn (cross a b d) = 1), ⟨[.val (pcD (a, b)), .val (pcD (c, d)), .val (lnT a b), .val (lnT c d), .own [.int (sgn (cross a b c)), .int (sgn (cross a b d))], .own [.int (sgn (cross c d a)), .int (sgn (cross c d b))]], fs⟩) := dB_of (op_e (op_e (op_e rfl rfl rfl) (op_e rfl rfl rfl) m1) rfl (pEq_int _ 1))
    have t2 : dB (dOp pEq (dOp pMul (dOp pIx (dL 5) (dC (.int 0))) (dOp pIx (dL 5) (dC (.int 1)))) (dC (.int 1))) ⟨[.val (pcD (a, b)), .val (pcD (c, d)), .val (lnT a b), .val (lnT c d), .own [.int (sgn (cross a b c)), .int (sgn (cross a b d))], .own [.int (sgn (cross c d a)), .int (sgn (cross c d b))]], fs⟩ = some (decide (sgn (cross c d a) * sgn (cross c d b) = 1), ⟨[.val (pcD (a, b)), .val (pcD (c, d)), .val (lnT a b), .val (lnT c d), .own [.int (sgn (cross a b c)), .int (sgn (cross a b d))], .own [.int (sgn (cross c d a)), .int (sgn (cross c d b))]], fs⟩) := dB_of (op_e (op_e (op_e rfl rfl rfl) (op_e rfl rfl rfl) m2) rfl (pEq_int _ 1))
    have k1 := sgn_mul (cross a b c) (cross a b d)
    have k2 := sgn_mul (cross c d a) (cross c d b)
    by_cases p1 : 0 < cross a b c * cross a b d
    · rw [decide_eq_true (k1.mpr p1)] at t1
      rw [if_pos (.inl p1)]
      exact seq_ret ((ifS_t (or_tt t1)).trans (ret_of rfl))
    · rw [decide_eq_false (fun z => p1 (k1.mp z))] at t1
      by_cases p2 : 0 < cross c d a * cross c d b
      · rw [decide_eq_true (k2.mpr p2)] at t2
        rw [if_pos (.inr p2)]
        exact seq_ret ((ifS_t (or_fx t1 t2)).trans (ret_of rfl))
      · rw [decide_eq_false (fun z => p2 (k2.mp z))] at t2
        rw [if_neg (fun z => z.elim p1 p2), seq_next (ret2_e (or_fx t1 t2))]
        have hW : crs (vec a b) (vec c d) ≠ 0 := fun z => by
          have e : cross a b d = cross a b c := by
            have : cross a b d - cross a b c = crs (vec a b) (vec c d) := by unfold cross crs vec; grind
            grind
          rw [e] at p1 h0
          have n : cross a b c ≠ 0 := fun y => h0 ⟨y, y⟩
          exact p1 (sq_pos' n)
        exact ret_of (tup2_e rfl (cp_e rfl (pcrossing fs ha hb hc hd hk hW)))
end T

namespace T
open PySem L2 DL
def Sm (M : Int) : Prop := 1 ≤ M ∧ M ≤ 2 ^ 4000
theorem Sm.bd {M g : Int} (hM : Sm M) (h0 : 0 ≤ g) (h : g ≤ 2 * M) : Bd 4002 g := by
  unfold Bd
  have e : (2 : Nat) ^ 4002 = 4 * 2 ^ 4000 := by rw [show (4002 : Nat) = 4000 + 2 from rfl, Nat.pow_add]; omega
  have h2 : M ≤ ((2 ^ 4000 : Nat) : Int) := by have := hM.2; rw [Int.natCast_pow]; exact this
  have p : 0 < (2 : Nat) ^ 4000 := Nat.pow_pos (by decide)
  rw [e]
  omega
theorem Sm.bits {M g : Int} (hM : Sm M) (h0 : 0 ≤ g) (h : g ≤ 2 * M) : bitsOk g = true := (hM.bd h0 h).bits (by decide)
theorem Sm.div {M g : Int} (hM : Sm M) (h0 : 1 ≤ g) (h : g ≤ 2 * M) : divOk g = true := by
  have b := hM.bd (by omega) h
  unfold divOk
  rw [Bool.and_eq_true, decide_eq_true_iff, decide_eq_true_iff]
  refine ⟨by omega, ?_⟩
  have : g.natAbs.log2 < 4002 := (Nat.log2_lt (by omega)).mpr b
  omega
theorem sq_mono {a b : Int} (h0 : 0 ≤ a) (h : a ≤ b) : a * a ≤ b * b := Int.mul_le_mul h h h0 (by omega)
theorem small_of_sq {M g n : Int} (hM : Sm M) (h : g * g ≤ n) (hn : n < M * M) (h0 : 0 ≤ g) : g < M := by
  rcases Int.lt_or_le g M with z | z
  · exact z
  · have := sq_mono (a := M) (b := g) (by have := hM.1; omega) z
    omega
abbrev aT : DT := dB (dOp (pCmp (fun i j => decide (j < i))) (dL 2) (dC (.int 0)))
abbrev aB : DM := dSeq (dAsg (dOp pMul (dL 1) (dC (.int 2))) (dPut 1)) (dAsg (dOp pDiv (dL 2) (dC (.int 4))) (dPut 2))
theorem above_while {M : Int} (hM : Sm M) (N : Sl) (fs : Option FS) (n : Int) (hn : n < M * M) (rest : Nat) : ∀ g : Int, 1 ≤ g → g ≤ 2 * M → g * g * rest ≤ n → n < g * g * (rest + 1) →
    ∃ g', dWhile aT aB ⟨[N, .val (.int g), .val (.int rest)], fs⟩ = some (.next, ⟨[N, .val (.int g'), .val (.int 0)], fs⟩) ∧ 1 ≤ g' ∧ g' ≤ 2 * M ∧ n < g' * g' := by
  induction rest using Nat.strongRecOn with
  | ind rest ih =>
    intro g h1 h2 h3 h4
    by_cases h : rest = 0
    · subst h
      refine ⟨g, dWhile_end (by simp [dB, dOp, dL, dC, pCmp]), h1, h2, ?_⟩
      have : g * g * ((0 : Nat) + 1 : Int) = g * g := by grind
      omega
    · have hg : g * g ≤ n := by
        have : g * g * 1 ≤ g * g * (rest : Int) := Int.mul_le_mul_of_nonneg_left (by omega) (Int.mul_nonneg (by omega) (by omega))
        omega
      have hs := small_of_sq hM hg hn (by omega)
      have e4 : ((rest : Int).fdiv 4) = ((rest / 4 : Nat) : Int) := by rw [Int.fdiv_eq_ediv_of_nonneg _ (by decide)]; rfl
      have hq : rest ≤ 4 * (rest / 4) + 3 := by omega
      have hq2 : 4 * (rest / 4) ≤ rest := by omega
      obtain ⟨g', e, r1, r2, r3⟩ := ih (rest / 4) (by omega) (g * 2) (by omega) (by omega) (by
        have e1 : g * 2 * (g * 2) * ((rest / 4 : Nat) : Int) = g * g * (4 * ((rest / 4 : Nat) : Int)) := by grind
        have : g * g * (4 * ((rest / 4 : Nat) : Int)) ≤ g * g * (rest : Int) := Int.mul_le_mul_of_nonneg_left (by omega) (Int.mul_nonneg (by omega) (by omega))
        omega) (by
        have e1 : g * 2 * (g * 2) * (((rest / 4 : Nat) : Int) + 1) = g * g * (4 * ((rest / 4 : Nat) : Int) + 4) := by grind
        have : g * g * ((rest : Int) + 1) ≤ g * g * (4 * ((rest / 4 : Nat) : Int) + 4) := Int.mul_le_mul_of_nonneg_left (by omega) (Int.mul_nonneg (by omega) (by omega))
        omega)
      refine ⟨g', dWhile_turn (s1 := ⟨[N, .val (.int g), .val (.int rest)], fs⟩) (s2 := ⟨[N, .val (.int (g * 2)), .val (.int ((rest / 4 : Nat) : Int))], fs⟩) ?_ ?_ e, r1, r2, r3⟩
      · have : 0 < rest := by omega
        simp [dB, dOp, dL, dC, pCmp, this]
      · have b1 : bitsOk g = true := hM.bits (by omega) (by omega)
        have b2 : bitsOk 2 = true := by decide
        have d4 : divOk 4 = true := by decide
        exact (seq_next (s1 := ⟨[N, .val (.int (g * 2)), .val (.int rest)], fs⟩) (asg_e (op_e rfl rfl (mulE b1 b2)) rfl)).trans (asg_e (op_e rfl rfl ((divE _ d4).trans (congrArg (fun z => some (D.int z)) e4))) rfl)
theorem above {M : Int} (hM : Sm M) (n : Int) (hn0 : 0 ≤ n) (hn : n < M * M) (fs : Option FS) : ∃ g, f_above_root [.int n] fs = some (.int g, fs) ∧ 1 ≤ g ∧ g ≤ 2 * M ∧ n < g * g := by
  obtain ⟨m, rfl⟩ := Int.eq_ofNat_of_zero_le hn0
  obtain ⟨g, e, r1, r2, r3⟩ := above_while hM (.val (.int m)) fs m hn m 1 (by decide) (by have := hM.1; omega) (by omega) (by omega)
  refine ⟨g, mFn_ret (s := ⟨[.val (.int m), .val (.int g), .val (.int 0)], fs⟩) ?_, r1, r2, r3⟩
  show b_above_root ⟨[.val (.int m), .no, .no], fs⟩ = _
  unfold b_above_root
  rw [seq_next (s1 := ⟨[.val (.int m), .val (.int 1), .no], fs⟩) (by simp [dAsg, dC, dPut])]
  rw [seq_next (s1 := ⟨[.val (.int m), .val (.int 1), .val (.int m)], fs⟩) (by simp [dAsg, dV, dPut])]
  rw [seq_next e]
  exact ret_of (by simp [dV])
def nx (n g : Int) : Int := (g + n / g) / 2
end T

namespace T
open PySem L2 DL
theorem num_nn {q : Rat} (h : 0 ≤ q) : 0 ≤ q.num := Rat.num_nonneg.mpr h
end T

namespace T
open PySem L2 DL
end T

namespace T
open PySem L2 DL
noncomputable abbrev WPl : DFn := f_law_plus LLw
noncomputable abbrev WMi : DFn := f_law_minus__2 LLw
noncomputable abbrev WPr : DFn := f_law_product__2 LLw
noncomputable abbrev WXy : DFn := f_law_xy__2 LLw
noncomputable abbrev WSp : DFn := f_law_spot LGd
theorem wplus {k l : Nat} (p q : Rat) (fs : Option FS) (h1 : Sz k p) (h2 : Sz l q) (hk : k + l ≤ 8000) : WPl [fr p, fr q] fs = some (fr (p + q), fs) := by
  have b1 := h1.num.bits (by omega)
  have b2 := h1.den.bits (by omega)
  have b3 := h2.num.bits (by omega)
  have b4 := h2.den.bits (by omega)
  have e := wlow (p.num * q.den + q.num * p.den) (p.den * q.den) fs (dd_ne p q) (Bd.mul h1.den h2.den) hk
  rw [← add_eq] at e
  refine mFn_ret (s := ⟨[.val (fr p), .val (fr q)], fs⟩) ?_
  exact ret_of (cp_e (cons_e (op_e (op_e (op_e rfl rfl (ix_fr0 p)) (op_e rfl rfl (ix_fr1 q)) (mulE b1 b4)) (op_e (op_e rfl rfl (ix_fr0 q)) (op_e rfl rfl (ix_fr1 p)) (mulE b3 b2)) rfl) (cons_e (op_e (op_e rfl rfl (ix_fr1 p)) (op_e rfl rfl (ix_fr1 q)) (mulE b2 b4)) rfl)) e)
theorem sub_eq (p q : Rat) : p - q = Rat.divInt (p.num * q.den - q.num * p.den) (p.den * q.den) := by
  have e : p - q = p + -q := Rat.sub_eq_add_neg p q
  rw [e, add_eq, Rat.neg_num, Rat.neg_den, Int.neg_mul, Int.sub_eq_add_neg]
theorem wminus {k l : Nat} (p q : Rat) (fs : Option FS) (h1 : Sz k p) (h2 : Sz l q) (hk : k + l ≤ 8000) : WMi [fr p, fr q] fs = some (fr (p - q), fs) := by
  have b1 := h1.num.bits (by omega)
  have b2 := h1.den.bits (by omega)
  have b3 := h2.num.bits (by omega)
  have b4 := h2.den.bits (by omega)
  have e := wlow (p.num * q.den - q.num * p.den) (p.den * q.den) fs (dd_ne p q) (Bd.mul h1.den h2.den) hk
  rw [← sub_eq] at e
  refine mFn_ret (s := ⟨[.val (fr p), .val (fr q)], fs⟩) ?_
  exact ret_of (cp_e (cons_e (op_e (op_e (op_e rfl rfl (ix_fr0 p)) (op_e rfl rfl (ix_fr1 q)) (mulE b1 b4)) (op_e (op_e rfl rfl (ix_fr0 q)) (op_e rfl rfl (ix_fr1 p)) (mulE b3 b2)) rfl) (cons_e (op_e (op_e rfl rfl (ix_fr1 p)) (op_e rfl rfl (ix_fr1 q)) (mulE b2 b4)) rfl)) e)
/-- a product of two pairs, in least numbers or not -/
theorem wprodR {k l : Nat} (a b c d : Int) (fs : Option FS) (hb : b ≠ 0) (hd : d ≠ 0) (h1 : Bd k a) (h2 : Bd k b) (h3 : Bd l c) (h4 : Bd l d) (hk : k + l ≤ 8000) : WPr [.tup [.int a, .int b], .tup [.int c, .int d]] fs = some (fr (Rat.divInt (a * c) (b * d)), fs) := by
  have b1 := h1.bits (by omega)
  have b2 := h2.bits (by omega)
  have b3 := h3.bits (by omega)
  have b4 := h4.bits (by omega)
  have e := wlow (a * c) (b * d) fs (Int.mul_ne_zero hb hd) (Bd.mul h2 h4) hk
  refine mFn_ret (s := ⟨[.val (.tup [.int a, .int b]), .val (.tup [.int c, .int d])], fs⟩) ?_
  exact ret_of (cp_e (cons_e (op_e (op_e rfl rfl rfl) (op_e rfl rfl rfl) (mulE b1 b3)) (cons_e (op_e (op_e rfl rfl rfl) (op_e rfl rfl rfl) (mulE b2 b4)) rfl)) e)
theorem wprod {k l : Nat} (p q : Rat) (fs : Option FS) (h1 : Sz k p) (h2 : Sz l q) (hk : k + l ≤ 8000) : WPr [fr p, fr q] fs = some (fr (p * q), fs) := by
  have e := wprodR p.num p.den q.num q.den fs (den_ne p) (den_ne q) h1.num h1.den h2.num h2.den hk
  rw [← mul_eq] at e
  exact e
theorem wxy {k : Nat} (a : Pt) (fs : Option FS) (h : Ps k a) (hk : k ≤ 8000) : WXy [pt a] fs = some (.tup [fr a.1, fr a.2], fs) := by
  have e1 := wlow (pX a) (pL a) fs (pL_ne a) h.l hk
  have e2 := wlow (pY a) (pL a) fs (pL_ne a) h.l hk
  rw [px_div] at e1
  rw [py_div] at e2
  refine mFn_ret (s := ⟨[.val (pt a)], fs⟩) ?_
  exact ret_of (tup2_e (cp_e (cons_e (op_e rfl rfl (ix_pt0 a)) (cons_e (op_e rfl rfl (ix_pt2 a)) rfl)) e1) (cp_e (cons_e (op_e rfl rfl (ix_pt1 a)) (cons_e (op_e rfl rfl (ix_pt2 a)) rfl)) e2))
theorem wspot {k l : Nat} (p q : Rat) (fs : Option FS) (h1 : Sz k p) (h2 : Sz l q) (hk : k + l ≤ 8000) : WSp [fr p, fr q] fs = some (pt (p, q), fs) := by
  have b1 := h1.num.bits (by omega)
  have b2 := h1.den.bits (by omega)
  have b3 := h2.num.bits (by omega)
  have b4 := h2.den.bits (by omega)
  have hd := dd_ne p q
  have hp : ¬ (p.den : Int) * q.den < 0 := by have := Int.mul_pos (den_pos p) (den_pos q); omega
  obtain ⟨g0, p1, p2, p3⟩ := parts3 (p.num * q.den) (q.num * p.den) (p.den * q.den) hd
  have dg := gdiv3 (x := p.num * q.den) (y := q.num * p.den) hd (Bd.mul h1.den h2.den) hk
  rw [if_neg hp] at g0 p1 p2 p3 dg
  rw [div_den, div_den'] at p1 p2 p3
  have w1 := wdiv (p.num * q.den) (q.num * p.den) fs
  have w2 := wdiv (Int.gcd (p.num * q.den) (q.num * p.den) : Int) (p.den * q.den) fs
  generalize (Int.gcd (Int.gcd (p.num * q.den) (q.num * p.den) : Int) (p.den * q.den) : Int) = gg at *
  refine mFn_ret (s := ⟨[.val (fr p), .val (fr q), .val (.tup [.int (p.num * q.den), .int (q.num * p.den), .int (p.den * q.den)]), .val (.int gg)], fs⟩) ?_
  show b_law_spot LGd ⟨[.val (fr p), .val (fr q), .no, .no], fs⟩ = _
  unfold b_law_spot
  rw [seq_next (s1 := ⟨[.val (fr p), .val (fr q), .val (.tup [.int (p.num * q.den), .int (q.num * p.den), .int (p.den * q.den)]), .no], fs⟩) (asg_e (tup3_e (op_e (op_e rfl rfl (ix_fr0 p)) (op_e rfl rfl (ix_fr1 q)) (mulE b1 b4)) (op_e (op_e rfl rfl (ix_fr0 q)) (op_e rfl rfl (ix_fr1 p)) (mulE b3 b2)) (op_e (op_e rfl rfl (ix_fr1 p)) (op_e rfl rfl (ix_fr1 q)) (mulE b2 b4))) rfl)]
  rw [seq_next (s1 := ⟨[.val (fr p), .val (fr q), .val (.tup [.int (p.num * q.den), .int (q.num * p.den), .int (p.den * q.den)]), .val (.int gg)], fs⟩) (asg_e (cp_e (cons_e (cp_e (cons_e (op_e rfl rfl rfl) (cons_e (op_e rfl rfl rfl) rfl)) w1) (cons_e (op_e rfl rfl rfl) rfl)) w2) rfl)]
  refine ret_of ?_
  unfold pt
  rw [← p1, ← p2, ← p3]
  exact cb1_e (p := pTuple) (newL_e (comp1F_e (idx := [3]) (ds := [.int (p.num * q.den), .int (q.num * p.den), .int (p.den * q.den)]) (s1 := ⟨[.val (fr p), .val (fr q), .val (.tup [.int (p.num * q.den), .int (q.num * p.den), .int (p.den * q.den)]), .val (.int gg)], fs⟩) rfl sz3 (comp_div dg fs [p.num * q.den, q.num * p.den, p.den * q.den]))) rfl
end T

namespace T
open PySem L2 DL
end T

namespace T
open PySem L2 DL
def Gr (B : Nat) (x : Rat) : Prop := ∃ n : Int, n.natAbs ≤ B ∧ x = Rat.divInt n 6630
theorem Gr.mono {B C : Nat} {x : Rat} (h : Gr B x) (hc : B ≤ C) : Gr C x := by
  obtain ⟨n, a, e⟩ := h
  exact ⟨n, Nat.le_trans a hc, e⟩
theorem Gr.add {B C : Nat} {x y : Rat} (h1 : Gr B x) (h2 : Gr C y) : Gr (B + C) (x + y) := by
  obtain ⟨n, a, rfl⟩ := h1
  obtain ⟨m, b, rfl⟩ := h2
  refine ⟨n + m, Nat.le_trans (Int.natAbs_add_le ..) (Nat.add_le_add a b), ?_⟩
  rw [Rat.divInt_eq_div, Rat.divInt_eq_div, Rat.divInt_eq_div, Rat.intCast_add]
  grind
theorem Gr.sz {B : Nat} {x : Rat} (h : Gr B x) (hB : B < 2 ^ 80) : Sz 80 x := by
  obtain ⟨n, a, rfl⟩ := h
  exact Sz.of_divInt (by decide) (Nat.lt_of_le_of_lt a hB) (by decide)
theorem Gr.div {B : Nat} {a b : Int} (hb : 0 < b) (hd : (6630 : Int) % b = 0) (hB : a.natAbs * 6630 ≤ B) : Gr B (Rat.divInt a b) := by
  obtain ⟨c, hc⟩ := Int.dvd_of_emod_eq_zero hd
  have c0 : 0 < c := by
    rcases Int.lt_or_le 0 c with z | z
    · exact z
    · have : b * c ≤ b * 0 := Int.mul_le_mul_of_nonneg_left z (by omega)
      omega
  have c1 : c ≤ 6630 := by
    have : 1 * c ≤ b * c := Int.mul_le_mul_of_nonneg_right (by omega) (by omega)
    omega
  refine ⟨a * c, ?_, ?_⟩
  · rw [Int.natAbs_mul]
    exact Nat.le_trans (Nat.mul_le_mul_left _ (by omega)) hB
  · rw [hc, Rat.divInt_mul_right (by omega)]
/-- finer ones -/
def Gf (B : Nat) (x : Rat) : Prop := ∃ n : Int, n.natAbs ≤ B ∧ x = Rat.divInt n 351138060
theorem Gf.mono {B C : Nat} {x : Rat} (h : Gf B x) (hc : B ≤ C) : Gf C x := by
  obtain ⟨n, a, e⟩ := h
  exact ⟨n, Nat.le_trans a hc, e⟩
theorem Gf.add {B C : Nat} {x y : Rat} (h1 : Gf B x) (h2 : Gf C y) : Gf (B + C) (x + y) := by
  obtain ⟨n, a, rfl⟩ := h1
  obtain ⟨m, b, rfl⟩ := h2
  refine ⟨n + m, Nat.le_trans (Int.natAbs_add_le ..) (Nat.add_le_add a b), ?_⟩
  rw [Rat.divInt_eq_div, Rat.divInt_eq_div, Rat.divInt_eq_div, Rat.intCast_add]
  grind
theorem Gf.sz {B : Nat} {x : Rat} (h : Gf B x) (hB : B < 2 ^ 81) : Sz 81 x := by
  obtain ⟨n, a, rfl⟩ := h
  exact Sz.of_divInt (by decide) (Nat.lt_of_le_of_lt a hB) (by decide)
theorem Gr.fine {B : Nat} {x : Rat} (h : Gr B x) : Gf (B * 52962) x := by
  obtain ⟨n, a, rfl⟩ := h
  refine ⟨n * 52962, ?_, ?_⟩
  · rw [Int.natAbs_mul]
    exact Nat.mul_le_mul_right _ a
  · rw [show (351138060 : Int) = 6630 * 52962 from rfl, Rat.divInt_mul_right (by decide)]
theorem ixl_e {ds : List D} {i : Int} {d : D} (h : atI ds i = some d) : pIx (.lst ds) (.int i) = some d := (ixL ds i).trans h
def wyD (w : Int × Int × Int) : D := .tup [.int w.1, .int w.2.1, .int w.2.2]
theorem lo_sz {n : Nat} (h : n ≤ 100) : n ≤ sizeLine := Nat.le_trans h (by decide)
end T

namespace T
open PySem L2 DL
def gBig : Nat := 4508400000000000000
def gFin : Nat := gBig * 52962
def gLen : Nat := 265200000000000000
def exL (a b : Pt) : Prop := ∃ r : Rat, 0 ≤ r ∧ Sz 90 r ∧ dsq a b = r * r ∧ 0 < r ∧ Gf gFin r
/-- as drawn -/
def exT (a b : Pt) : Prop := ∃ r : Rat, 0 < r ∧ dsq a b = r * r ∧ Gr gLen r
theorem exT.exL {a b : Pt} (h : exT a b) : exL a b := by
  obtain ⟨r, r0, e, g⟩ := h
  exact ⟨r, Rat.le_of_lt r0, (g.sz (by unfold gLen; decide)).mono (by decide), e, r0, g.fine.mono (by unfold gLen gFin gBig; decide)⟩
/-- ways: unit ones, each unlike the one before -/
def goP (a d : Pt) (r : Rat) : Pt := (a.1 + r * d.1, a.2 + r * d.2)
def dirW (w : Int × Int × Int) : Pt := (Rat.divInt w.1 w.2.2, Rat.divInt w.2.1 w.2.2)
def wyE (a b d : Pt) : Prop := (∃ r, 0 < r ∧ Gr gBig r ∧ b = goP a d r) ∧ d.1 * d.1 + d.2 * d.2 = 1 ∧ Sz 5 d.1 ∧ Sz 5 d.2
structure Wy (ps ds : List Pt) : Prop where
  len : ps.length = ds.length + 1
  go : ∀ j a b d, ps[j]? = some a → ps[j + 1]? = some b → ds[j]? = some d → wyE a b d
  tn : ∀ j d e, ds[j]? = some d → ds[j + 1]? = some e → d ≠ e
theorem get_snoc {α : Type} {l : List α} {x y : α} {j : Nat} (h : (l ++ [x])[j]? = some y) : l[j]? = some y ∨ (j = l.length ∧ y = x) := by
  by_cases hj : j < l.length
  · rw [List.getElem?_append_left hj] at h
    exact .inl h
  · have jl := (List.getElem?_eq_some_iff.mp h).1
    rw [List.length_append, List.length_singleton] at jl
    have ej : j = l.length := by omega
    subst ej
    rw [List.getElem?_append_right (Nat.le_refl _), Nat.sub_self] at h
    exact .inr ⟨rfl, (Option.some.inj h).symm⟩
theorem get_lt {α : Type} {l : List α} {y : α} {j : Nat} (h : l[j]? = some y) : j < l.length := (List.getElem?_eq_some_iff.mp h).1
theorem Wy.snoc {ps ds : List Pt} (h : Wy ps ds) {p q d : Pt} (hp : ps[ds.length]? = some p) (hw : wyE p q d) (hd : ∀ e, ds[ds.length - 1]? = some e → e ≠ d) : Wy (ps ++ [q]) (ds ++ [d]) := by
  have hl := h.len
  refine ⟨by rw [List.length_append, List.length_append, List.length_singleton, List.length_singleton]; omega, ?_, ?_⟩
  · intro j a b c ha hb hc
    rcases get_snoc hc with hc | ⟨rfl, rfl⟩
    · have jl := get_lt hc
      rw [List.getElem?_append_left (by omega)] at ha hb
      exact h.go j a b c ha hb hc
    · rw [List.getElem?_append_left (by omega), hp] at ha
      rcases get_snoc hb with hb | ⟨_, rfl⟩
      · have := get_lt hb
        omega
      · cases ha
        exact hw
  · intro j x y hx hy
    rcases get_snoc hy with hy | ⟨ej, rfl⟩
    · have jl := get_lt hy
      rw [List.getElem?_append_left (by omega)] at hx
      exact h.tn j x y hx hy
    · rw [List.getElem?_append_left (by omega), show j = ds.length - 1 by omega] at hx
      exact hd x hx
structure OpJ (W : List (Int × Int × Int)) (n i : Nat) (p : Pt) (ps ds : List Pt) (fm : D) (f : FS) : Prop where
  len : ps.length = i + 1
  last : ps[i]? = some p
  gr : ∀ q ∈ ps, Gr (46410 + i * gBig) q.1 ∧ Gr (46410 + i * gBig) q.2
  ex : ∀ (j : Nat) a b, ps[j]? = some a → ps[j + 1]? = some b → exT a b
  fm : (fm = .non ∧ ds = []) ∨ ∃ w ∈ W, fm = wyD w ∧ ds[ds.length - 1]? = some (dirW w)
  wy : Wy ps ds
  fd : Fd3 (n + 2 * i) f
/-- an exact line -/
structure ExS (c : Bool) (ps : List Pt) : Prop where
  lo : 1 ≤ ps.length
  hi : ps.length ≤ 9
  sz : ∀ p ∈ ps, PtS 200 p
  ex : ∀ q ∈ nbs c ps, exL q.1 q.2
  ne : 1 ≤ (nbs c ps).length
end T

namespace T
open PySem L2 DL
structure AbH (a b h t u : Int) : Prop where
  py : a * a + b * b = h * h
  h0 : 0 < h
  h1 : h ≤ 13
  a1 : a.natAbs ≤ 12
  b1 : b.natAbs ≤ 12
  t0 : 0 < t
  t1 : t ≤ 3
  u0 : 0 < u
  u1 : u ≤ 2
  dv : (6630 : Int) % (u * h) = 0
end T

namespace T
open PySem L2 DL
end T

namespace T
open PySem L2 DL
end T

namespace T
open PySem L2 DL
theorem div_as {x y z : Rat} (hy : y ≠ 0) (h : x = z * y) : x / y = z := by rw [h, Rat.mul_div_cancel hy]
theorem quo_ne {p q : Rat} (hq : q ≠ 0) : (p.den : Int) * q.num ≠ 0 := Int.mul_ne_zero (den_ne p) (fun z => hq (Rat.num_eq_zero.mp z))
theorem quo_eq {p q : Rat} (hq : q ≠ 0) : Rat.divInt (p.num * q.den) (p.den * q.num) = p / q := by
  have hz : (((p.den : Int) * q.num : Int) : Rat) ≠ 0 := fun z => quo_ne hq (Rat.intCast_eq_zero_iff.mp z)
  rw [Rat.divInt_eq_div]
  refine div_as hz ?_
  rw [Rat.intCast_mul, Rat.intCast_mul, num_eq p, num_eq q]
  grind
theorem quo_sz {k l : Nat} {p q : Rat} (hq : q ≠ 0) (h1 : Sz k p) (h2 : Sz l q) : Sz (k + l) (p / q) := by
  rw [← quo_eq hq]
  exact Sz.of_divInt (quo_ne hq) (Bd.mul h1.num h2.den) (Bd.mul h1.den h2.num)
noncomputable abbrev WOv : DFn := f_law_over LLw
theorem wover {k l : Nat} (p q : Rat) (fs : Option FS) (h1 : Sz k p) (h2 : Sz l q) (hq : q ≠ 0) (hk : k + l ≤ 8000) : WOv [fr p, fr q] fs = some (fr (p / q), fs) := by
  have b1 := h1.num.bits (by omega)
  have b2 := h1.den.bits (by omega)
  have b3 := h2.num.bits (by omega)
  have b4 := h2.den.bits (by omega)
  have e := wlow (p.num * q.den) (p.den * q.num) fs (quo_ne hq) (Bd.mul h1.den h2.num) hk
  rw [quo_eq hq] at e
  refine mFn_ret (s := ⟨[.val (fr p), .val (fr q)], fs⟩) ?_
  exact ret_of (cp_e (cons_e (op_e (op_e rfl rfl (ix_fr0 p)) (op_e rfl rfl (ix_fr1 q)) (mulE b1 b4)) (cons_e (op_e (op_e rfl rfl (ix_fr1 p)) (op_e rfl rfl (ix_fr0 q)) (mulE b2 b3)) rfl)) e)
theorem wbelow {k l : Nat} (p q : Rat) (fs : Option FS) (h1 : Sz k p) (h2 : Sz l q) (hk : k + l ≤ 8000) : f_law_below [fr p, fr q] fs = some (.bl (decide (p < q)), fs) := by
  have b1 := h1.num.bits (by omega)
  have b2 := h1.den.bits (by omega)
  have b3 := h2.num.bits (by omega)
  have b4 := h2.den.bits (by omega)
  rw [← lt_eq]
  refine mFn_ret (s := ⟨[.val (fr p), .val (fr q)], fs⟩) ?_
  exact ret_of (op_e (op_e (op_e rfl rfl (ix_fr0 p)) (op_e rfl rfl (ix_fr1 q)) (mulE b1 b4)) (op_e (op_e rfl rfl (ix_fr0 q)) (op_e rfl rfl (ix_fr1 p)) (mulE b3 b2)) rfl)
end T

namespace T
open PySem L2 DL
noncomputable abbrev WNr : DFn := f_law_near WSp LLw LDw
/-- numbers of 42ths -/
def G42 (x : Rat) : Prop := ∃ n : Int, n.natAbs ≤ 2 ^ 70 ∧ x = Rat.divInt n 42
def nrP (p : Pt) : Prop := (G42 p.1 ∧ G42 p.2) ∧ p.1 < 7 ∧ p.2 < 7
theorem near_gr {r b : Int} (h0 : 0 ≤ r) (h1 : r < 13) (b0 : 0 < b) (b1 : b ≤ 3) : G42 (Rat.divInt (r - 6) b) ∧ Rat.divInt (r - 6) b < 7 := by
  have hb : b = 1 ∨ b = 2 ∨ b = 3 := by omega
  obtain ⟨c, hc, c1⟩ : ∃ c : Int, b * c = 42 ∧ c.natAbs ≤ 42 := by
    rcases hb with rfl | rfl | rfl
    · exact ⟨42, by decide, by decide⟩
    · exact ⟨21, by decide, by decide⟩
    · exact ⟨14, by decide, by decide⟩
  have c0 : c ≠ 0 := fun z => by rw [z] at hc; omega
  refine ⟨⟨(r - 6) * c, ?_, ?_⟩, ?_⟩
  · rw [Int.natAbs_mul]
    exact Nat.le_trans (Nat.mul_le_mul (show (r - 6).natAbs ≤ 6 by omega) c1) (by decide)
  · rw [← hc, Rat.divInt_mul_right c0]
  · have p : (0 : Rat) < (b : Rat) := Rat.intCast_pos.mpr b0
    have nz : (b : Rat) ≠ 0 := fun z => by rw [z] at p; exact absurd p Rat.lt_irrefl
    rw [Rat.divInt_eq_div]
    have e := Rat.div_mul_cancel (a := ((r - 6 : Int) : Rat)) nz
    have l : ((r - 6 : Int) : Rat) < 7 * (b : Rat) := by
      have : ((r - 6 : Int) : Rat) < ((7 * b : Int) : Rat) := Rat.intCast_lt_intCast.mpr (by omega)
      rw [Rat.intCast_mul] at this
      exact this
    refine Rat.not_le.mp fun z => ?_
    have := Rat.mul_le_mul_of_nonneg_right z (Rat.le_of_lt p)
    rw [e] at this
    grind
theorem near_tab {r : Int} (h0 : 0 ≤ r) (h1 : r < 4) : ∃ b : Int, atI [D.int 1, .int 1, .int 2, .int 3] r = some (.int b) ∧ 0 < b ∧ b ≤ 3 := by
  have : r = 0 ∨ r = 1 ∨ r = 2 ∨ r = 3 := by omega
  rcases this with rfl | rfl | rfl | rfl
  · exact ⟨1, rfl, by decide⟩
  · exact ⟨1, rfl, by decide⟩
  · exact ⟨2, rfl, by decide⟩
  · exact ⟨3, rfl, by decide⟩
theorem near_sz {r b : Int} (h0 : 0 ≤ r) (h1 : r < 13) (b0 : 0 < b) (b1 : b ≤ 3) : Sz 5 (Rat.divInt (r - 6) b) ∧ Bd 5 b ∧ b ≠ 0 :=
  ⟨Sz.of_divInt (by omega) (by omega) (by omega), show b.natAbs < 2 ^ 5 by omega, by omega⟩
theorem wnearG {n : Nat} {f : FS} (h : Fd3 n f) (hn : n < 2 ^ 29) : ∃ p f', WNr [.feed] (some f) = some (pt p, some f') ∧ PtS 5 p ∧ nrP p ∧ Fd3 (n + 4) f' := by
  obtain ⟨r1, f1, e1, a1, a2, h1⟩ := draw3 13 h
  obtain ⟨r2, f2, e2, b1, b2, h2⟩ := draw3 4 h1
  obtain ⟨r3, f3, e3, c1, c2, h3⟩ := draw3 13 h2
  obtain ⟨r4, f4, e4, d1, d2, h4⟩ := draw3 4 h3
  obtain ⟨b, q1, x1, x2⟩ := near_tab b1 b2
  obtain ⟨d, q2, y1, y2⟩ := near_tab d1 d2
  obtain ⟨s1, u1, v1⟩ := near_sz a1 a2 x1 x2
  obtain ⟨s2, u2, v2⟩ := near_sz c1 c2 y1 y2
  have w1 := wlow (r1 - 6) b (some f2) v1 u1 (by decide)
  have w2 := wlow (r3 - 6) d (some f4) v2 u2 (by decide)
  have sp := wspot _ _ (some f4) s1 s2 (by decide)
  refine ⟨(Rat.divInt (r1 - 6) b, Rat.divInt (r3 - 6) d), f4, mFn_ret (s := ⟨[.val .feed, .val (fr (Rat.divInt (r1 - 6) b))], some f4⟩) ?_, ⟨s1, s2⟩, ⟨⟨(near_gr a1 a2 x1 x2).1, (near_gr c1 c2 y1 y2).1⟩, (near_gr a1 a2 x1 x2).2, (near_gr c1 c2 y1 y2).2⟩, h4⟩
  show b_law_near WSp LLw LDw ⟨[.val .feed, .no], some f⟩ = _
  unfold b_law_near
  rw [seq_next (s1 := ⟨[.val .feed, .val (fr (Rat.divInt (r1 - 6) b))], some f2⟩) (asg_e (cl_e2 (cons_e (op_e (cl_e rfl e1) rfl rfl) (cons_e (op_e (x := .lst [D.int 1, .int 1, .int 2, .int 3]) (s1 := ⟨[.val .feed, .no], some f1⟩) rfl (cl_e rfl e2) (ixl_e q1)) rfl)) w1) rfl)]
  exact ret_of (cl_e2 (cons_e rfl (cons_e (cl_e2 (cons_e (op_e (cl_e rfl e3) rfl rfl) (cons_e (op_e (x := .lst [D.int 1, .int 1, .int 2, .int 3]) (s1 := ⟨[.val .feed, .val (fr (Rat.divInt (r1 - 6) b))], some f3⟩) rfl (cl_e rfl e4) (ixl_e q2)) rfl)) w2) rfl)) sp)
end T

namespace T
open PySem L2 DL
abbrev vcD (v : Pt) : D := .tup [fr v.1, fr v.2]
noncomputable abbrev WFr : DFn := f_law_far WMi WXy
noncomputable abbrev WAw : DFn := f_law_athwart WMi WPr
noncomputable abbrev WWi : DFn := f_law_with WPl WPr
noncomputable abbrev WOw : DFn := f_law_on_the_way WSp WPl WPr WFr WXy
noncomputable abbrev WIs : DFn := f_law_is_share f_law_below
noncomputable abbrev WAl : DFn := f_law_alongside WFr WOw f_law_below WOv WWi
noncomputable abbrev WCm : DFn := f_law_common__2 WOw WIs WOv WAw WAl WFr
theorem vec_sz {k : Nat} {a b : Pt} (ha : PtS k a) (hb : PtS k b) : PtS (k + k + 1) (vec a b) := ⟨hb.1.sub ha.1, hb.2.sub ha.2⟩
theorem wfar {k : Nat} {a b : Pt} (fs : Option FS) (ha : PtS k a) (hb : PtS k b) (hk : k ≤ 1000) : WFr [pt a, pt b] fs = some (vcD (vec a b), fs) := by
  have xa := wxy a fs (Ps.of ha.1 ha.2) (by omega)
  have xb := wxy b fs (Ps.of hb.1 hb.2) (by omega)
  have m1 := wminus b.1 a.1 fs hb.1 ha.1 (by omega)
  have m2 := wminus b.2 a.2 fs hb.2 ha.2 (by omega)
  refine mFn_ret (s := ⟨[.val (pt a), .val (pt b), .val (fr a.1), .val (fr a.2), .val (fr b.1), .val (fr b.2)], fs⟩) ?_
  show b_law_far WMi WXy ⟨[.val (pt a), .val (pt b), .no, .no, .no, .no], fs⟩ = _
  unfold b_law_far
  rw [seq_next (s1 := ⟨[.val (pt a), .val (pt b), .val (fr a.1), .val (fr a.2), .val (fr b.1), .val (fr b.2)], fs⟩) (asg_e (tup2_e (cp_e (cons_e rfl rfl) xa) (cp_e (cons_e rfl rfl) xb)) rfl)]
  exact ret_of (tup2_e (cp_e rfl m1) (cp_e rfl m2))
theorem crs_sz {k : Nat} {u v : Pt} (hu : PtS k u) (hv : PtS k v) : Sz (4 * k + 1) (crs u v) := ((hu.1.mul hv.2).sub (hu.2.mul hv.1)).mono (by omega)
theorem dot_sz {k : Nat} {u v : Pt} (hu : PtS k u) (hv : PtS k v) : Sz (4 * k + 1) (dotv u v) := ((hu.1.mul hv.1).add (hu.2.mul hv.2)).mono (by omega)
theorem wathwart {k : Nat} {u v : Pt} (fs : Option FS) (hu : PtS k u) (hv : PtS k v) (hk : k ≤ 1000) : WAw [vcD u, vcD v] fs = some (fr (crs u v), fs) := by
  have p1 := wprod u.1 v.2 fs hu.1 hv.2 (by omega)
  have p2 := wprod u.2 v.1 fs hu.2 hv.1 (by omega)
  have m := wminus (u.1 * v.2) (u.2 * v.1) fs (hu.1.mul hv.2) (hu.2.mul hv.1) (by omega)
  exact mFn_ret (s := ⟨[.val (vcD u), .val (vcD v)], fs⟩) (ret_of (cp_e (cons_e (cp_e (cons_e (op_e rfl rfl rfl) (cons_e (op_e rfl rfl rfl) rfl)) p1) (cons_e (cp_e (cons_e (op_e rfl rfl rfl) (cons_e (op_e rfl rfl rfl) rfl)) p2) rfl)) m))
theorem wwith {k : Nat} {u v : Pt} (fs : Option FS) (hu : PtS k u) (hv : PtS k v) (hk : k ≤ 1000) : WWi [vcD u, vcD v] fs = some (fr (dotv u v), fs) := by
  have p1 := wprod u.1 v.1 fs hu.1 hv.1 (by omega)
  have p2 := wprod u.2 v.2 fs hu.2 hv.2 (by omega)
  have m := wplus (u.1 * v.1) (u.2 * v.2) fs (hu.1.mul hv.1) (hu.2.mul hv.2) (by omega)
  exact mFn_ret (s := ⟨[.val (vcD u), .val (vcD v)], fs⟩) (ret_of (cp_e (cons_e (cp_e (cons_e (op_e rfl rfl rfl) (cons_e (op_e rfl rfl rfl) rfl)) p1) (cons_e (cp_e (cons_e (op_e rfl rfl rfl) (cons_e (op_e rfl rfl rfl) rfl)) p2) rfl)) m))
theorem wonway {k l : Nat} {a b : Pt} {s : Rat} (fs : Option FS) (ha : PtS k a) (hb : PtS k b) (hs : Sz l s) (hk : k ≤ 400) (hl : l ≤ 1300) : WOw [pt a, pt b, fr s] fs = some (pt (along a b s), fs) := by
  have xa := wxy a fs (Ps.of ha.1 ha.2) (by omega)
  have f := wfar fs ha hb (by omega)
  have z1 := hb.1.sub ha.1
  have z2 := hb.2.sub ha.2
  have p1 := wprod s (b.1 - a.1) fs hs z1 (by omega)
  have p2 := wprod s (b.2 - a.2) fs hs z2 (by omega)
  have s1 := wplus a.1 _ fs ha.1 (hs.mul z1) (by omega)
  have s2 := wplus a.2 _ fs ha.2 (hs.mul z2) (by omega)
  have sp := wspot _ _ fs (ha.1.add (hs.mul z1)) (ha.2.add (hs.mul z2)) (by omega)
  unfold along
  refine mFn_ret (s := ⟨[.val (pt a), .val (pt b), .val (fr s), .val (fr a.1), .val (fr a.2), .val (fr (b.1 - a.1)), .val (fr (b.2 - a.2))], fs⟩) ?_
  show b_law_on_the_way WSp WPl WPr WFr WXy ⟨[.val (pt a), .val (pt b), .val (fr s), .no, .no, .no, .no], fs⟩ = _
  unfold b_law_on_the_way
  rw [seq_next (s1 := ⟨[.val (pt a), .val (pt b), .val (fr s), .val (fr a.1), .val (fr a.2), .no, .no], fs⟩) (asg_e (cp_e rfl xa) rfl),
    seq_next (s1 := ⟨[.val (pt a), .val (pt b), .val (fr s), .val (fr a.1), .val (fr a.2), .val (fr (b.1 - a.1)), .val (fr (b.2 - a.2))], fs⟩) (asg_e (cp_e rfl f) rfl)]
  exact ret_of (cp_e (cons_e (cp_e (cons_e rfl (cons_e (cp_e rfl p1) rfl)) s1) (cons_e (cp_e (cons_e rfl (cons_e (cp_e rfl p2) rfl)) s2) rfl)) sp)
theorem andV_tt {a b : DE} {s s1 : DS} {r : Option (D × DS)} (h1 : a s = some (.bl true, s1)) (h2 : b s1 = r) : dAndV a b s = r := by
  unfold dAndV
  rw [dB_of h1, Option.bind_some, if_pos rfl, h2]
theorem andV_ff {a b : DE} {s s1 : DS} (h1 : a s = some (.bl false, s1)) : dAndV a b s = some (.bl false, s1) := by
  unfold dAndV
  rw [dB_of h1, Option.bind_some, if_neg Bool.false_ne_true]
theorem orV_tt {a b : DE} {s s1 : DS} (h1 : a s = some (.bl true, s1)) : dOrV a b s = some (.bl true, s1) := by
  unfold dOrV
  rw [dB_of h1, Option.bind_some, if_pos rfl]
theorem orV_fx {a b : DE} {s s1 : DS} {r : Option (D × DS)} (h1 : a s = some (.bl false, s1)) (h2 : b s1 = r) : dOrV a b s = r := by
  unfold dOrV
  rw [dB_of h1, Option.bind_some, if_neg Bool.false_ne_true, h2]
theorem notVe {a : DE} {s s1 : DS} {b : Bool} (h1 : a s = some (.bl b, s1)) : dNotV a s = some (.bl (!b), s1) := by
  unfold dNotV
  rw [dB_of h1]
  rfl
theorem num_lt0 (x : Rat) : x.num < 0 ↔ x < 0 := by
  rw [← Int.not_le, ← Rat.not_le, Rat.num_nonneg]
theorem wshare {k : Nat} {s : Rat} (fs : Option FS) (hs : Sz k s) (hk : k ≤ 4000) : WIs [fr s] fs = some (.bl (decide (0 ≤ s ∧ s ≤ 1)), fs) := by
  have b := wbelow 1 s fs (Sz.lit (k := 1) (by decide)) hs (by omega)
  refine mFn_ret (s := ⟨[.val (fr s)], fs⟩) (ret_of ?_)
  have t : dOp (pCmp (fun i j => decide (j ≤ i))) (dOp pIx (dL 0) (dC (.int 0))) (dC (.int 0)) ⟨[.val (fr s)], fs⟩ = some (.bl (decide (0 ≤ s.num)), ⟨[.val (fr s)], fs⟩) := op_e (op_e rfl rfl (ix_fr0 s)) rfl rfl
  by_cases c : 0 ≤ s
  · have c' : 0 ≤ s.num := Rat.num_nonneg.mpr c
    rw [decide_eq_true c'] at t
    refine (andV_tt t (notVe (cp_e (cons_e (tup2_e rfl rfl) (cons_e rfl rfl)) b))).trans ?_
    by_cases d : s ≤ 1
    · rw [decide_eq_true (show 0 ≤ s ∧ s ≤ 1 from ⟨c, d⟩), decide_eq_false (show ¬ 1 < s from fun z => by grind)]
      rfl
    · rw [decide_eq_false (show ¬ (0 ≤ s ∧ s ≤ 1) from fun z => d z.2), decide_eq_true (show 1 < s by grind)]
      rfl
  · have c' : ¬ 0 ≤ s.num := fun z => c (Rat.num_nonneg.mp z)
    rw [decide_eq_false c'] at t
    refine (andV_ff t).trans ?_
    rw [decide_eq_false (show ¬ (0 ≤ s ∧ s ≤ 1) from fun z => c z.1)]
abbrev alS (a b c d : Pt) (x2 x3 x4 x5 x6 x7 : Sl) (fs : Option FS) : DS := ⟨[.val (pcD (a, b)), .val (pcD (c, d)), x2, x3, x4, x5, x6, x7], fs⟩
noncomputable abbrev alTail : DM := (dSeq (dAsg (dIf (dB (dOp (pCmp (fun i j => decide (i < j))) (dOp pIx (dOp pIx (dL 3) (dC (.int 0))) (dC (.int 0))) (dC (.int 0)))) (dTup (dCons (dC (.int 0)) (dCons (dC (.int 1)) dNil))) (dOp pIx (dL 3) (dC (.int 0)))) (dPut 4)) (dSeq (dAsg (dIf (dTr (dCall f_law_below (dCons (dTup (dCons (dC (.int 1)) (dCons (dC (.int 1)) dNil))) (dCons (dOp pIx (dL 3) (dC (.int 1))) dNil)))) (dTup (dCons (dC (.int 1)) (dCons (dC (.int 1)) dNil))) (dOp pIx (dL 3) (dC (.int 1)))) (dPut 5)) (dSeq (dIfS (dTr (dCall f_law_below (dCons (dV 5) (dCons (dV 4) dNil)))) (dRet (dC .non)) dSkip) (dSeq (dAsgF 6 (dComp1 [0] (dItems (dNew (dLst (dCons (dV 4) (dCons (dV 5) dNil))))) dYes (dCall WOw (dCons (dOp pIx (dL 1) (dC (.int 0))) (dCons (dOp pIx (dL 1) (dC (.int 1))) (dCons (dV 0) dNil)))))) (dSeq (dIfS (dB (dOp pEq (dOp pIx (dL 6) (dC (.int 0))) (dOp pIx (dL 6) (dC (.int 1))))) (dRet (dTup (dCons (dC (.str "at")) (dCons (dOp pIx (dL 6) (dC (.int 0))) dNil)))) dSkip) (dSeq (dAsg (dCall WFr (dCons (dOp pIx (dL 6) (dC (.int 0))) (dCons (dOp pIx (dL 6) (dC (.int 1))) dNil))) (dPut 2)) (dSeq (dAsg (dOrV (dOp (pCmp (fun i j => decide (j < i))) (dOp pIx (dOp pIx (dL 2) (dC (.int 0))) (dC (.int 0))) (dC (.int 0))) (dAndV (dOp pEq (dOp pIx (dOp pIx (dL 2) (dC (.int 0))) (dC (.int 0))) (dC (.int 0))) (dOp (pCmp (fun i j => decide (j < i))) (dOp pIx (dOp pIx (dL 2) (dC (.int 1))) (dC (.int 0))) (dC (.int 0))))) (dPut 7)) (dRet (dIf (dTr (dL 7)) (dTup (dCons (dC (.str "along")) (dCons (dOp pIx (dL 6) (dC (.int 0))) (dCons (dOp pIx (dL 6) (dC (.int 1))) dNil)))) (dTup (dCons (dC (.str "along")) (dCons (dOp pIx (dL 6) (dC (.int 1))) (dCons (dOp pIx (dL 6) (dC (.int 0))) dNil)))))))))))))
theorem num_gt0 (x : Rat) : 0 < x.num ↔ 0 < x := by
  constructor
  · intro z
    by_cases c : 0 < x
    · exact c
    · have a := Rat.num_nonneg.mp (Int.le_of_lt z)
      have b : x = 0 := by grind
      rw [b] at z
      exact absurd z (by decide)
  · intro z
    have a := num_nn (Rat.le_of_lt z)
    have b : x.num ≠ 0 := fun q => by
      rw [Rat.num_eq_zero] at q
      rw [q] at z
      exact absurd z Rat.lt_irrefl
    omega
open Classical in
theorem wal_tail {k l : Nat} {a b c d : Pt} {x y : Rat} (fs : Option FS) (ha : PtS k a) (hb : PtS k b) (hx : Sz l x) (hy : Sz l y) (hk : k ≤ 400) (hl : l ≤ 1300) (l1 : 1 ≤ l) (pl : PtS k (along a b (loS x))) (ph : PtS k (along a b (hiS y))) (x2 : Sl) :
    ∃ s', alTail (alS a b c d x2 (.own [fr x, fr y]) .no .no .no .no fs) = some (.ret (resD (lawE a b (loS x) (hiS y))), s') ∧ s'.fs = fs := by
  have zl : Sz l (loS x) := by unfold loS; split; exact (Sz.lit (k := 1) (by decide)).mono l1; exact hx
  have zh : Sz l (hiS y) := by unfold hiS; split; exact (Sz.lit (k := 1) (by decide)).mono l1; exact hy
  have low : dIf (dB (dOp (pCmp (fun i j => decide (i < j))) (dOp pIx (dOp pIx (dL 3) (dC (.int 0))) (dC (.int 0))) (dC (.int 0)))) (dTup (dCons (dC (.int 0)) (dCons (dC (.int 1)) dNil))) (dOp pIx (dL 3) (dC (.int 0))) (alS a b c d x2 (.own [fr x, fr y]) .no .no .no .no fs) = some (fr (loS x), alS a b c d x2 (.own [fr x, fr y]) .no .no .no .no fs) := by
    have t : dB (dOp (pCmp (fun i j => decide (i < j))) (dOp pIx (dOp pIx (dL 3) (dC (.int 0))) (dC (.int 0))) (dC (.int 0))) (alS a b c d x2 (.own [fr x, fr y]) .no .no .no .no fs) = some (decide (x.num < 0), alS a b c d x2 (.own [fr x, fr y]) .no .no .no .no fs) := dB_of (op_e (op_e (op_e rfl rfl rfl) rfl (ix_fr0 x)) rfl rfl)
    unfold loS
    by_cases q : x < 0
    · rw [decide_eq_true ((num_lt0 x).mpr q)] at t
      rw [if_pos q]
      exact (if_te t).trans (tup2_e rfl rfl)
    · rw [decide_eq_false (fun z => q ((num_lt0 x).mp z))] at t
      rw [if_neg q]
      exact (if_fe t).trans (op_e rfl rfl rfl)
  have bh := wbelow 1 y fs (Sz.lit (k := 1) (by decide)) hy (by omega)
  have high : dIf (dTr (dCall f_law_below (dCons (dTup (dCons (dC (.int 1)) (dCons (dC (.int 1)) dNil))) (dCons (dOp pIx (dL 3) (dC (.int 1))) dNil)))) (dTup (dCons (dC (.int 1)) (dCons (dC (.int 1)) dNil))) (dOp pIx (dL 3) (dC (.int 1))) (alS a b c d x2 (.own [fr x, fr y]) (.val (fr (loS x))) .no .no .no fs) = some (fr (hiS y), alS a b c d x2 (.own [fr x, fr y]) (.val (fr (loS x))) .no .no .no fs) := by
    unfold hiS
    by_cases q : 1 < y
    · rw [decide_eq_true q] at bh
      rw [if_pos q]
      exact (if_te (tr_e (cp_e (cons_e (tup2_e rfl rfl) (cons_e (op_e rfl rfl rfl) rfl)) bh))).trans (tup2_e rfl rfl)
    · rw [decide_eq_false q] at bh
      rw [if_neg q]
      exact (if_fe (tr_e (cp_e (cons_e (tup2_e rfl rfl) (cons_e (op_e rfl rfl rfl) rfl)) bh))).trans (op_e rfl rfl rfl)
  have bl := wbelow (hiS y) (loS x) fs zh zl (by omega)
  have o1 := wonway fs ha hb zl hk hl
  have o2 := wonway fs ha hb zh hk hl
  unfold lawE
  generalize loS x = lo at *
  generalize hiS y = hi at *
  unfold alTail
  rw [seq_next (s1 := alS a b c d x2 (.own [fr x, fr y]) (.val (fr lo)) .no .no .no fs) (asg_e low rfl), seq_next (s1 := alS a b c d x2 (.own [fr x, fr y]) (.val (fr lo)) (.val (fr hi)) .no .no fs) (asg_e high rfl)]
  by_cases q : hi < lo
  · rw [decide_eq_true q] at bl
    rw [if_pos q]
    exact ⟨_, seq_ret ((ifS_t (tr_e (cp_e rfl bl))).trans (ret_of rfl)), rfl⟩
  · rw [decide_eq_false q] at bl
    rw [if_neg q, seq_next (s1 := alS a b c d x2 (.own [fr x, fr y]) (.val (fr lo)) (.val (fr hi)) .no .no fs) (ret2_e (tr_e (cp_e rfl bl)))]
    have cm := comp_p1 (caps := [.val (pcD (a, b))]) (fe := dCall WOw (dCons (dOp pIx (dL 1) (dC (.int 0))) (dCons (dOp pIx (dL 1) (dC (.int 1))) (dCons (dV 0) dNil)))) fs fr (fun z => pt (along a b z)) [lo, hi] fun z hz => by
      have : WOw [pt a, pt b, fr z] fs = some (pt (along a b z), fs) := by
        rcases List.mem_cons.mp hz with e | e
        · rw [e]; exact o1
        · rw [List.mem_singleton.mp e]; exact o2
      exact cp_e (cons_e (op_e rfl rfl rfl) (cons_e (op_e rfl rfl rfl) (cons_e rfl rfl))) this
    have cm : dCompL (fun d => some (.val d :: [.val (pcD (a, b))])) dYes (dCall WOw (dCons (dOp pIx (dL 1) (dC (.int 0))) (dCons (dOp pIx (dL 1) (dC (.int 1))) (dCons (dV 0) dNil)))) [fr lo, fr hi] fs = some ([pt (along a b lo), pt (along a b hi)], fs) := cm
    have eq := pEq_pt (Ps.of pl.1 pl.2) (Ps.of ph.1 ph.2) (by omega) (by omega)
    have fv := wfar fs pl ph (by omega)
    generalize along a b lo = A at *
    generalize along a b hi = B at *
    rw [seq_next (s1 := alS a b c d x2 (.own [fr x, fr y]) (.val (fr lo)) (.val (fr hi)) (.own [pt A, pt B]) .no fs) (asgO_e (s1 := alS a b c d x2 (.own [fr x, fr y]) (.val (fr lo)) (.val (fr hi)) .no .no fs) (comp1F_e (idx := [0]) (ds := [fr lo, fr hi]) (R := [pt A, pt B]) (s1 := alS a b c d x2 (.own [fr x, fr y]) (.val (fr lo)) (.val (fr hi)) .no .no fs) rfl (show 2 ≤ sizeLine by decide) cm) (show 6 < 8 by decide))]
    by_cases e : A = B
    · rw [decide_eq_true e] at eq
      rw [if_pos e]
      exact ⟨_, seq_ret ((ifS_t (dB_of (op_e (op_e rfl rfl rfl) (op_e rfl rfl rfl) eq))).trans (ret_of (tup2_e rfl (op_e rfl rfl rfl)))), rfl⟩
    · rw [decide_eq_false e] at eq
      rw [if_neg e, seq_next (s1 := alS a b c d x2 (.own [fr x, fr y]) (.val (fr lo)) (.val (fr hi)) (.own [pt A, pt B]) .no fs) (ret2_e (dB_of (op_e (op_e rfl rfl rfl) (op_e rfl rfl rfl) eq))),
        seq_next (s1 := alS a b c d (.val (vcD (vec A B))) (.own [fr x, fr y]) (.val (fr lo)) (.val (fr hi)) (.own [pt A, pt B]) .no fs) (asg_e (cp_e (cons_e (op_e rfl rfl rfl) (cons_e (op_e rfl rfl rfl) rfl)) fv) rfl)]
      generalize vec A B = v at *
      have r1 : dOp (pCmp (fun i j => decide (j < i))) (dOp pIx (dOp pIx (dL 2) (dC (.int 0))) (dC (.int 0))) (dC (.int 0)) (alS a b c d (.val (vcD v)) (.own [fr x, fr y]) (.val (fr lo)) (.val (fr hi)) (.own [pt A, pt B]) .no fs) = some (.bl (decide (0 < v.1.num)), alS a b c d (.val (vcD v)) (.own [fr x, fr y]) (.val (fr lo)) (.val (fr hi)) (.own [pt A, pt B]) .no fs) := op_e (op_e (op_e rfl rfl rfl) rfl (ix_fr0 v.1)) rfl rfl
      have r2 : dOp pEq (dOp pIx (dOp pIx (dL 2) (dC (.int 0))) (dC (.int 0))) (dC (.int 0)) (alS a b c d (.val (vcD v)) (.own [fr x, fr y]) (.val (fr lo)) (.val (fr hi)) (.own [pt A, pt B]) .no fs) = some (.bl (decide (v.1.num = 0)), alS a b c d (.val (vcD v)) (.own [fr x, fr y]) (.val (fr lo)) (.val (fr hi)) (.own [pt A, pt B]) .no fs) := op_e (op_e (op_e rfl rfl rfl) rfl (ix_fr0 v.1)) rfl (pEq_int _ 0)
      have r3 : dOp (pCmp (fun i j => decide (j < i))) (dOp pIx (dOp pIx (dL 2) (dC (.int 1))) (dC (.int 0))) (dC (.int 0)) (alS a b c d (.val (vcD v)) (.own [fr x, fr y]) (.val (fr lo)) (.val (fr hi)) (.own [pt A, pt B]) .no fs) = some (.bl (decide (0 < v.2.num)), alS a b c d (.val (vcD v)) (.own [fr x, fr y]) (.val (fr lo)) (.val (fr hi)) (.own [pt A, pt B]) .no fs) := op_e (op_e (op_e rfl rfl rfl) rfl (ix_fr0 v.2)) rfl rfl
      have rs : dOrV (dOp (pCmp (fun i j => decide (j < i))) (dOp pIx (dOp pIx (dL 2) (dC (.int 0))) (dC (.int 0))) (dC (.int 0))) (dAndV (dOp pEq (dOp pIx (dOp pIx (dL 2) (dC (.int 0))) (dC (.int 0))) (dC (.int 0))) (dOp (pCmp (fun i j => decide (j < i))) (dOp pIx (dOp pIx (dL 2) (dC (.int 1))) (dC (.int 0))) (dC (.int 0)))) (alS a b c d (.val (vcD v)) (.own [fr x, fr y]) (.val (fr lo)) (.val (fr hi)) (.own [pt A, pt B]) .no fs) = some (.bl (decide (LexPos v.1 v.2)), alS a b c d (.val (vcD v)) (.own [fr x, fr y]) (.val (fr lo)) (.val (fr hi)) (.own [pt A, pt B]) .no fs) := by
        by_cases p1 : 0 < v.1
        · rw [decide_eq_true ((num_gt0 v.1).mpr p1)] at r1
          rw [decide_eq_true (show LexPos v.1 v.2 from .inl p1)]
          exact orV_tt r1
        · rw [decide_eq_false (fun z => p1 ((num_gt0 v.1).mp z))] at r1
          refine (orV_fx r1 rfl).trans ?_
          by_cases p2 : v.1 = 0
          · rw [decide_eq_true (Rat.num_eq_zero.mpr p2)] at r2
            refine (andV_tt r2 rfl).trans (r3.trans ?_)
            have : decide (0 < v.2.num) = decide (LexPos v.1 v.2) := by
              rw [Bool.eq_iff_iff, decide_eq_true_iff, decide_eq_true_iff, num_gt0]
              exact ⟨fun z => .inr ⟨p2, z⟩, fun z => z.elim (fun w => absurd w p1) (·.2)⟩
            rw [this]
          · rw [decide_eq_false (fun z => p2 (Rat.num_eq_zero.mp z))] at r2
            refine (andV_ff r2).trans ?_
            rw [decide_eq_false (show ¬ LexPos v.1 v.2 from fun z => z.elim p1 (fun w => p2 w.1))]
      rw [seq_next (s1 := alS a b c d (.val (vcD v)) (.own [fr x, fr y]) (.val (fr lo)) (.val (fr hi)) (.own [pt A, pt B]) (.val (.bl (decide (LexPos v.1 v.2)))) fs) (asg_e rs rfl)]
      refine ⟨alS a b c d (.val (vcD v)) (.own [fr x, fr y]) (.val (fr lo)) (.val (fr hi)) (.own [pt A, pt B]) (.val (.bl (decide (LexPos v.1 v.2)))) fs, ?_, rfl⟩
      by_cases p : LexPos v.1 v.2
      · rw [if_pos p, decide_eq_true p]
        exact ret_of ((if_te (tr_e rfl)).trans (tup3_e rfl (op_e rfl rfl rfl) (op_e rfl rfl rfl)))
      · rw [if_neg p, decide_eq_false p]
        exact ret_of ((if_fe (tr_e rfl)).trans (tup3_e rfl (op_e rfl rfl rfl) (op_e rfl rfl rfl)))
end T

namespace T
open PySem L2 DL
theorem revO_e {a b c d : Pt} {x2 : Sl} {p q : D} {fs : Option FS} : dRevO 3 (alS a b c d x2 (.own [p, q]) .no .no .no .no fs) = some (.next, alS a b c d x2 (.own [q, p]) .no .no .no .no fs) := by
  show (if [p, q].length ≤ sizeLine then some (Fl.next, alS a b c d x2 (.own [q, p]) .no .no .no .no fs) else none) = _
  exact if_pos (show 2 ≤ sizeLine by decide)
theorem shr_sz {a b c : Pt} (ha : PtS 76 a) (hb : PtS 76 b) (hc : PtS 76 c) (hab : a ≠ b) : Sz 1226 (shr a b c) :=
  (quo_sz (ne_of_pos (dot_pos hab)) (dot_sz (vec_sz ha hc) (vec_sz ha hb)) (dot_sz (vec_sz ha hb) (vec_sz ha hb))).mono (by decide)
theorem walong {a b c d : Pt} (fs : Option FS) (ha : PtS 76 a) (hb : PtS 76 b) (hc : PtS 76 c) (hd : PtS 76 d) (hab : a ≠ b) (k1 : cross a b c = 0) (k2 : cross a b d = 0) : WAl [pcD (a, b), pcD (c, d)] fs = some (resD (lawA a b (shr a b c) (shr a b d)), fs) := by
  have f := wfar fs ha hb (by decide)
  have vb := vec_sz ha hb
  have ec : along a b (shr a b c) = c := by
    obtain ⟨s, hs⟩ := share_of hab k1
    rw [hs, shr_along hab]
  have ed : along a b (shr a b d) = d := by
    obtain ⟨s, hs⟩ := share_of hab k2
    rw [hs, shr_along hab]
  have el : ∀ z : Pt, PtS 76 z → dCall WOv (dCons (dCall WWi (dCons (dCall WFr (dCons (dOp pIx (dL 2) (dC (.int 0))) (dCons (dV 0) dNil))) (dCons (dV 1) dNil))) (dCons (dCall WWi (dCons (dV 1) (dCons (dV 1) dNil))) dNil)) ⟨.val (pt z) :: [.val (vcD (vec a b)), .val (pcD (a, b))], fs⟩ = some (fr (shr a b z), ⟨.val (pt z) :: [.val (vcD (vec a b)), .val (pcD (a, b))], fs⟩) := fun z hz => by
    have vz := vec_sz ha hz
    have g1 := wfar fs ha hz (by decide)
    have g2 := wwith fs vz vb (by decide)
    have g3 := wwith fs vb vb (by decide)
    have g4 := wover (dotv (vec a z) (vec a b)) (dotv (vec a b) (vec a b)) fs (dot_sz vz vb) (dot_sz vb vb) (ne_of_pos (dot_pos hab)) (by decide)
    exact cp_e (cons_e (cp_e (cons_e (cp_e (cons_e (op_e rfl rfl rfl) (cons_e rfl rfl)) g1) (cons_e rfl rfl)) g2) (cons_e (cp_e rfl g3) rfl)) g4
  have cm := comp_p1 (caps := [.val (vcD (vec a b)), .val (pcD (a, b))]) (fe := dCall WOv (dCons (dCall WWi (dCons (dCall WFr (dCons (dOp pIx (dL 2) (dC (.int 0))) (dCons (dV 0) dNil))) (dCons (dV 1) dNil))) (dCons (dCall WWi (dCons (dV 1) (dCons (dV 1) dNil))) dNil))) fs pt (fun z => fr (shr a b z)) [c, d] fun z hz => by
    rcases List.mem_cons.mp hz with q | q
    · rw [q]; exact el c hc
    · rw [List.mem_singleton.mp q]; exact el d hd
  have zc := shr_sz ha hb hc hab
  have zd := shr_sz ha hb hd hab
  have bl := wbelow (shr a b d) (shr a b c) fs zd zc (by decide)
  have lo : ∀ x : Rat, PtS 76 (along a b x) → PtS 76 (along a b (loS x)) := fun x h => by
    unfold loS
    split
    · rw [P0]; exact ha
    · exact h
  have hi : ∀ x : Rat, PtS 76 (along a b x) → PtS 76 (along a b (hiS x)) := fun x h => by
    unfold hiS
    split
    · rw [P1]; exact hb
    · exact h
  have pc : PtS 76 (along a b (shr a b c)) := by rw [ec]; exact hc
  have pd : PtS 76 (along a b (shr a b d)) := by rw [ed]; exact hd
  have fin : ∃ s', b_law_alongside WFr WOw f_law_below WOv WWi (alS a b c d .no .no .no .no .no .no fs) = some (.ret (resD (lawA a b (shr a b c) (shr a b d))), s') ∧ s'.fs = fs := by
    unfold b_law_alongside
    rw [seq_next (s1 := alS a b c d (.val (vcD (vec a b))) .no .no .no .no .no fs) (asg_e (cp_e (cons_e (op_e rfl rfl rfl) (cons_e (op_e rfl rfl rfl) rfl)) f) rfl),
      seq_next (s1 := alS a b c d (.val (vcD (vec a b))) (.own [fr (shr a b c), fr (shr a b d)]) .no .no .no .no fs) (asgO_e (s1 := alS a b c d (.val (vcD (vec a b))) .no .no .no .no .no fs) (comp1F_e (idx := [2, 0]) (ds := [pt c, pt d]) (R := [fr (shr a b c), fr (shr a b d)]) (s1 := alS a b c d (.val (vcD (vec a b))) .no .no .no .no .no fs) rfl (show 2 ≤ sizeLine by decide) cm) (show 3 < 8 by decide))]
    unfold lawA
    by_cases q : shr a b d < shr a b c
    · rw [decide_eq_true q] at bl
      rw [if_pos q, seq_next (s1 := alS a b c d (.val (vcD (vec a b))) (.own [fr (shr a b d), fr (shr a b c)]) .no .no .no .no fs) ((ifS_t (tr_e (cp_e (cons_e (op_e rfl rfl rfl) (cons_e (op_e rfl rfl rfl) rfl)) bl))).trans revO_e)]
      exact wal_tail fs ha hb zd zc (by decide) (by decide) (by decide) (lo _ pd) (hi _ pc) _
    · rw [decide_eq_false q] at bl
      rw [if_neg q, seq_next (s1 := alS a b c d (.val (vcD (vec a b))) (.own [fr (shr a b c), fr (shr a b d)]) .no .no .no .no fs) (ret2_e (tr_e (cp_e (cons_e (op_e rfl rfl rfl) (cons_e (op_e rfl rfl rfl) rfl)) bl)))]
      exact wal_tail fs ha hb zc zd (by decide) (by decide) (by decide) (lo _ pc) (hi _ pd) _
  obtain ⟨s', e, hf⟩ := fin
  have r := mFn_ret (n := 8) (b := b_law_alongside WFr WOw f_law_below WOv WWi) (ds := [pcD (a, b), pcD (c, d)]) (fs := fs) (s := s') e
  rw [hf] at r
  exact r
theorem wcommon2 {a b c d : Pt} (fs : Option FS) (ha : PtS 76 a) (hb : PtS 76 b) (hc : PtS 76 c) (hd : PtS 76 d) (hab : a ≠ b) : WCm [pcD (a, b), pcD (c, d)] fs = some (resD (lawR a b c d), fs) := by
  have v1 := vec_sz ha hb
  have v2 := vec_sz hc hd
  have v3 := vec_sz ha hc
  have f1 := wfar fs ha hb (by decide)
  have f2 := wfar fs hc hd (by decide)
  have f3 := wfar fs ha hc (by decide)
  have a1 := wathwart fs v1 v2 (by decide)
  have a2 := wathwart fs v3 v1 (by decide)
  have a3 := wathwart fs v3 v2 (by decide)
  have z1 := crs_sz v1 v2
  have z2 := crs_sz v3 v1
  have z3 := crs_sz v3 v2
  have st : b_law_common__2 WOw WIs WOv WAw WAl WFr ⟨[.val (pcD (a, b)), .val (pcD (c, d)), .no, .no, .no, .no, .no], fs⟩ = (dSeq (dIfS (dB (dOp pEq (dOp pIx (dL 5) (dC (.int 0))) (dC (.int 0)))) (dRet (dIf (dB (dOp pEq (dOp pIx (dCall WAw (dCons (dV 4) (dCons (dV 2) dNil))) (dC (.int 0))) (dC (.int 0)))) (dCall WAl (dCons (dV 0) (dCons (dV 1) dNil))) (dC .non))) dSkip) (dSeq (dAsg (dCall WOv (dCons (dCall WAw (dCons (dV 4) (dCons (dV 3) dNil))) (dCons (dV 5) dNil))) (dPut 6)) (dSeq (dIfS (dOr (dNot (dTr (dCall WIs (dCons (dV 6) dNil)))) (dNot (dTr (dCall WIs (dCons (dCall WOv (dCons (dCall WAw (dCons (dV 4) (dCons (dV 2) dNil))) (dCons (dV 5) dNil))) dNil))))) (dRet (dC .non)) dSkip) (dRet (dTup (dCons (dC (.str "at")) (dCons (dCall WOw (dCons (dOp pIx (dL 0) (dC (.int 0))) (dCons (dOp pIx (dL 0) (dC (.int 1))) (dCons (dV 6) dNil)))) dNil))))))) ⟨[.val (pcD (a, b)), .val (pcD (c, d)), .val (vcD (vec a b)), .val (vcD (vec c d)), .val (vcD (vec a c)), .val (fr (crs (vec a b) (vec c d))), .no], fs⟩ := by
    unfold b_law_common__2
    rw [seq_next (s1 := ⟨[.val (pcD (a, b)), .val (pcD (c, d)), .val (vcD (vec a b)), .val (vcD (vec c d)), .no, .no, .no], fs⟩) (parS_e (cons_e (cp_e (cons_e (op_e rfl rfl rfl) (cons_e (op_e rfl rfl rfl) rfl)) f1) (cons_e (cp_e (cons_e (op_e rfl rfl rfl) (cons_e (op_e rfl rfl rfl) rfl)) f2) rfl)) rfl),
      seq_next (s1 := ⟨[.val (pcD (a, b)), .val (pcD (c, d)), .val (vcD (vec a b)), .val (vcD (vec c d)), .val (vcD (vec a c)), .no, .no], fs⟩) (asg_e (cp_e (cons_e (op_e rfl rfl rfl) (cons_e (op_e rfl rfl rfl) rfl)) f3) rfl),
      seq_next (s1 := ⟨[.val (pcD (a, b)), .val (pcD (c, d)), .val (vcD (vec a b)), .val (vcD (vec c d)), .val (vcD (vec a c)), .val (fr (crs (vec a b) (vec c d))), .no], fs⟩) (asg_e (cp_e rfl a1) rfl)]
  have t0 : dB (dOp pEq (dOp pIx (dL 5) (dC (.int 0))) (dC (.int 0))) ⟨[.val (pcD (a, b)), .val (pcD (c, d)), .val (vcD (vec a b)), .val (vcD (vec c d)), .val (vcD (vec a c)), .val (fr (crs (vec a b) (vec c d))), .no], fs⟩ = some (decide ((crs (vec a b) (vec c d)).num = 0), ⟨[.val (pcD (a, b)), .val (pcD (c, d)), .val (vcD (vec a b)), .val (vcD (vec c d)), .val (vcD (vec a c)), .val (fr (crs (vec a b) (vec c d))), .no], fs⟩) := dB_of (op_e (op_e rfl rfl (ix_fr0 _)) rfl (pEq_int _ 0))
  have t1 : dB (dOp pEq (dOp pIx (dCall WAw (dCons (dV 4) (dCons (dV 2) dNil))) (dC (.int 0))) (dC (.int 0))) ⟨[.val (pcD (a, b)), .val (pcD (c, d)), .val (vcD (vec a b)), .val (vcD (vec c d)), .val (vcD (vec a c)), .val (fr (crs (vec a b) (vec c d))), .no], fs⟩ = some (decide ((crs (vec a c) (vec a b)).num = 0), ⟨[.val (pcD (a, b)), .val (pcD (c, d)), .val (vcD (vec a b)), .val (vcD (vec c d)), .val (vcD (vec a c)), .val (fr (crs (vec a b) (vec c d))), .no], fs⟩) := dB_of (op_e (op_e (cp_e rfl a2) rfl (ix_fr0 _)) rfl (pEq_int _ 0))
  unfold lawR
  by_cases hW : crs (vec a b) (vec c d) = 0
  · rw [decide_eq_true (Rat.num_eq_zero.mpr hW)] at t0
    rw [if_pos hW]
    refine mFn_ret (s := ⟨[.val (pcD (a, b)), .val (pcD (c, d)), .val (vcD (vec a b)), .val (vcD (vec c d)), .val (vcD (vec a c)), .val (fr (crs (vec a b) (vec c d))), .no], fs⟩) (st.trans (seq_ret ((ifS_t t0).trans (ret_of ?_))))
    by_cases h0 : crs (vec a c) (vec a b) = 0
    · rw [decide_eq_true (Rat.num_eq_zero.mpr h0)] at t1
      rw [if_pos h0]
      have k1 : cross a b c = 0 := by
        have : cross a b c = -crs (vec a c) (vec a b) := by unfold cross crs vec; grind
        rw [this, h0]
        grind
      have k2 : cross a b d = 0 := by
        have : cross a b d = crs (vec a b) (vec c d) - crs (vec a c) (vec a b) := by unfold cross crs vec; grind
        rw [this, h0, hW]
        grind
      exact (if_te t1).trans (cp_e rfl (walong fs ha hb hc hd hab k1 k2))
    · rw [decide_eq_false (fun z => h0 (Rat.num_eq_zero.mp z))] at t1
      rw [if_neg h0]
      exact (if_fe t1).trans rfl
  · rw [decide_eq_false (fun z => hW (Rat.num_eq_zero.mp z))] at t0
    rw [if_neg hW]
    have o1 := wover (crs (vec a c) (vec c d)) (crs (vec a b) (vec c d)) fs z3 z1 hW (by decide)
    have o2 := wover (crs (vec a c) (vec a b)) (crs (vec a b) (vec c d)) fs z2 z1 hW (by decide)
    have zs : Sz 1226 (crs (vec a c) (vec c d) / crs (vec a b) (vec c d)) := (quo_sz hW z3 z1).mono (by decide)
    have zt : Sz 1226 (crs (vec a c) (vec a b) / crs (vec a b) (vec c d)) := (quo_sz hW z2 z1).mono (by decide)
    generalize crs (vec a c) (vec c d) / crs (vec a b) (vec c d) = s at *
    generalize crs (vec a c) (vec a b) / crs (vec a b) (vec c d) = t at *
    have i1 := wshare fs zs (by decide)
    have i2 := wshare fs zt (by decide)
    have ow := wonway fs ha hb zs (by decide) (by decide)
    refine mFn_ret (s := ⟨[.val (pcD (a, b)), .val (pcD (c, d)), .val (vcD (vec a b)), .val (vcD (vec c d)), .val (vcD (vec a c)), .val (fr (crs (vec a b) (vec c d))), .val (fr s)], fs⟩) (st.trans ?_)
    rw [seq_next (s1 := ⟨[.val (pcD (a, b)), .val (pcD (c, d)), .val (vcD (vec a b)), .val (vcD (vec c d)), .val (vcD (vec a c)), .val (fr (crs (vec a b) (vec c d))), .no], fs⟩) (ret2_e t0),
      seq_next (s1 := ⟨[.val (pcD (a, b)), .val (pcD (c, d)), .val (vcD (vec a b)), .val (vcD (vec c d)), .val (vcD (vec a c)), .val (fr (crs (vec a b) (vec c d))), .val (fr s)], fs⟩) (asg_e (cp_e (cons_e (cp_e rfl a3) (cons_e rfl rfl)) o1) rfl)]
    have n1 : dNot (dTr (dCall WIs (dCons (dV 6) dNil))) ⟨[.val (pcD (a, b)), .val (pcD (c, d)), .val (vcD (vec a b)), .val (vcD (vec c d)), .val (vcD (vec a c)), .val (fr (crs (vec a b) (vec c d))), .val (fr s)], fs⟩ = some (!decide (0 ≤ s ∧ s ≤ 1), ⟨[.val (pcD (a, b)), .val (pcD (c, d)), .val (vcD (vec a b)), .val (vcD (vec c d)), .val (vcD (vec a c)), .val (fr (crs (vec a b) (vec c d))), .val (fr s)], fs⟩) := not_e (tr_e (cp_e rfl i1))
    have n2 : dNot (dTr (dCall WIs (dCons (dCall WOv (dCons (dCall WAw (dCons (dV 4) (dCons (dV 2) dNil))) (dCons (dV 5) dNil))) dNil))) ⟨[.val (pcD (a, b)), .val (pcD (c, d)), .val (vcD (vec a b)), .val (vcD (vec c d)), .val (vcD (vec a c)), .val (fr (crs (vec a b) (vec c d))), .val (fr s)], fs⟩ = some (!decide (0 ≤ t ∧ t ≤ 1), ⟨[.val (pcD (a, b)), .val (pcD (c, d)), .val (vcD (vec a b)), .val (vcD (vec c d)), .val (vcD (vec a c)), .val (fr (crs (vec a b) (vec c d))), .val (fr s)], fs⟩) := not_e (tr_e (cp_e (cons_e (cp_e (cons_e (cp_e rfl a2) (cons_e rfl rfl)) o2) rfl) i2))
    by_cases p1 : 0 ≤ s ∧ s ≤ 1
    · rw [decide_eq_true p1] at n1
      by_cases p2 : 0 ≤ t ∧ t ≤ 1
      · rw [decide_eq_true p2] at n2
        rw [if_neg (fun z => z.elim (fun w => w p1) (fun w => w p2)), seq_next (ret2_e (or_fx n1 n2))]
        exact ret_of (tup2_e rfl (cp_e (cons_e (op_e rfl rfl rfl) (cons_e (op_e rfl rfl rfl) (cons_e rfl rfl))) ow))
      · rw [decide_eq_false p2] at n2
        rw [if_pos (.inr p2)]
        exact seq_ret ((ifS_t (or_fx n1 n2)).trans (ret_of rfl))
    · rw [decide_eq_false p1] at n1
      rw [if_pos (.inl p1)]
      exact seq_ret ((ifS_t (or_tt n1)).trans (ret_of rfl))
end T

namespace T
open PySem L2 DL
theorem G42.sz {x : Rat} (h : G42 x) : Sz 72 x := by
  obtain ⟨n, a, rfl⟩ := h
  exact Sz.of_divInt (by decide) (Nat.lt_of_le_of_lt a (by decide)) (by decide)
/-- a place of two numbers of 42ths -/
def PG (p : Pt) : Prop := G42 p.1 ∧ G42 p.2
theorem PG.sz {p : Pt} (h : PG p) : PtS 76 p := ⟨h.1.sz.mono (by decide), h.2.sz.mono (by decide)⟩
theorem al_num {na nb p q k : Int} (hq : q * k = 6) : Rat.divInt na 42 + Rat.divInt p q * (Rat.divInt nb 42 - Rat.divInt na 42) = Rat.divInt (6 * na + p * k * (nb - na)) 252 := by
  have q0 : (q : Rat) ≠ 0 := fun z => by
    have := Rat.intCast_eq_zero_iff.mp z
    rw [this] at hq
    omega
  have e : (q : Rat) * (k : Rat) = 6 := by
    have : ((q * k : Int) : Rat) = ((6 : Int) : Rat) := by rw [hq]
    rw [Rat.intCast_mul] at this
    exact this
  simp only [Rat.divInt_eq_div, Rat.intCast_add, Rat.intCast_mul, Rat.intCast_sub]
  have k1 : (p : Rat) / q = p * k / 6 := by
    have a1 := Rat.div_mul_cancel (a := (p : Rat)) q0
    have : (p / q - p * k / 6) * (q : Rat) = 0 := by grind
    rcases Rat.mul_eq_zero.mp this with z | z
    · grind
    · exact absurd z q0
  rw [k1]
  have n42 : ((42 : Int) : Rat) = 42 := rfl
  have n252 : ((252 : Int) : Rat) = 252 := rfl
  have n6 : ((6 : Int) : Rat) = 6 := rfl
  rw [n42, n252, n6]
  grind
theorem al_sz {x y : Rat} (hx : G42 x) (hy : G42 y) {p q : Int} (hp : p.natAbs ≤ 3) (hq : q = 1 ∨ q = 2 ∨ q = 3) : Sz 76 (x + Rat.divInt p q * (y - x)) := by
  obtain ⟨na, a, rfl⟩ := hx
  obtain ⟨nb, b, rfl⟩ := hy
  obtain ⟨k, hk, k1⟩ : ∃ k : Int, q * k = 6 ∧ k.natAbs ≤ 6 := by
    rcases hq with rfl | rfl | rfl
    · exact ⟨6, by decide, by decide⟩
    · exact ⟨3, by decide, by decide⟩
    · exact ⟨2, by decide, by decide⟩
  rw [al_num hk]
  refine Sz.of_divInt (by decide) ?_ (by decide)
  have h1 : (p * k).natAbs ≤ 18 := by
    rw [Int.natAbs_mul]
    exact Nat.le_trans (Nat.mul_le_mul hp k1) (by decide)
  have h2 : (p * k * (nb - na)).natAbs ≤ 18 * 2 ^ 71 := by
    rw [Int.natAbs_mul]
    exact Nat.mul_le_mul h1 (by omega)
  show (6 * na + p * k * (nb - na)).natAbs < 2 ^ 76
  omega
theorem al_pt {a b : Pt} (ha : PG a) (hb : PG b) {p q : Int} (hp : p.natAbs ≤ 3) (hq : q = 1 ∨ q = 2 ∨ q = 3) : PtS 76 (along a b (Rat.divInt p q)) := ⟨al_sz ha.1 hb.1 hp hq, al_sz ha.2 hb.2 hp hq⟩
def farT : List (Int × Int × Int) := [(300, -5, 1), (-1000000000000, 2, 1), (100000000000000000000, -3, 7)]
def altT : List (Int × Int × Int) := [(7, 0, 1), (0, 7, 1)]
def okP (z : Int × Int × Int) : Bool := decide (pX (Rat.divInt z.1 z.2.2, Rat.divInt z.2.1 z.2.2) = z.1 ∧ pY (Rat.divInt z.1 z.2.2, Rat.divInt z.2.1 z.2.2) = z.2.1 ∧ pL (Rat.divInt z.1 z.2.2, Rat.divInt z.2.1 z.2.2) = z.2.2 ∧ 0 < z.2.2 ∧ (42 : Int) % z.2.2 = 0 ∧ z.1.natAbs * (42 / z.2.2).natAbs ≤ 2 ^ 70 ∧ z.2.1.natAbs * (42 / z.2.2).natAbs ≤ 2 ^ 70)
theorem farT_ok : farT.all okP = true := by decide +kernel
theorem altT_ok : (altT.all fun z => okP z && decide (7 ≤ z.1 ∨ 7 ≤ z.2.1) && decide (z.2.2 = 1)) = true := by decide +kernel
theorem G42.of {a b : Int} (hb : 0 < b) (hd : (42 : Int) % b = 0) (h : a.natAbs * (42 / b).natAbs ≤ 2 ^ 70) : G42 (Rat.divInt a b) := by
  have hc : b * (42 / b) = 42 := Int.mul_ediv_cancel' (Int.dvd_of_emod_eq_zero hd)
  have c0 : (42 : Int) / b ≠ 0 := fun z => by rw [z] at hc; omega
  refine ⟨a * (42 / b), ?_, ?_⟩
  · rw [Int.natAbs_mul]
    exact h
  · conv => rhs; arg 2; rw [← hc]
    rw [Rat.divInt_mul_right c0]
theorem okP_of {z : Int × Int × Int} (h : okP z = true) : triD z.1 z.2.1 z.2.2 = pt (Rat.divInt z.1 z.2.2, Rat.divInt z.2.1 z.2.2) ∧ PG (Rat.divInt z.1 z.2.2, Rat.divInt z.2.1 z.2.2) := by
  obtain ⟨q1, q2, q3, q4, q5, q6, q7⟩ := of_decide_eq_true h
  refine ⟨?_, G42.of q4 q5 q6, G42.of q4 q5 q7⟩
  unfold pt
  rw [q1, q2, q3]
theorem far_tab {r : Int} (h0 : 0 ≤ r) (h1 : r < 3) : ∃ p : Pt, atI (farT.map fun z => triD z.1 z.2.1 z.2.2) r = some (pt p) ∧ PG p := by
  obtain ⟨x, hx, e⟩ := pick (xs := farT.map fun z => triD z.1 z.2.1 z.2.2) h0 h1
  obtain ⟨z, hz, rfl⟩ := List.mem_map.mp hx
  obtain ⟨a, b⟩ := okP_of (List.all_eq_true.mp farT_ok z hz)
  exact ⟨_, e.trans (congrArg some a), b⟩
theorem alt_tab {r : Int} (h0 : 0 ≤ r) (h1 : r < 2) : ∃ p : Pt, atI (altT.map fun z => triD z.1 z.2.1 z.2.2) r = some (pt p) ∧ PG p ∧ (7 ≤ p.1 ∨ 7 ≤ p.2) := by
  obtain ⟨x, hx, e⟩ := pick (xs := altT.map fun z => triD z.1 z.2.1 z.2.2) h0 h1
  obtain ⟨z, hz, rfl⟩ := List.mem_map.mp hx
  obtain ⟨k1, k3⟩ := Bool.and_eq_true_iff.mp (List.all_eq_true.mp altT_ok z hz)
  obtain ⟨k1, k2⟩ := Bool.and_eq_true_iff.mp k1
  obtain ⟨a, b⟩ := okP_of k1
  refine ⟨_, e.trans (congrArg some a), b, ?_⟩
  have d1 := of_decide_eq_true k3
  have one : ∀ n : Int, 7 ≤ n → (7 : Rat) ≤ Rat.divInt n z.2.2 := fun n hn => by
    rw [d1, Rat.divInt_eq_div]
    have k := (Rat.intCast_le_intCast (a := 7)).mpr hn
    have e := Rat.div_mul_cancel (a := (n : Rat)) (b := ((1 : Int) : Rat)) (by decide)
    have o : ((1 : Int) : Rat) = 1 := rfl
    have s : ((7 : Int) : Rat) = 7 := rfl
    rw [o] at e ⊢
    rw [s] at k
    grind
  exact (of_decide_eq_true k2).imp (one _) (one _)
noncomputable abbrev WPc : DFn := f_law_piece LDw WNr
theorem wpiece {n : Nat} {f : FS} (h : Fd3 n f) (hn : n < 2 ^ 27) : ∃ a b f', WPc [.feed] (some f) = some (pcD (a, b), some f') ∧ PG a ∧ PG b ∧ a ≠ b ∧ Fd3 (n + 12) f' := by
  obtain ⟨p, f1, e1, _, np, h1⟩ := wnearG h (by omega)
  obtain ⟨r, f2, e2, r1, r2, h2⟩ := draw3 6 h1
  have key : ∃ a f3, dIfS (dB (dOp pEq (dCall LDw (dCons (dV 0) (dCons (dC (.int 6)) dNil))) (dC (.int 0)))) (dAsg (dOp pIx (dNew (dLst (dCons (dTup (dCons (dC (.int 300)) (dCons (dUn pNeg (dC (.int 5))) (dCons (dC (.int 1)) dNil)))) (dCons (dTup (dCons (dUn pNeg (dOp pPow (dC (.int 10)) (dC (.int 12)))) (dCons (dC (.int 2)) (dCons (dC (.int 1)) dNil)))) (dCons (dTup (dCons (dOp pPow (dC (.int 10)) (dC (.int 20))) (dCons (dUn pNeg (dC (.int 3))) (dCons (dC (.int 7)) dNil)))) dNil))))) (dCall LDw (dCons (dV 0) (dCons (dC (.int 3)) dNil)))) (dPut 1)) dSkip ⟨[.val .feed, .val (pt p), .no], some f1⟩ = some (.next, ⟨[.val .feed, .val (pt a), .no], some f3⟩) ∧ PG a ∧ Fd3 (n + 6) f3 := by
    have t : dB (dOp pEq (dCall LDw (dCons (dV 0) (dCons (dC (.int 6)) dNil))) (dC (.int 0))) ⟨[.val .feed, .val (pt p), .no], some f1⟩ = some (decide (r = 0), ⟨[.val .feed, .val (pt p), .no], some f2⟩) := dB_of (op_e (cl_e rfl e2) rfl (pEq_int r 0))
    by_cases c : r = 0
    · rw [decide_eq_true c] at t
      obtain ⟨w, f3, e3, w1, w2, h3⟩ := draw3 3 h2
      obtain ⟨a, q, ga⟩ := far_tab w1 w2
      refine ⟨a, f3, ?_, ga, h3⟩
      rw [ifS_t t]
      exact asg_e (op_e (x := .lst (farT.map fun z => triD z.1 z.2.1 z.2.2)) (s1 := ⟨[.val .feed, .val (pt p), .no], some f2⟩) (newL_e rfl) (cl_e rfl e3) (ixl_e q)) rfl
    · rw [decide_eq_false c] at t
      exact ⟨p, f2, ret2_e t, np.1, h2.mono (by omega)⟩
  obtain ⟨a, f3, ea, ga, h3⟩ := key
  obtain ⟨b, f4, e4, _, nb, h4⟩ := wnearG h3 (by omega)
  have ne := pNe_pt (Ps.of ga.sz.1 ga.sz.2) (Ps.of (PG.sz nb.1).1 (PG.sz nb.1).2)
  have run : ∀ B f5, dIf (dB (dOp pNe (dL 1) (dL 2))) (dTup (dCons (dV 1) (dCons (dV 2) dNil))) (dTup (dCons (dV 1) (dCons (dOp pIx (dNew (dLst (dCons (dTup (dCons (dC (.int 7)) (dCons (dC (.int 0)) (dCons (dC (.int 1)) dNil)))) (dCons (dTup (dCons (dC (.int 0)) (dCons (dC (.int 7)) (dCons (dC (.int 1)) dNil)))) dNil)))) (dCall LDw (dCons (dV 0) (dCons (dC (.int 2)) dNil)))) dNil))) ⟨[.val .feed, .val (pt a), .val (pt b)], some f4⟩ = some (pcD (a, B), ⟨[.val .feed, .val (pt a), .val (pt b)], some f5⟩) → WPc [.feed] (some f) = some (pcD (a, B), some f5) := fun B f5 hr => by
    refine mFn_ret (s := ⟨[.val .feed, .val (pt a), .val (pt b)], some f5⟩) ?_
    show b_law_piece LDw WNr ⟨[.val .feed, .no, .no], some f⟩ = _
    unfold b_law_piece
    rw [seq_next (s1 := ⟨[.val .feed, .val (pt p), .no], some f1⟩) (asg_e (cl_e rfl e1) rfl), seq_next ea,
      seq_next (s1 := ⟨[.val .feed, .val (pt a), .val (pt b)], some f4⟩) (asg_e (cl_e rfl e4) rfl)]
    exact ret_of hr
  have t : dB (dOp pNe (dL 1) (dL 2)) ⟨[.val .feed, .val (pt a), .val (pt b)], some f4⟩ = some (!decide (a = b), ⟨[.val .feed, .val (pt a), .val (pt b)], some f4⟩) := dB_of (op_e rfl rfl ne)
  by_cases c : a = b
  · rw [decide_eq_true c] at t
    obtain ⟨w, f5, e5, w1, w2, h5⟩ := draw3 2 h4
    obtain ⟨B, q, gB, hB⟩ := alt_tab w1 w2
    refine ⟨a, B, f5, run B f5 ((if_fe t).trans (tup2_e rfl (op_e (x := .lst (altT.map fun z => triD z.1 z.2.1 z.2.2)) (s1 := ⟨[.val .feed, .val (pt a), .val (pt b)], some f4⟩) (newL_e rfl) (cl_e rfl e5) (ixl_e q)))), ga, gB, fun z => ?_, h5.mono (by omega)⟩
    rw [← z, c] at hB
    obtain ⟨_, n1, n2⟩ := nb
    rcases hB with y | y <;> grind
  · rw [decide_eq_false c] at t
    exact ⟨a, b, f4, run b f4 ((if_te t).trans (tup2_e rfl rfl)), ga, nb.1, c, h4.mono (by omega)⟩
def nE (a b e : Pt) : Prop := e.1 < 7 ∨ ∃ s : Rat, s ≠ 2 ∧ s ≠ -1 ∧ e = along a b s
def endT : List (Int × Int) := [(1, 2), (1, 3), (3, 2), (-1, 2)]
def twoT : List (Int × Int) := [(2, 1), (-1, 1)]
def okS (z : Int × Int) : Bool := decide ((Rat.divInt z.1 z.2).num = z.1 ∧ ((Rat.divInt z.1 z.2).den : Int) = z.2 ∧ z.1.natAbs ≤ 3 ∧ (z.2 = 1 ∨ z.2 = 2 ∨ z.2 = 3))
theorem endT_ok : (endT.all fun z => okS z && decide (Rat.divInt z.1 z.2 ≠ 2 ∧ Rat.divInt z.1 z.2 ≠ -1)) = true := by decide +kernel
theorem twoT_ok : (twoT.all fun z => okS z && decide (Rat.divInt z.1 z.2 = 2 ∨ Rat.divInt z.1 z.2 = -1)) = true := by decide +kernel
theorem okS_of {z : Int × Int} (h : okS z = true) : D.tup [.int z.1, .int z.2] = fr (Rat.divInt z.1 z.2) ∧ z.1.natAbs ≤ 3 ∧ (z.2 = 1 ∨ z.2 = 2 ∨ z.2 = 3) ∧ Sz 2 (Rat.divInt z.1 z.2) := by
  obtain ⟨q1, q2, q3, q4⟩ := of_decide_eq_true h
  refine ⟨?_, q3, q4, Sz.of_divInt (by omega) (show _ < _ by omega) (show _ < _ by omega)⟩
  unfold fr
  rw [q1, q2]
noncomputable abbrev WEd : DFn := f_law_end WNr WOw LDw
theorem wend {n : Nat} {f : FS} {a b : Pt} (h : Fd3 n f) (hn : n < 2 ^ 27) (ha : PG a) (hb : PG b) : ∃ e f', WEd [.feed, pcD (a, b)] (some f) = some (pt e, some f') ∧ PtS 76 e ∧ nE a b e ∧ Fd3 (n + 5) f' := by
  obtain ⟨r, f1, e1, r1, r2, h1⟩ := draw3 9 h
  have st : ∀ X : DM, dSeq (dAsg (dV 1) (dPutT 2 (dPuts1 (dPut 2) (dPuts1 (dPut 3) dPuts0)))) (dSeq (dAsg (dCall LDw (dCons (dV 0) (dCons (dC (.int 9)) dNil))) (dPut 4)) X) ⟨[.val .feed, .val (pcD (a, b)), .no, .no, .no], some f⟩ = X ⟨[.val .feed, .val (pcD (a, b)), .val (pt a), .val (pt b), .val (.int r)], some f1⟩ := fun X => by
    rw [seq_next (s1 := ⟨[.val .feed, .val (pcD (a, b)), .val (pt a), .val (pt b), .no], some f⟩) (asg_e rfl rfl), seq_next (s1 := ⟨[.val .feed, .val (pcD (a, b)), .val (pt a), .val (pt b), .val (.int r)], some f1⟩) (asg_e (cl_e rfl e1) rfl)]
  have t1 : dB (dOp (pCmp (fun i j => decide (i < j))) (dL 4) (dC (.int 2))) ⟨[.val .feed, .val (pcD (a, b)), .val (pt a), .val (pt b), .val (.int r)], some f1⟩ = some (decide (r < 2), ⟨[.val .feed, .val (pcD (a, b)), .val (pt a), .val (pt b), .val (.int r)], some f1⟩) := dB_of (op_e rfl rfl rfl)
  have t2 : dB (dOp (pCmp (fun i j => decide (i < j))) (dL 4) (dC (.int 6))) ⟨[.val .feed, .val (pcD (a, b)), .val (pt a), .val (pt b), .val (.int r)], some f1⟩ = some (decide (r < 6), ⟨[.val .feed, .val (pcD (a, b)), .val (pt a), .val (pt b), .val (.int r)], some f1⟩) := dB_of (op_e rfl rfl rfl)
  by_cases c1 : r < 2
  · rw [decide_eq_true c1] at t1
    have key : ∃ e, atI [pt a, pt b] r = some (pt e) ∧ PtS 76 e ∧ nE a b e := by
      by_cases z : r = 0
      · rw [z]
        exact ⟨a, rfl, ha.sz, .inr ⟨0, by decide, by decide, (P0 a b).symm⟩⟩
      · have : r = 1 := by omega
        rw [this]
        exact ⟨b, rfl, hb.sz, .inr ⟨1, by decide, by decide, (P1 a b).symm⟩⟩
    obtain ⟨e, q, s, ne⟩ := key
    refine ⟨e, f1, mFn_ret (s := ⟨[.val .feed, .val (pcD (a, b)), .val (pt a), .val (pt b), .val (.int r)], some f1⟩) ((st _).trans (seq_ret ((ifS_t t1).trans (ret_of (op_e rfl rfl ((ixT [pt a, pt b] r).trans q)))))), s, ne, h1.mono (by omega)⟩
  · rw [decide_eq_false c1] at t1
    by_cases c2 : r < 6
    · rw [decide_eq_true c2] at t2
      obtain ⟨x, hx, q⟩ := pick (xs := endT.map fun z => D.tup [.int z.1, .int z.2]) (r := r - 2) (by omega) (show r - 2 < 4 by omega)
      obtain ⟨z, hz, rfl⟩ := List.mem_map.mp hx
      obtain ⟨k1, k2⟩ := Bool.and_eq_true_iff.mp (List.all_eq_true.mp endT_ok z hz)
      obtain ⟨ez, z1, z2, z3⟩ := okS_of k1
      obtain ⟨n1, n2⟩ := of_decide_eq_true k2
      rw [ez] at q
      have ow := wonway (some f1) ha.sz hb.sz z3 (by decide) (by decide)
      refine ⟨along a b (Rat.divInt z.1 z.2), f1, mFn_ret (s := ⟨[.val .feed, .val (pcD (a, b)), .val (pt a), .val (pt b), .val (.int r)], some f1⟩) ((st _).trans ?_), al_pt ha hb z1 z2, .inr ⟨_, n1, n2, rfl⟩, h1.mono (by omega)⟩
      rw [seq_next (ret2_e t1)]
      exact seq_ret ((ifS_t t2).trans (ret_of (cp_e (cons_e rfl (cons_e rfl (cons_e (op_e (x := .lst (endT.map fun z => D.tup [.int z.1, .int z.2])) (s1 := ⟨[.val .feed, .val (pcD (a, b)), .val (pt a), .val (pt b), .val (.int r)], some f1⟩) (newL_e rfl) (op_e rfl rfl rfl) (ixl_e q)) rfl))) ow)))
    · rw [decide_eq_false c2] at t2
      obtain ⟨p, f2, e2, _, np, h2⟩ := wnearG h1 (by omega)
      refine ⟨p, f2, mFn_ret (s := ⟨[.val .feed, .val (pcD (a, b)), .val (pt a), .val (pt b), .val (.int r)], some f2⟩) ((st _).trans ?_), PG.sz np.1, .inl np.2.1, h2⟩
      rw [seq_next (ret2_e t1), seq_next (ret2_e t2)]
      exact ret_of (cl_e rfl e2)
noncomputable abbrev WOt : DFn := f_law_other WOw LDw WEd
theorem pt88 : triD 8 8 1 = pt (8, 8) := by
  have h : pX (8, 8) = 8 ∧ pY (8, 8) = 8 ∧ pL (8, 8) = 1 := by decide +kernel
  unfold pt
  rw [h.1, h.2.1, h.2.2]
theorem wother {n : Nat} {f : FS} {a b : Pt} (h : Fd3 n f) (hn : n < 2 ^ 26) (ha : PG a) (hb : PG b) (hab : a ≠ b) : ∃ c d f', WOt [.feed, pcD (a, b)] (some f) = some (pcD (c, d), some f') ∧ PtS 76 c ∧ PtS 76 d ∧ c ≠ d ∧ Fd3 (n + 11) f' := by
  obtain ⟨c, f1, e1, sc, nc, h1⟩ := wend h (by omega) ha hb
  obtain ⟨d, f2, e2, sd, _, h2⟩ := wend h1 (by omega) ha hb
  have eq := pEq_pt (Ps.of sc.1 sc.2) (Ps.of sd.1 sd.2)
  have s0 : dAsgF 2 (dLst (dCons (dCall WEd (dCons (dV 0) (dCons (dV 1) dNil))) (dCons (dCall WEd (dCons (dV 0) (dCons (dV 1) dNil))) dNil))) ⟨[.val .feed, .val (pcD (a, b)), .no], some f⟩ = some (.next, ⟨[.val .feed, .val (pcD (a, b)), .own [pt c, pt d]], some f2⟩) := asgO_e (s1 := ⟨[.val .feed, .val (pcD (a, b)), .no], some f2⟩) (lst2_e (cl_e rfl e1) (cl_e rfl e2)) (show 2 < 3 by decide)
  have t1 : dB (dOp pEq (dOp pIx (dL 2) (dC (.int 0))) (dOp pIx (dL 2) (dC (.int 1)))) ⟨[.val .feed, .val (pcD (a, b)), .own [pt c, pt d]], some f2⟩ = some (decide (c = d), ⟨[.val .feed, .val (pcD (a, b)), .own [pt c, pt d]], some f2⟩) := dB_of (op_e (op_e rfl rfl rfl) (op_e rfl rfl rfl) eq)
  by_cases k : c = d
  · rw [decide_eq_true k] at t1
    obtain ⟨r, f3, e3, r1, r2, h3⟩ := draw3 2 h2
    obtain ⟨x, hx, q⟩ := pick (xs := twoT.map fun z => D.tup [.int z.1, .int z.2]) r1 r2
    obtain ⟨z, hz, rfl⟩ := List.mem_map.mp hx
    obtain ⟨k1, k2⟩ := Bool.and_eq_true_iff.mp (List.all_eq_true.mp twoT_ok z hz)
    obtain ⟨ez, z1, z2, z3⟩ := okS_of k1
    have n12 := of_decide_eq_true k2
    rw [ez] at q
    have ow := wonway (some f3) ha.sz hb.sz z3 (by decide) (by decide)
    have sx := al_pt ha hb z1 z2
    have eq2 := pEq_pt (Ps.of sc.1 sc.2) (Ps.of sx.1 sx.2)
    have s1 : dIfS (dB (dOp pEq (dOp pIx (dL 2) (dC (.int 0))) (dOp pIx (dL 2) (dC (.int 1))))) (dSetI 2 1 (dCall WOw (dCons (dOp pIx (dL 1) (dC (.int 0))) (dCons (dOp pIx (dL 1) (dC (.int 1))) (dCons (dOp pIx (dNew (dLst (dCons (dTup (dCons (dC (.int 2)) (dCons (dC (.int 1)) dNil))) (dCons (dTup (dCons (dUn pNeg (dC (.int 1))) (dCons (dC (.int 1)) dNil))) dNil)))) (dCall LDw (dCons (dV 0) (dCons (dC (.int 2)) dNil)))) dNil))))) dSkip ⟨[.val .feed, .val (pcD (a, b)), .own [pt c, pt d]], some f2⟩ = some (.next, ⟨[.val .feed, .val (pcD (a, b)), .own [pt c, pt (along a b (Rat.divInt z.1 z.2))]], some f3⟩) := by
      rw [ifS_t t1]
      unfold dSetI
      rw [cl_e2 (xs := [pt a, pt b, fr (Rat.divInt z.1 z.2)]) (sl := [.val .feed, .val (pcD (a, b)), .own [pt c, pt d]]) (sl' := [.val .feed, .val (pcD (a, b)), .own [pt c, pt d]]) (cons_e (op_e rfl rfl rfl) (cons_e (op_e rfl rfl rfl) (cons_e (op_e (x := .lst (twoT.map fun z => D.tup [.int z.1, .int z.2])) (s1 := ⟨[.val .feed, .val (pcD (a, b)), .own [pt c, pt d]], some f2⟩) (newL_e rfl) (cl_e rfl e3) (ixl_e q)) rfl))) ow, Option.bind_some]
      rfl
    generalize hX : along a b (Rat.divInt z.1 z.2) = X at *
    have t2 : dB (dOp pEq (dOp pIx (dL 2) (dC (.int 0))) (dOp pIx (dL 2) (dC (.int 1)))) ⟨[.val .feed, .val (pcD (a, b)), .own [pt c, pt X]], some f3⟩ = some (decide (c = X), ⟨[.val .feed, .val (pcD (a, b)), .own [pt c, pt X]], some f3⟩) := dB_of (op_e (op_e rfl rfl rfl) (op_e rfl rfl rfl) eq2)
    by_cases k3 : c = X
    · rw [decide_eq_true k3] at t2
      have h8 : c ≠ (8, 8) := fun w => by
        rcases nc with y | ⟨s, y1, y2, y3⟩
        · rw [w] at y
          exact absurd y (by decide)
        · rw [k3, ← hX] at y3
          have := along_inj hab y3
          rcases n12 with v | v
          · exact y1 (this.symm.trans v)
          · exact y2 (this.symm.trans v)
      refine ⟨c, (8, 8), f3, mFn_ret (s := ⟨[.val .feed, .val (pcD (a, b)), .own [pt c, pt X]], some f3⟩) ?_, sc, ⟨Sz.lit (by decide), Sz.lit (by decide)⟩, h8, h3⟩
      show b_law_other WOw LDw WEd ⟨[.val .feed, .val (pcD (a, b)), .no], some f⟩ = _
      unfold b_law_other
      rw [seq_next s0, seq_next s1]
      refine seq_ret ((ifS_t t2).trans (ret_of ?_))
      show _ = some (D.tup [pt c, pt (8, 8)], _)
      rw [← pt88]
      exact tup2_e (op_e rfl rfl rfl) (tup3_e rfl rfl rfl)
    · rw [decide_eq_false k3] at t2
      refine ⟨c, X, f3, mFn_ret (s := ⟨[.val .feed, .val (pcD (a, b)), .own [pt c, pt X]], some f3⟩) ?_, sc, sx, k3, h3⟩
      show b_law_other WOw LDw WEd ⟨[.val .feed, .val (pcD (a, b)), .no], some f⟩ = _
      unfold b_law_other
      rw [seq_next s0, seq_next s1, seq_next (ret2_e t2)]
      exact ret_of (tup2_e (op_e rfl rfl rfl) (op_e rfl rfl rfl))
  · rw [decide_eq_false k] at t1
    refine ⟨c, d, f2, mFn_ret (s := ⟨[.val .feed, .val (pcD (a, b)), .own [pt c, pt d]], some f2⟩) ?_, sc, sd, k, h2.mono (by omega)⟩
    show b_law_other WOw LDw WEd ⟨[.val .feed, .val (pcD (a, b)), .no], some f⟩ = _
    unfold b_law_other
    rw [seq_next s0, seq_next (ret2_e t1), seq_next (ret2_e t1)]
    exact ret_of (tup2_e (op_e rfl rfl rfl) (op_e rfl rfl rfl))
end T

namespace T
open PySem L2 DL
theorem str_ok {x : Str} {n : Nat} (h : x.cps.toList.all (fun c => decide (c < 128)) = true) (hn : x.length ≤ n) : Ok 0 n (.str x) := (Ok.str (strOk_asc (asc_lit h))).mono (by decide) hn
theorem res_ok {a b c d : Pt} (ha : PtS 76 a) (hb : PtS 76 b) (hc : PtS 76 c) (hd : PtS 76 d) : Ok 2 40 (resD (cmn a b c d)) := by
  have oa := Ps.of ha.1 ha.2
  have ob := Ps.of hb.1 hb.2
  have oc := Ps.of hc.1 hc.2
  have od := Ps.of hd.1 hd.2
  have at_ : ∀ {k : Nat} {p : Pt}, Ps k p → k ≤ 1920 → Ok 2 40 (resD (some (p, none))) := fun h hk => (Ok.tup (OkL.cons (str_ok (x := "at") (n := 2) (by decide +kernel) (by decide +kernel)) (OkL.cons (Ok.pt h hk) OkL.nil))).mono (by decide) (by decide)
  have al_ : ∀ {p q : Pt}, Ps (76 + 76) p → Ps (76 + 76) q → Ok 2 40 (resD (some (p, some q))) := fun h h' => (Ok.tup (OkL.cons (str_ok (x := "along") (n := 5) (by decide +kernel) (by decide +kernel)) (OkL.cons (Ok.pt h) (OkL.cons (Ok.pt h') OkL.nil)))).mono (by decide) (by decide)
  have no : Ok 2 40 (resD none) := Ok.non.mono (by decide) (by decide)
  unfold cmn
  by_cases h0 : cross a b c = 0 ∧ cross a b d = 0
  · rw [if_pos h0]
    have s1 : Ps (76 + 76) (spn a b).1 ∧ Ps (76 + 76) (spn a b).2 := by unfold spn; split <;> constructor <;> assumption
    have s2 : Ps (76 + 76) (spn c d).1 ∧ Ps (76 + 76) (spn c d).2 := by unfold spn; split <;> constructor <;> assumption
    have l := lxM_ps s1.1 s2.1
    have m := lxm_ps s1.2 s2.2
    unfold alg
    by_cases q1 : lsB (lxm (spn a b).2 (spn c d).2) (lxM (spn a b).1 (spn c d).1) = true
    · rw [if_pos q1]; exact no
    · rw [if_neg q1]
      by_cases q2 : lxM (spn a b).1 (spn c d).1 = lxm (spn a b).2 (spn c d).2
      · rw [if_pos q2]; exact at_ l (by decide)
      · rw [if_neg q2]; exact al_ l m
  · rw [if_neg h0]
    by_cases p : 0 < cross a b c * cross a b d ∨ 0 < cross c d a * cross c d b
    · rw [if_pos p]; exact no
    · rw [if_neg p]
      have hW : crs (vec a b) (vec c d) ≠ 0 := fun z => by
        have e : cross a b d = cross a b c := by
          have : cross a b d - cross a b c = crs (vec a b) (vec c d) := by unfold cross crs vec; grind
          grind
        rw [e] at p h0
        have n : cross a b c ≠ 0 := fun y => h0 ⟨y, y⟩
        exact p (.inl (sq_pos' n))
      have x := xpt_sz oa ob oc od hW
      exact at_ (Ps.of x.1 x.2) (by decide)
noncomputable abbrev C54 : DM := l1_LAWk54 FCm WCm LDw WOt WPc f_law_new_tape
noncomputable abbrev C54i : DM := l2_LAWk54 FCm WCm LDw WOt WPc f_law_new_tape
theorem look54 {a b c d : Pt} (ha : PtS 76 a) (hb : PtS 76 b) (hc : PtS 76 c) (hd : PtS 76 d) {R : Res} (e : cmn a b c d = R) (ok : Ok 2 40 (resD R)) (x0 x2 x3 x4 : Sl) (f : FS) : C54i ⟨[x0, .val .feed, x2, x3, x4, .val (resD R), .val (pcD (a, b)), .val (pcD (c, d))], some f⟩ = some (.next, ⟨[x0, .val .feed, x2, x3, x4, .val (resD R), .val (pcD (a, b)), .val (pcD (c, d))], some f⟩) := by
  have k := pcommon (some f) (Ps.of ha.1 ha.2) (Ps.of hb.1 hb.2) (Ps.of hc.1 hc.2) (Ps.of hd.1 hd.2) (by decide)
  rw [e] at k
  have rp := ok.repr (by decide) (by decide)
  generalize resD R = RD at *
  show l2_LAWk54 FCm WCm LDw WOt WPc f_law_new_tape _ = _
  unfold l2_LAWk54
  exact ret2_e (dB_of (op_e (cb1_e (p := pRepr) (cp_e rfl k) rp) (cb1_e (p := pRepr) rfl rp) (strNe_self _)))
theorem lstS {f : DA} {s s1 : DS} {ds : List D} (h : f s = some (ds, s1)) (hz : ds.length ≤ 100) : dLst f s = some (ds, s1) := by
  unfold dLst
  rw [h, Option.bind_some, if_pos (lo_sz hz)]
theorem rev_pc {i : Nat} {s : DS} {a b : Pt} (h : s.sl[i]? = some (.val (pcD (a, b)))) : dRev (dL i) (dUn pNeg (dC (.int 1))) s = some (pcD (b, a), s) := by
  have e : dL i s = some (pcD (a, b), s) := by
    unfold dL
    rw [h]
  unfold dRev
  rw [e, Option.bind_some]
  rfl
theorem turn54 {n : Nat} {f : FS} (h : Fd3 n f) (hn : n < 2 ^ 24) (x0 x2 x3 x4 x5 x6 x7 : Sl) : ∃ y3 y4 y5 y6 y7 f', C54 ⟨[x0, .val .feed, x2, x3, x4, x5, x6, x7], some f⟩ = some (.next, ⟨[x0, .val .feed, x2, y3, y4, y5, y6, y7], some f'⟩) ∧ Fd3 (n + 24) f' := by
  obtain ⟨a, b, f1, e1, ga, gb, hab, h1⟩ := wpiece h (by omega)
  obtain ⟨r, f2, e2, r1, r2, h2⟩ := draw3 12 h1
  have ha := ga.sz
  have hb := gb.sz
  have key : ∃ c d f3, dAsg (dIf (dB (dOp pEq (dCall LDw (dCons (dV 1) (dCons (dC (.int 12)) dNil))) (dC (.int 0)))) (dV 3) (dCall WOt (dCons (dV 1) (dCons (dV 3) dNil)))) (dPut 4) ⟨[x0, .val .feed, x2, .val (pcD (a, b)), x4, x5, x6, x7], some f1⟩ = some (.next, ⟨[x0, .val .feed, x2, .val (pcD (a, b)), .val (pcD (c, d)), x5, x6, x7], some f3⟩) ∧ PtS 76 c ∧ PtS 76 d ∧ c ≠ d ∧ Fd3 (n + 24) f3 := by
    have t : dB (dOp pEq (dCall LDw (dCons (dV 1) (dCons (dC (.int 12)) dNil))) (dC (.int 0))) ⟨[x0, .val .feed, x2, .val (pcD (a, b)), x4, x5, x6, x7], some f1⟩ = some (decide (r = 0), ⟨[x0, .val .feed, x2, .val (pcD (a, b)), x4, x5, x6, x7], some f2⟩) := dB_of (op_e (cl_e rfl e2) rfl (pEq_int r 0))
    by_cases c : r = 0
    · rw [decide_eq_true c] at t
      exact ⟨a, b, f2, asg_e ((if_te t).trans rfl) rfl, ha, hb, hab, h2.mono (by omega)⟩
    · rw [decide_eq_false c] at t
      obtain ⟨c, d, f3, e3, sc, sd, ne, h3⟩ := wother h2 (by omega) ga gb hab
      exact ⟨c, d, f3, asg_e ((if_fe t).trans (cl_e rfl e3)) rfl, sc, sd, ne, h3.mono (by omega)⟩
  obtain ⟨c, d, f3, s2, hc, hd, hcd, h3⟩ := key
  have wc := wcommon2 (some f3) ha hb hc hd hab
  rw [law_cmn hab hcd] at wc
  obtain ⟨q1, q2, q3⟩ := cmn_four hab hcd
  have ok := res_ok ha hb hc hd
  have i1 := look54 ha hb hc hd rfl ok x0 x2 (.val (pcD (a, b))) (.val (pcD (c, d))) f3
  have i2 := look54 hc hd ha hb q1 ok x0 x2 (.val (pcD (a, b))) (.val (pcD (c, d))) f3
  have i3 := look54 hb ha hc hd q2 ok x0 x2 (.val (pcD (a, b))) (.val (pcD (c, d))) f3
  have i4 := look54 hd hc hb ha q3 ok x0 x2 (.val (pcD (a, b))) (.val (pcD (c, d))) f3
  generalize resD (cmn a b c d) = R at *
  have it : dNew (dLst (dCons (dTup (dCons (dV 3) (dCons (dV 4) dNil))) (dCons (dTup (dCons (dV 4) (dCons (dV 3) dNil))) (dCons (dTup (dCons (dRev (dL 3) (dUn pNeg (dC (.int 1)))) (dCons (dV 4) dNil))) (dCons (dTup (dCons (dRev (dL 4) (dUn pNeg (dC (.int 1)))) (dCons (dRev (dL 3) (dUn pNeg (dC (.int 1)))) dNil))) dNil))))) ⟨[x0, .val .feed, x2, .val (pcD (a, b)), .val (pcD (c, d)), .val R, x6, x7], some f3⟩ = some (.lst [.tup [pcD (a, b), pcD (c, d)], .tup [pcD (c, d), pcD (a, b)], .tup [pcD (b, a), pcD (c, d)], .tup [pcD (d, c), pcD (b, a)]], ⟨[x0, .val .feed, x2, .val (pcD (a, b)), .val (pcD (c, d)), .val R, x6, x7], some f3⟩) :=
    newL_e (lstS (cons_e (tup2_e rfl rfl) (cons_e (tup2_e rfl rfl) (cons_e (tup2_e (rev_pc rfl) rfl) (cons_e (tup2_e (rev_pc rfl) (rev_pc rfl)) rfl)))) (show 4 ≤ 100 by decide))
  have lp : dForL (dPutT 2 (dPuts1 (dPut 6) (dPuts1 (dPut 7) dPuts0))) C54i [.tup [pcD (a, b), pcD (c, d)], .tup [pcD (c, d), pcD (a, b)], .tup [pcD (b, a), pcD (c, d)], .tup [pcD (d, c), pcD (b, a)]] ⟨[x0, .val .feed, x2, .val (pcD (a, b)), .val (pcD (c, d)), .val R, x6, x7], some f3⟩ = some (.next, ⟨[x0, .val .feed, x2, .val (pcD (a, b)), .val (pcD (c, d)), .val R, .val (pcD (d, c)), .val (pcD (b, a))], some f3⟩) := by
    rw [forL_go (s1 := ⟨[x0, .val .feed, x2, .val (pcD (a, b)), .val (pcD (c, d)), .val R, .val (pcD (a, b)), .val (pcD (c, d))], some f3⟩) rfl i1,
      forL_go (s1 := ⟨[x0, .val .feed, x2, .val (pcD (a, b)), .val (pcD (c, d)), .val R, .val (pcD (c, d)), .val (pcD (a, b))], some f3⟩) rfl i2,
      forL_go (s1 := ⟨[x0, .val .feed, x2, .val (pcD (a, b)), .val (pcD (c, d)), .val R, .val (pcD (b, a)), .val (pcD (c, d))], some f3⟩) rfl i3,
      forL_go (s1 := ⟨[x0, .val .feed, x2, .val (pcD (a, b)), .val (pcD (c, d)), .val R, .val (pcD (d, c)), .val (pcD (b, a))], some f3⟩) rfl i4]
    rfl
  refine ⟨.val (pcD (a, b)), .val (pcD (c, d)), .val R, .val (pcD (d, c)), .val (pcD (b, a)), f3, ?_, h3⟩
  show l1_LAWk54 FCm WCm LDw WOt WPc f_law_new_tape _ = _
  unfold l1_LAWk54
  rw [seq_next (s1 := ⟨[x0, .val .feed, x2, .val (pcD (a, b)), x4, x5, x6, x7], some f1⟩) (asg_e (cl_e rfl e1) rfl), seq_next s2,
    seq_next (s1 := ⟨[x0, .val .feed, x2, .val (pcD (a, b)), .val (pcD (c, d)), .val R, x6, x7], some f3⟩) (asg_e (cl_e rfl wc) rfl)]
  exact (for_lst it).trans lp
noncomputable abbrev whole54 : DFn := f_LAWk54 FCm WCm LDw WOt WPc f_law_new_tape
theorem math (ns : List Int) (hl : ns.length ≤ 63) : ∃ fs', whole54 [.scr ns] none = some (.bl true, fs') := by
  have e0 := tape0 ns
  obtain ⟨s', lp, x2, x3, x4, x5, x6, x7, f', rfl, I⟩ := forL_inv (t := dPut 2) (b := C54) (fun i s => ∃ x2 x3 x4 x5 x6 x7 f', s = ⟨[.val (.scr ns), .val .feed, x2, x3, x4, x5, x6, x7], some f'⟩ ∧ Fd3 (24 * i) f') (ups 0 16) 0 ⟨[.val (.scr ns), .val .feed, .no, .no, .no, .no, .no, .no], some ⟨ns, 0, 0, 0, 1⟩⟩
    ⟨.no, .no, .no, .no, .no, .no, _, rfl, Fd3.zero ns⟩ (by
      rintro i d s hd ⟨x2, x3, x4, x5, x6, x7, f', rfl, I⟩
      obtain ⟨rfl, hi⟩ := ups_at hd
      rw [Nat.zero_add] at *
      obtain ⟨y3, y4, y5, y6, y7, f'', e, I'⟩ := turn54 I (by omega) (.val (.scr ns)) (.val (.int ((0 : Int) + i))) x3 x4 x5 x6 x7
      exact ⟨⟨[.val (.scr ns), .val .feed, .val (.int ((0 : Int) + i)), x3, x4, x5, x6, x7], some f'⟩, _, rfl, .inl e, _, y3, y4, y5, y6, y7, f'', rfl, I'.mono (by omega)⟩)
  refine ⟨some f', mFn_ret (s := ⟨[.val (.scr ns), .val .feed, x2, x3, x4, x5, x6, x7], some f'⟩) ?_⟩
  show b_LAWk54 FCm WCm LDw WOt WPc f_law_new_tape ⟨[.val (.scr ns), .no, .no, .no, .no, .no, .no, .no], none⟩ = _
  unfold b_LAWk54
  rw [seq_next (s1 := ⟨[.val (.scr ns), .val .feed, .no, .no, .no, .no, .no, .no], some ⟨ns, 0, 0, 0, 1⟩⟩) (asg_e (cl_e rfl e0) rfl),
    seq_next ((forR_of (xs := [.int 16]) (s1 := ⟨[.val (.scr ns), .val .feed, .no, .no, .no, .no, .no, .no], some ⟨ns, 0, 0, 0, 1⟩⟩) rfl (rng8 (n := 16) (by decide))).trans lp)]
  exact ret_of rfl
end T

namespace T
open PySem PySem.Spec L2 DL
def top (i : Nat) : Stmt := PySem.Challenge.pw_widelines_k54_what_pieces_have_in_common.main.body.getD i (.Pass ⟨0, 0, 0, 0⟩)
abbrev s_law_new_tape : Stmt := top 17
theorem sc_law_new_tape : FnScope ["_law_script"] ["_law_script"] (defScope s_law_new_tape) := ⟨rfl, rfl, rfl, by decide +kernel, rfl, by decide +kernel, by decide +kernel⟩
set_option maxHeartbeats 4000000 in
theorem ok_law_new_tape {P : Program} {w : World} {K : PySem.W.Frag} {mg : Str → Option Value} {base : Heap} {f : Addr} {fd : FuncData} (B : Blt mg) (F : GF K mg "_law_new_tape" s_law_new_tape f fd) : Cal P w K mg base 1 "_law_new_tape" ["_law_script"] (f_law_new_tape) :=
  cal_g F (fun _ _ _ _ _ _ => on1 fun _ => rfl) sc_law_new_tape fun cdv A outer s H E g hr =>
    have nd := sc_law_new_tape.nd
    (ss_one (s_ret (eo_tape (pv 0))))
abbrev s_law_divisor : Stmt := top 19
theorem sc_law_divisor : FnScope ["_law_one", "_law_other_here"] ["_law_one", "_law_other_here"] (defScope s_law_divisor) := ⟨rfl, rfl, rfl, by decide +kernel, rfl, by decide +kernel, by decide +kernel⟩
set_option maxHeartbeats 4000000 in
theorem ok_law_divisor {P : Program} {w : World} {K : PySem.W.Frag} {mg : Str → Option Value} {base : Heap} {f : Addr} {fd : FuncData} (B : Blt mg) (F : GF K mg "_law_divisor" s_law_divisor f fd) : Cal P w K mg base 1 "_law_divisor" ["_law_one", "_law_other_here"] (f_law_divisor) :=
  cal_g F (fun _ _ _ _ _ _ => on2 fun _ _ => rfl) sc_law_divisor fun cdv A outer s H E g hr =>
    have nd := sc_law_divisor.nd
    (ss_cons (s_par (i := 0) (j := 1) rfl nd rfl rfl (by decide) rfl rfl (ac (eo_cb call_abs r_abs (by rfl) B.abs boot_abs' (bc (bo_var (pv 0)) bao_nil)) (ac (eo_cb call_abs r_abs (by rfl) B.abs boot_abs' (bc (bo_var (pv 1)) bao_nil)) ao_nil)) rfl) (ss_cons (s_while PassesOwn.never (to_cmp op_gt (r_cmp (fun i j => decide (j < i))) (bo_var (pv 1)) (EO.b eo_int) (nomark _)) (ss_one (s_par (i := 0) (j := 1) rfl nd rfl rfl (by decide) rfl rfl (ac (eo_var (pv 1)) (ac (eo_op op_modN r_mod (bo_var (pv 0)) (bo_var (pv 1))) ao_nil)) rfl))) (ss_one (s_ret (eo_var (pv 0))))))
abbrev s_law_low : Stmt := top 20
theorem sc_law_low : FnScope ["_law_top", "_law_bottom", "_law_shared"] ["_law_top", "_law_bottom"] (defScope s_law_low) := ⟨rfl, rfl, rfl, by decide +kernel, rfl, by decide +kernel, by decide +kernel⟩
set_option maxHeartbeats 4000000 in
theorem ok_law_low {P : Program} {w : World} {K : PySem.W.Frag} {mg : Str → Option Value} {base : Heap} {m_law_divisor : DFn} (C_law_divisor : Cal P w K mg base 1 "_law_divisor" ["_law_one", "_law_other_here"] m_law_divisor) {f : Addr} {fd : FuncData} (B : Blt mg) (F : GF K mg "_law_low" s_law_low f fd) : Cal P w K mg base 2 "_law_low" ["_law_top", "_law_bottom"] (f_law_low m_law_divisor) :=
  cal_g F (fun _ _ _ _ _ _ => on2 fun _ _ => rfl) sc_law_low fun cdv A outer s H E g hr =>
    have nd := sc_law_low.nd
    (ss_cons (s_set (i := 2) nd rfl (by first | exact Or.inl rfl | exact Or.inr rfl) (eo_calC C_law_divisor _ hr (by decide) (by rfl) (ac (eo_var (pv 0)) (ac (eo_var (pv 1)) ao_nil)) (dCons_len (dCons_len dNil_len)))) (ss_cons (s_if (to_cmp op_lt (r_cmp (fun i j => decide (i < j))) (bo_var (pv 1)) (EO.b eo_int) (nomark _)) (ss_one (s_set (i := 2) nd rfl (by first | exact Or.inl rfl | exact Or.inr rfl) (eo_un un_neg r_neg (bo_var (pv 2))))) ss_nil) (ss_one (s_ret (eo_tup (ac (eo_op op_fdivB r_div (bo_var (pv 0)) (bo_var (pv 2))) (ac (eo_op op_fdivB r_div (bo_var (pv 1)) (bo_var (pv 2))) ao_nil)))))))
abbrev s_law_spot : Stmt := top 26
theorem sc_law_spot : FnScope ["_law_x", "_law_y", "_law_some", "_law_shared"] ["_law_x", "_law_y"] (defScope s_law_spot) := ⟨rfl, rfl, rfl, by decide +kernel, rfl, by decide +kernel, by decide +kernel⟩
set_option maxHeartbeats 4000000 in
theorem ok_law_spot {P : Program} {w : World} {K : PySem.W.Frag} {mg : Str → Option Value} {base : Heap} {m_law_divisor : DFn} (C_law_divisor : Cal P w K mg base 1 "_law_divisor" ["_law_one", "_law_other_here"] m_law_divisor) {f : Addr} {fd : FuncData} (B : Blt mg) (F : GF K mg "_law_spot" s_law_spot f fd) : Cal P w K mg base 2 "_law_spot" ["_law_x", "_law_y"] (f_law_spot m_law_divisor) :=
  cal_g F (fun _ _ _ _ _ _ => on2 fun _ _ => rfl) sc_law_spot fun cdv A outer s H E g hr =>
    have nd := sc_law_spot.nd
    (ss_cons (s_set (i := 2) nd rfl (by first | exact Or.inl rfl | exact Or.inr rfl) (eo_tup (ac (eo_op op_mulD r_mul (EO.b (eo_ix ix_D r_ix (bo_var (pv 0)) (EO.b eo_int) (fun _ _ => rfl))) (EO.b (eo_ix ix_D r_ix (bo_var (pv 1)) (EO.b eo_int) (fun _ _ => rfl)))) (ac (eo_op op_mulD r_mul (EO.b (eo_ix ix_D r_ix (bo_var (pv 1)) (EO.b eo_int) (fun _ _ => rfl))) (EO.b (eo_ix ix_D r_ix (bo_var (pv 0)) (EO.b eo_int) (fun _ _ => rfl)))) (ac (eo_op op_mulD r_mul (EO.b (eo_ix ix_D r_ix (bo_var (pv 0)) (EO.b eo_int) (fun _ _ => rfl))) (EO.b (eo_ix ix_D r_ix (bo_var (pv 1)) (EO.b eo_int) (fun _ _ => rfl)))) ao_nil))))) (ss_cons (s_set (i := 3) nd rfl (by first | exact Or.inl rfl | exact Or.inr rfl) (eo_calC C_law_divisor _ hr (by decide) (by rfl) (ac (eo_calC C_law_divisor _ hr (by decide) (by rfl) (ac (eo_ix ix_D r_ix (bo_var (pv 2)) (EO.b eo_int) (fun _ _ => rfl)) (ac (eo_ix ix_D r_ix (bo_var (pv 2)) (EO.b eo_int) (fun _ _ => rfl)) ao_nil)) (dCons_len (dCons_len dNil_len))) (ac (eo_ix ix_D r_ix (bo_var (pv 2)) (EO.b eo_int) (fun _ _ => rfl)) ao_nil)) (dCons_len (dCons_len dNil_len)))) (ss_one (s_ret (eo_cty call_tuple_of r_tuple (by rfl) B.tuple boot_tuple' (bc (EO.b (FO.v (fo_comp1 (N' := ["_law_one", "_law_shared"]) (idx := [3]) rfl (compOk1 (by rfl) (.cons rfl .nil) (by decide +kernel) rfl (by decide +kernel) (by rfl) (.cons rfl (by first | exact Or.inl rfl | exact Or.inr rfl) (by first | exact Or.inl rfl | exact Or.inr rfl) .nil)) (io_seq (eo_var (pv 2))) (fun _ _ _ _ => pg_name (i := 0) (show List.Nodup (["_law_one", "_law_shared"] : List Str) by decide +kernel) rfl (Or.inl rfl)) (fun _ _ _ _ _ => ifs_nil) (fun _ _ _ _ _ => (eo_op op_fdivB r_div (bo_var (pv 0)) (bo_var (pv 1))))))) bao_nil))))))
abbrev s_law_draw : Stmt := top 18
theorem sc_law_draw : FnScope ["_law_tape", "_law_many", "_law_found", "_law_spot_here", "_law_cell", "_law_seed"] ["_law_tape", "_law_many"] (defScope s_law_draw) := ⟨rfl, rfl, rfl, by decide +kernel, rfl, by decide +kernel, by decide +kernel⟩
set_option maxHeartbeats 4000000 in
theorem ok_law_draw {P : Program} {w : World} {K : PySem.W.Frag} {mg : Str → Option Value} {base : Heap} {f : Addr} {fd : FuncData} (B : Blt mg) (F : GF K mg "_law_draw" s_law_draw f fd) : Cal P w K mg base 1 "_law_draw" ["_law_tape", "_law_many"] (f_law_draw__2) :=
  cal_g F (fun _ _ _ _ _ _ => on2 fun _ _ => rfl) sc_law_draw fun cdv A outer s H E g hr =>
    have nd := sc_law_draw.nd
    (ss_cons (s_if (to_cmp op_gt (r_cmp (fun i j => decide (j < i))) (EO.b (eo_tget (pv 0))) (EO.b eo_int) (nomark _)) (ss_cons (s_set (i := 2) nd rfl (by first | exact Or.inl rfl | exact Or.inr rfl) (eo_op op_modN r_mod (EO.b (eo_tget (pv 0))) (bo_var (pv 1)))) (ss_cons (s_tput (pv 0) (eo_op op_fdivB r_div (EO.b (eo_tget (pv 0))) (bo_var (pv 1)))) (ss_one (s_ret (eo_var (pv 2)))))) ss_nil) (ss_cons (s_set (i := 3) nd rfl (by first | exact Or.inl rfl | exact Or.inr rfl) (eo_tget (pv 0))) (ss_cons (s_tput (pv 0) (eo_op op_addD r_add (bo_var (pv 3)) (EO.b eo_int))) (ss_cons (s_set (i := 4) nd rfl (by first | exact Or.inl rfl | exact Or.inr rfl) eo_int) (ss_cons (s_if (to_cmp op_gt (r_cmp (fun i j => decide (j < i))) (EO.b (eo_cb c_len r_len (by rfl) B.len boot_len' (bc (EO.b (eo_tget (pv 0))) bao_nil))) (EO.b eo_int) (nomark _)) (ss_one (s_set (i := 4) nd rfl (by first | exact Or.inl rfl | exact Or.inr rfl) (eo_ix ix_D r_ix (EO.b (eo_tget (pv 0))) (EO.b (eo_op op_modN r_mod (bo_var (pv 3)) (EO.b (eo_cb c_len r_len (by rfl) B.len boot_len' (bc (EO.b (eo_tget (pv 0))) bao_nil))))) (fun _ _ => rfl)))) ss_nil) (ss_cons (s_if (WO.t (wo_and (to_cmp op_ge (r_cmp (fun i j => decide (j ≤ i))) (bo_var (pv 4)) (EO.b (eo_op op_pow r_pow (EO.b eo_int) (EO.b eo_int))) (nomark _)) (wo_and1 (to_cmp op_lt (r_cmp (fun i j => decide (i < j))) (bo_var (pv 3)) (EO.b (eo_cb c_len r_len (by rfl) B.len boot_len' (bc (EO.b (eo_tget (pv 0))) bao_nil))) (nomark _))))) (ss_cons (s_tput (pv 0) (eo_op op_fdivB r_div (bo_var (pv 4)) (bo_var (pv 1)))) (ss_one (s_ret (eo_op op_modN r_mod (bo_var (pv 4)) (bo_var (pv 1)))))) ss_nil) (ss_cons (s_set (i := 5) nd rfl (by first | exact Or.inl rfl | exact Or.inr rfl) (eo_op op_modN r_mod (EO.b (eo_op op_mulD r_mul (EO.b (eo_op op_addD r_add (EO.b (eo_op op_addD r_add (EO.b (eo_op op_modN r_mod (bo_var (pv 4)) (EO.b eo_int))) (EO.b (eo_op op_mulD r_mul (EO.b (eo_op op_mulD r_mul (EO.b eo_int) (bo_var (pv 3)))) (bo_var (pv 3)))))) (EO.b eo_int))) (EO.b eo_int))) (EO.b eo_int))) (ss_one (s_ret (eo_op op_modN r_mod (EO.b (eo_op op_fdivB r_div (EO.b (eo_op op_modN r_mod (EO.b (eo_op op_mulD r_mul (EO.b (eo_op op_modN r_mod (EO.b (eo_op op_addD r_add (EO.b (eo_op op_mulD r_mul (bo_var (pv 5)) (EO.b eo_int))) (EO.b (eo_op op_mulD r_mul (bo_var (pv 3)) (EO.b eo_int))))) (EO.b eo_int))) (EO.b eo_int))) (EO.b eo_int))) (EO.b eo_int))) (bo_var (pv 1))))))))))))
abbrev s_law_near : Stmt := top 28
theorem sc_law_near : FnScope ["_law_tape", "_law_x"] ["_law_tape"] (defScope s_law_near) := ⟨rfl, rfl, rfl, by decide +kernel, rfl, by decide +kernel, by decide +kernel⟩
set_option maxHeartbeats 4000000 in
theorem ok_law_near {P : Program} {w : World} {K : PySem.W.Frag} {mg : Str → Option Value} {base : Heap} {m_law_spot : DFn} {m_law_low : DFn} {m_law_draw : DFn} (C_law_spot : Cal P w K mg base 2 "_law_spot" ["_law_x", "_law_y"] m_law_spot) (C_law_low : Cal P w K mg base 2 "_law_low" ["_law_top", "_law_bottom"] m_law_low) (C_law_draw : Cal P w K mg base 1 "_law_draw" ["_law_tape", "_law_many"] m_law_draw) {f : Addr} {fd : FuncData} (B : Blt mg) (F : GF K mg "_law_near" s_law_near f fd) : Cal P w K mg base 3 "_law_near" ["_law_tape"] (f_law_near m_law_spot m_law_low m_law_draw) :=
  cal_g F (fun _ _ _ _ _ _ => on1 fun _ => rfl) sc_law_near fun cdv A outer s H E g hr =>
    have nd := sc_law_near.nd
    (ss_cons (s_set (i := 1) nd rfl (by first | exact Or.inl rfl | exact Or.inr rfl) (eo_calC C_law_low _ hr (by decide) (by rfl) (ac (eo_op op_sub r_sub (EO.b (eo_calC C_law_draw _ hr (by decide) (by rfl) (ac (eo_var (pv 0)) (ac eo_int ao_nil)) (dCons_len (dCons_len dNil_len)))) (EO.b eo_int)) (ac (eo_ix ix_D r_ix (EO.b (FO.v (fo_lst (ac eo_int (ac eo_int (ac eo_int (ac eo_int ao_nil))))))) (EO.b (eo_calC C_law_draw _ hr (by decide) (by rfl) (ac (eo_var (pv 0)) (ac eo_int ao_nil)) (dCons_len (dCons_len dNil_len)))) (fun _ _ => rfl)) ao_nil)) (dCons_len (dCons_len dNil_len)))) (ss_one (s_ret (eo_calC C_law_spot _ hr (by decide) (by rfl) (ac (eo_var (pv 1)) (ac (eo_calC C_law_low _ hr (by decide) (by rfl) (ac (eo_op op_sub r_sub (EO.b (eo_calC C_law_draw _ hr (by decide) (by rfl) (ac (eo_var (pv 0)) (ac eo_int ao_nil)) (dCons_len (dCons_len dNil_len)))) (EO.b eo_int)) (ac (eo_ix ix_D r_ix (EO.b (FO.v (fo_lst (ac eo_int (ac eo_int (ac eo_int (ac eo_int ao_nil))))))) (EO.b (eo_calC C_law_draw _ hr (by decide) (by rfl) (ac (eo_var (pv 0)) (ac eo_int ao_nil)) (dCons_len (dCons_len dNil_len)))) (fun _ _ => rfl)) ao_nil)) (dCons_len (dCons_len dNil_len))) ao_nil)) (dCons_len (dCons_len dNil_len))))))
abbrev s_law_piece : Stmt := top 36
theorem sc_law_piece : FnScope ["_law_tape", "_law_a", "_law_b"] ["_law_tape"] (defScope s_law_piece) := ⟨rfl, rfl, rfl, by decide +kernel, rfl, by decide +kernel, by decide +kernel⟩
set_option maxHeartbeats 4000000 in
theorem ok_law_piece {P : Program} {w : World} {K : PySem.W.Frag} {mg : Str → Option Value} {base : Heap} {m_law_draw : DFn} {m_law_near : DFn} (C_law_draw : Cal P w K mg base 1 "_law_draw" ["_law_tape", "_law_many"] m_law_draw) (C_law_near : Cal P w K mg base 3 "_law_near" ["_law_tape"] m_law_near) {f : Addr} {fd : FuncData} (B : Blt mg) (F : GF K mg "_law_piece" s_law_piece f fd) : Cal P w K mg base 4 "_law_piece" ["_law_tape"] (f_law_piece m_law_draw m_law_near) :=
  cal_g F (fun _ _ _ _ _ _ => on1 fun _ => rfl) sc_law_piece fun cdv A outer s H E g hr =>
    have nd := sc_law_piece.nd
    (ss_cons (s_set (i := 1) nd rfl (by first | exact Or.inl rfl | exact Or.inr rfl) (eo_calC C_law_near _ hr (by decide) (by rfl) (ac (eo_var (pv 0)) ao_nil) (dCons_len dNil_len))) (ss_cons (s_if (to_cmp (op_eqD (u64 hr)) r_eq (EO.b (eo_calC C_law_draw _ hr (by decide) (by rfl) (ac (eo_var (pv 0)) (ac eo_int ao_nil)) (dCons_len (dCons_len dNil_len)))) (EO.b eo_int) (nomark _)) (ss_one (s_set (i := 1) nd rfl (by first | exact Or.inl rfl | exact Or.inr rfl) (eo_ix ix_D r_ix (EO.b (FO.v (fo_lst (ac (eo_tup (ac eo_int (ac (eo_un un_neg r_neg (EO.b eo_int)) (ac eo_int ao_nil)))) (ac (eo_tup (ac (eo_un un_neg r_neg (EO.b (eo_op op_pow r_pow (EO.b eo_int) (EO.b eo_int)))) (ac eo_int (ac eo_int ao_nil)))) (ac (eo_tup (ac (eo_op op_pow r_pow (EO.b eo_int) (EO.b eo_int)) (ac (eo_un un_neg r_neg (EO.b eo_int)) (ac eo_int ao_nil)))) ao_nil)))))) (EO.b (eo_calC C_law_draw _ hr (by decide) (by rfl) (ac (eo_var (pv 0)) (ac eo_int ao_nil)) (dCons_len (dCons_len dNil_len)))) (fun _ _ => rfl)))) ss_nil) (ss_cons (s_set (i := 2) nd rfl (by first | exact Or.inl rfl | exact Or.inr rfl) (eo_calC C_law_near _ hr (by decide) (by rfl) (ac (eo_var (pv 0)) ao_nil) (dCons_len dNil_len))) (ss_one (s_ret (eo_if (to_cmp (op_neD (u64 hr)) r_ne (bo_var (pv 1)) (bo_var (pv 2)) (nomark _)) (eo_tup (ac (eo_var (pv 1)) (ac (eo_var (pv 2)) ao_nil))) (eo_tup (ac (eo_var (pv 1)) (ac (eo_ix ix_D r_ix (EO.b (FO.v (fo_lst (ac (eo_tup (ac eo_int (ac eo_int (ac eo_int ao_nil)))) (ac (eo_tup (ac eo_int (ac eo_int (ac eo_int ao_nil)))) ao_nil))))) (EO.b (eo_calC C_law_draw _ hr (by decide) (by rfl) (ac (eo_var (pv 0)) (ac eo_int ao_nil)) (dCons_len (dCons_len dNil_len)))) (fun _ _ => rfl)) ao_nil)))))))))
abbrev s_law_xy : Stmt := top 27
theorem sc_law_xy : FnScope ["_law_spot_here"] ["_law_spot_here"] (defScope s_law_xy) := ⟨rfl, rfl, rfl, by decide +kernel, rfl, by decide +kernel, by decide +kernel⟩
set_option maxHeartbeats 4000000 in
theorem ok_law_xy {P : Program} {w : World} {K : PySem.W.Frag} {mg : Str → Option Value} {base : Heap} {m_law_low : DFn} (C_law_low : Cal P w K mg base 2 "_law_low" ["_law_top", "_law_bottom"] m_law_low) {f : Addr} {fd : FuncData} (B : Blt mg) (F : GF K mg "_law_xy" s_law_xy f fd) : Cal P w K mg base 3 "_law_xy" ["_law_spot_here"] (f_law_xy__2 m_law_low) :=
  cal_g F (fun _ _ _ _ _ _ => on1 fun _ => rfl) sc_law_xy fun cdv A outer s H E g hr =>
    have nd := sc_law_xy.nd
    (ss_one (s_ret (eo_tup (ac (eo_calC C_law_low _ hr (by decide) (by rfl) (ac (eo_ix ix_D r_ix (bo_var (pv 0)) (EO.b eo_int) (fun _ _ => rfl)) (ac (eo_ix ix_D r_ix (bo_var (pv 0)) (EO.b eo_int) (fun _ _ => rfl)) ao_nil)) (dCons_len (dCons_len dNil_len))) (ac (eo_calC C_law_low _ hr (by decide) (by rfl) (ac (eo_ix ix_D r_ix (bo_var (pv 0)) (EO.b eo_int) (fun _ _ => rfl)) (ac (eo_ix ix_D r_ix (bo_var (pv 0)) (EO.b eo_int) (fun _ _ => rfl)) ao_nil)) (dCons_len (dCons_len dNil_len))) ao_nil)))))
abbrev s_law_minus : Stmt := top 22
theorem sc_law_minus : FnScope ["_law_one", "_law_other_here"] ["_law_one", "_law_other_here"] (defScope s_law_minus) := ⟨rfl, rfl, rfl, by decide +kernel, rfl, by decide +kernel, by decide +kernel⟩
set_option maxHeartbeats 4000000 in
theorem ok_law_minus {P : Program} {w : World} {K : PySem.W.Frag} {mg : Str → Option Value} {base : Heap} {m_law_low : DFn} (C_law_low : Cal P w K mg base 2 "_law_low" ["_law_top", "_law_bottom"] m_law_low) {f : Addr} {fd : FuncData} (B : Blt mg) (F : GF K mg "_law_minus" s_law_minus f fd) : Cal P w K mg base 3 "_law_minus" ["_law_one", "_law_other_here"] (f_law_minus__2 m_law_low) :=
  cal_g F (fun _ _ _ _ _ _ => on2 fun _ _ => rfl) sc_law_minus fun cdv A outer s H E g hr =>
    have nd := sc_law_minus.nd
    (ss_one (s_ret (eo_calC C_law_low _ hr (by decide) (by rfl) (ac (eo_op op_sub r_sub (EO.b (eo_op op_mulD r_mul (EO.b (eo_ix ix_D r_ix (bo_var (pv 0)) (EO.b eo_int) (fun _ _ => rfl))) (EO.b (eo_ix ix_D r_ix (bo_var (pv 1)) (EO.b eo_int) (fun _ _ => rfl))))) (EO.b (eo_op op_mulD r_mul (EO.b (eo_ix ix_D r_ix (bo_var (pv 1)) (EO.b eo_int) (fun _ _ => rfl))) (EO.b (eo_ix ix_D r_ix (bo_var (pv 0)) (EO.b eo_int) (fun _ _ => rfl)))))) (ac (eo_op op_mulD r_mul (EO.b (eo_ix ix_D r_ix (bo_var (pv 0)) (EO.b eo_int) (fun _ _ => rfl))) (EO.b (eo_ix ix_D r_ix (bo_var (pv 1)) (EO.b eo_int) (fun _ _ => rfl)))) ao_nil)) (dCons_len (dCons_len dNil_len)))))
abbrev s_law_far : Stmt := top 29
theorem sc_law_far : FnScope ["_law_a", "_law_b", "_law_x", "_law_y", "_law_far_here", "_law_high"] ["_law_a", "_law_b"] (defScope s_law_far) := ⟨rfl, rfl, rfl, by decide +kernel, rfl, by decide +kernel, by decide +kernel⟩
set_option maxHeartbeats 4000000 in
theorem ok_law_far {P : Program} {w : World} {K : PySem.W.Frag} {mg : Str → Option Value} {base : Heap} {m_law_minus : DFn} {m_law_xy : DFn} (C_law_minus : Cal P w K mg base 3 "_law_minus" ["_law_one", "_law_other_here"] m_law_minus) (C_law_xy : Cal P w K mg base 3 "_law_xy" ["_law_spot_here"] m_law_xy) {f : Addr} {fd : FuncData} (B : Blt mg) (F : GF K mg "_law_far" s_law_far f fd) : Cal P w K mg base 4 "_law_far" ["_law_a", "_law_b"] (f_law_far m_law_minus m_law_xy) :=
  cal_g F (fun _ _ _ _ _ _ => on2 fun _ _ => rfl) sc_law_far fun cdv A outer s H E g hr =>
    have nd := sc_law_far.nd
    (ss_cons (s_asg (eo_tup (ac (eo_calC C_law_xy _ hr (by decide) (by rfl) (ac (eo_var (pv 0)) ao_nil) (dCons_len dNil_len)) (ac (eo_calC C_law_xy _ hr (by decide) (by rfl) (ac (eo_var (pv 1)) ao_nil) (dCons_len dNil_len)) ao_nil))) (g_tup rfl (gs_cons (g_tup rfl (gs_cons (g_name (pg_name (i := 2) nd rfl (by first | exact Or.inl rfl | exact Or.inr rfl))) (gs_cons (g_name (pg_name (i := 3) nd rfl (by first | exact Or.inl rfl | exact Or.inr rfl))) gs_nil))) (gs_cons (g_tup rfl (gs_cons (g_name (pg_name (i := 4) nd rfl (by first | exact Or.inl rfl | exact Or.inr rfl))) (gs_cons (g_name (pg_name (i := 5) nd rfl (by first | exact Or.inl rfl | exact Or.inr rfl))) gs_nil))) gs_nil)))) (ss_one (s_ret (eo_tup (ac (eo_calC C_law_minus _ hr (by decide) (by rfl) (ac (eo_var (pv 4)) (ac (eo_var (pv 2)) ao_nil)) (dCons_len (dCons_len dNil_len))) (ac (eo_calC C_law_minus _ hr (by decide) (by rfl) (ac (eo_var (pv 5)) (ac (eo_var (pv 3)) ao_nil)) (dCons_len (dCons_len dNil_len))) ao_nil))))))
abbrev s_law_product : Stmt := top 23
theorem sc_law_product : FnScope ["_law_one", "_law_other_here"] ["_law_one", "_law_other_here"] (defScope s_law_product) := ⟨rfl, rfl, rfl, by decide +kernel, rfl, by decide +kernel, by decide +kernel⟩
set_option maxHeartbeats 4000000 in
theorem ok_law_product {P : Program} {w : World} {K : PySem.W.Frag} {mg : Str → Option Value} {base : Heap} {m_law_low : DFn} (C_law_low : Cal P w K mg base 2 "_law_low" ["_law_top", "_law_bottom"] m_law_low) {f : Addr} {fd : FuncData} (B : Blt mg) (F : GF K mg "_law_product" s_law_product f fd) : Cal P w K mg base 3 "_law_product" ["_law_one", "_law_other_here"] (f_law_product__2 m_law_low) :=
  cal_g F (fun _ _ _ _ _ _ => on2 fun _ _ => rfl) sc_law_product fun cdv A outer s H E g hr =>
    have nd := sc_law_product.nd
    (ss_one (s_ret (eo_calC C_law_low _ hr (by decide) (by rfl) (ac (eo_op op_mulD r_mul (EO.b (eo_ix ix_D r_ix (bo_var (pv 0)) (EO.b eo_int) (fun _ _ => rfl))) (EO.b (eo_ix ix_D r_ix (bo_var (pv 1)) (EO.b eo_int) (fun _ _ => rfl)))) (ac (eo_op op_mulD r_mul (EO.b (eo_ix ix_D r_ix (bo_var (pv 0)) (EO.b eo_int) (fun _ _ => rfl))) (EO.b (eo_ix ix_D r_ix (bo_var (pv 1)) (EO.b eo_int) (fun _ _ => rfl)))) ao_nil)) (dCons_len (dCons_len dNil_len)))))
abbrev s_law_athwart : Stmt := top 30
theorem sc_law_athwart : FnScope ["_law_one", "_law_other_here"] ["_law_one", "_law_other_here"] (defScope s_law_athwart) := ⟨rfl, rfl, rfl, by decide +kernel, rfl, by decide +kernel, by decide +kernel⟩
set_option maxHeartbeats 4000000 in
theorem ok_law_athwart {P : Program} {w : World} {K : PySem.W.Frag} {mg : Str → Option Value} {base : Heap} {m_law_minus : DFn} {m_law_product : DFn} (C_law_minus : Cal P w K mg base 3 "_law_minus" ["_law_one", "_law_other_here"] m_law_minus) (C_law_product : Cal P w K mg base 3 "_law_product" ["_law_one", "_law_other_here"] m_law_product) {f : Addr} {fd : FuncData} (B : Blt mg) (F : GF K mg "_law_athwart" s_law_athwart f fd) : Cal P w K mg base 4 "_law_athwart" ["_law_one", "_law_other_here"] (f_law_athwart m_law_minus m_law_product) :=
  cal_g F (fun _ _ _ _ _ _ => on2 fun _ _ => rfl) sc_law_athwart fun cdv A outer s H E g hr =>
    have nd := sc_law_athwart.nd
    (ss_one (s_ret (eo_calC C_law_minus _ hr (by decide) (by rfl) (ac (eo_calC C_law_product _ hr (by decide) (by rfl) (ac (eo_ix ix_D r_ix (bo_var (pv 0)) (EO.b eo_int) (fun _ _ => rfl)) (ac (eo_ix ix_D r_ix (bo_var (pv 1)) (EO.b eo_int) (fun _ _ => rfl)) ao_nil)) (dCons_len (dCons_len dNil_len))) (ac (eo_calC C_law_product _ hr (by decide) (by rfl) (ac (eo_ix ix_D r_ix (bo_var (pv 0)) (EO.b eo_int) (fun _ _ => rfl)) (ac (eo_ix ix_D r_ix (bo_var (pv 1)) (EO.b eo_int) (fun _ _ => rfl)) ao_nil)) (dCons_len (dCons_len dNil_len))) ao_nil)) (dCons_len (dCons_len dNil_len)))))
abbrev s_law_over : Stmt := top 24
theorem sc_law_over : FnScope ["_law_one", "_law_other_here"] ["_law_one", "_law_other_here"] (defScope s_law_over) := ⟨rfl, rfl, rfl, by decide +kernel, rfl, by decide +kernel, by decide +kernel⟩
set_option maxHeartbeats 4000000 in
theorem ok_law_over {P : Program} {w : World} {K : PySem.W.Frag} {mg : Str → Option Value} {base : Heap} {m_law_low : DFn} (C_law_low : Cal P w K mg base 2 "_law_low" ["_law_top", "_law_bottom"] m_law_low) {f : Addr} {fd : FuncData} (B : Blt mg) (F : GF K mg "_law_over" s_law_over f fd) : Cal P w K mg base 3 "_law_over" ["_law_one", "_law_other_here"] (f_law_over m_law_low) :=
  cal_g F (fun _ _ _ _ _ _ => on2 fun _ _ => rfl) sc_law_over fun cdv A outer s H E g hr =>
    have nd := sc_law_over.nd
    (ss_one (s_ret (eo_calC C_law_low _ hr (by decide) (by rfl) (ac (eo_op op_mulD r_mul (EO.b (eo_ix ix_D r_ix (bo_var (pv 0)) (EO.b eo_int) (fun _ _ => rfl))) (EO.b (eo_ix ix_D r_ix (bo_var (pv 1)) (EO.b eo_int) (fun _ _ => rfl)))) (ac (eo_op op_mulD r_mul (EO.b (eo_ix ix_D r_ix (bo_var (pv 0)) (EO.b eo_int) (fun _ _ => rfl))) (EO.b (eo_ix ix_D r_ix (bo_var (pv 1)) (EO.b eo_int) (fun _ _ => rfl)))) ao_nil)) (dCons_len (dCons_len dNil_len)))))
abbrev s_law_plus : Stmt := top 21
theorem sc_law_plus : FnScope ["_law_one", "_law_other_here"] ["_law_one", "_law_other_here"] (defScope s_law_plus) := ⟨rfl, rfl, rfl, by decide +kernel, rfl, by decide +kernel, by decide +kernel⟩
set_option maxHeartbeats 4000000 in
theorem ok_law_plus {P : Program} {w : World} {K : PySem.W.Frag} {mg : Str → Option Value} {base : Heap} {m_law_low : DFn} (C_law_low : Cal P w K mg base 2 "_law_low" ["_law_top", "_law_bottom"] m_law_low) {f : Addr} {fd : FuncData} (B : Blt mg) (F : GF K mg "_law_plus" s_law_plus f fd) : Cal P w K mg base 3 "_law_plus" ["_law_one", "_law_other_here"] (f_law_plus m_law_low) :=
  cal_g F (fun _ _ _ _ _ _ => on2 fun _ _ => rfl) sc_law_plus fun cdv A outer s H E g hr =>
    have nd := sc_law_plus.nd
    (ss_one (s_ret (eo_calC C_law_low _ hr (by decide) (by rfl) (ac (eo_op op_addD r_add (EO.b (eo_op op_mulD r_mul (EO.b (eo_ix ix_D r_ix (bo_var (pv 0)) (EO.b eo_int) (fun _ _ => rfl))) (EO.b (eo_ix ix_D r_ix (bo_var (pv 1)) (EO.b eo_int) (fun _ _ => rfl))))) (EO.b (eo_op op_mulD r_mul (EO.b (eo_ix ix_D r_ix (bo_var (pv 1)) (EO.b eo_int) (fun _ _ => rfl))) (EO.b (eo_ix ix_D r_ix (bo_var (pv 0)) (EO.b eo_int) (fun _ _ => rfl)))))) (ac (eo_op op_mulD r_mul (EO.b (eo_ix ix_D r_ix (bo_var (pv 0)) (EO.b eo_int) (fun _ _ => rfl))) (EO.b (eo_ix ix_D r_ix (bo_var (pv 1)) (EO.b eo_int) (fun _ _ => rfl)))) ao_nil)) (dCons_len (dCons_len dNil_len)))))
abbrev s_law_on_the_way : Stmt := top 32
theorem sc_law_on_the_way : FnScope ["_law_a", "_law_b", "_law_share", "_law_x", "_law_y", "_law_far_here", "_law_high"] ["_law_a", "_law_b", "_law_share"] (defScope s_law_on_the_way) := ⟨rfl, rfl, rfl, by decide +kernel, rfl, by decide +kernel, by decide +kernel⟩
set_option maxHeartbeats 4000000 in
theorem ok_law_on_the_way {P : Program} {w : World} {K : PySem.W.Frag} {mg : Str → Option Value} {base : Heap} {m_law_spot : DFn} {m_law_plus : DFn} {m_law_product : DFn} {m_law_far : DFn} {m_law_xy : DFn} (C_law_spot : Cal P w K mg base 2 "_law_spot" ["_law_x", "_law_y"] m_law_spot) (C_law_plus : Cal P w K mg base 3 "_law_plus" ["_law_one", "_law_other_here"] m_law_plus) (C_law_product : Cal P w K mg base 3 "_law_product" ["_law_one", "_law_other_here"] m_law_product) (C_law_far : Cal P w K mg base 4 "_law_far" ["_law_a", "_law_b"] m_law_far) (C_law_xy : Cal P w K mg base 3 "_law_xy" ["_law_spot_here"] m_law_xy) {f : Addr} {fd : FuncData} (B : Blt mg) (F : GF K mg "_law_on_the_way" s_law_on_the_way f fd) : Cal P w K mg base 5 "_law_on_the_way" ["_law_a", "_law_b", "_law_share"] (f_law_on_the_way m_law_spot m_law_plus m_law_product m_law_far m_law_xy) :=
  cal_g F (fun _ _ _ _ _ _ => on3 fun _ _ _ => rfl) sc_law_on_the_way fun cdv A outer s H E g hr =>
    have nd := sc_law_on_the_way.nd
    (ss_cons (s_asg (eo_calC C_law_xy _ hr (by decide) (by rfl) (ac (eo_var (pv 0)) ao_nil) (dCons_len dNil_len)) (g_tup rfl (gs_cons (g_name (pg_name (i := 3) nd rfl (by first | exact Or.inl rfl | exact Or.inr rfl))) (gs_cons (g_name (pg_name (i := 4) nd rfl (by first | exact Or.inl rfl | exact Or.inr rfl))) gs_nil)))) (ss_cons (s_asg (eo_calC C_law_far _ hr (by decide) (by rfl) (ac (eo_var (pv 0)) (ac (eo_var (pv 1)) ao_nil)) (dCons_len (dCons_len dNil_len))) (g_tup rfl (gs_cons (g_name (pg_name (i := 5) nd rfl (by first | exact Or.inl rfl | exact Or.inr rfl))) (gs_cons (g_name (pg_name (i := 6) nd rfl (by first | exact Or.inl rfl | exact Or.inr rfl))) gs_nil)))) (ss_one (s_ret (eo_calC C_law_spot _ hr (by decide) (by rfl) (ac (eo_calC C_law_plus _ hr (by decide) (by rfl) (ac (eo_var (pv 3)) (ac (eo_calC C_law_product _ hr (by decide) (by rfl) (ac (eo_var (pv 2)) (ac (eo_var (pv 5)) ao_nil)) (dCons_len (dCons_len dNil_len))) ao_nil)) (dCons_len (dCons_len dNil_len))) (ac (eo_calC C_law_plus _ hr (by decide) (by rfl) (ac (eo_var (pv 4)) (ac (eo_calC C_law_product _ hr (by decide) (by rfl) (ac (eo_var (pv 2)) (ac (eo_var (pv 6)) ao_nil)) (dCons_len (dCons_len dNil_len))) ao_nil)) (dCons_len (dCons_len dNil_len))) ao_nil)) (dCons_len (dCons_len dNil_len)))))))
abbrev s_law_below : Stmt := top 25
theorem sc_law_below : FnScope ["_law_one", "_law_other_here"] ["_law_one", "_law_other_here"] (defScope s_law_below) := ⟨rfl, rfl, rfl, by decide +kernel, rfl, by decide +kernel, by decide +kernel⟩
set_option maxHeartbeats 4000000 in
theorem ok_law_below {P : Program} {w : World} {K : PySem.W.Frag} {mg : Str → Option Value} {base : Heap} {f : Addr} {fd : FuncData} (B : Blt mg) (F : GF K mg "_law_below" s_law_below f fd) : Cal P w K mg base 1 "_law_below" ["_law_one", "_law_other_here"] (f_law_below) :=
  cal_g F (fun _ _ _ _ _ _ => on2 fun _ _ => rfl) sc_law_below fun cdv A outer s H E g hr =>
    have nd := sc_law_below.nd
    (ss_one (s_ret (eo_cmp op_lt (r_cmp (fun i j => decide (i < j))) (EO.b (eo_op op_mulD r_mul (EO.b (eo_ix ix_D r_ix (bo_var (pv 0)) (EO.b eo_int) (fun _ _ => rfl))) (EO.b (eo_ix ix_D r_ix (bo_var (pv 1)) (EO.b eo_int) (fun _ _ => rfl))))) (EO.b (eo_op op_mulD r_mul (EO.b (eo_ix ix_D r_ix (bo_var (pv 1)) (EO.b eo_int) (fun _ _ => rfl))) (EO.b (eo_ix ix_D r_ix (bo_var (pv 0)) (EO.b eo_int) (fun _ _ => rfl))))) (nomark _))))
abbrev s_law_with : Stmt := top 31
theorem sc_law_with : FnScope ["_law_one", "_law_other_here"] ["_law_one", "_law_other_here"] (defScope s_law_with) := ⟨rfl, rfl, rfl, by decide +kernel, rfl, by decide +kernel, by decide +kernel⟩
set_option maxHeartbeats 4000000 in
theorem ok_law_with {P : Program} {w : World} {K : PySem.W.Frag} {mg : Str → Option Value} {base : Heap} {m_law_plus : DFn} {m_law_product : DFn} (C_law_plus : Cal P w K mg base 3 "_law_plus" ["_law_one", "_law_other_here"] m_law_plus) (C_law_product : Cal P w K mg base 3 "_law_product" ["_law_one", "_law_other_here"] m_law_product) {f : Addr} {fd : FuncData} (B : Blt mg) (F : GF K mg "_law_with" s_law_with f fd) : Cal P w K mg base 4 "_law_with" ["_law_one", "_law_other_here"] (f_law_with m_law_plus m_law_product) :=
  cal_g F (fun _ _ _ _ _ _ => on2 fun _ _ => rfl) sc_law_with fun cdv A outer s H E g hr =>
    have nd := sc_law_with.nd
    (ss_one (s_ret (eo_calC C_law_plus _ hr (by decide) (by rfl) (ac (eo_calC C_law_product _ hr (by decide) (by rfl) (ac (eo_ix ix_D r_ix (bo_var (pv 0)) (EO.b eo_int) (fun _ _ => rfl)) (ac (eo_ix ix_D r_ix (bo_var (pv 1)) (EO.b eo_int) (fun _ _ => rfl)) ao_nil)) (dCons_len (dCons_len dNil_len))) (ac (eo_calC C_law_product _ hr (by decide) (by rfl) (ac (eo_ix ix_D r_ix (bo_var (pv 0)) (EO.b eo_int) (fun _ _ => rfl)) (ac (eo_ix ix_D r_ix (bo_var (pv 1)) (EO.b eo_int) (fun _ _ => rfl)) ao_nil)) (dCons_len (dCons_len dNil_len))) ao_nil)) (dCons_len (dCons_len dNil_len)))))
abbrev s_law_alongside : Stmt := top 34
theorem sc_law_alongside : FnScope ["_law_one", "_law_other_here", "_law_choice", "_law_some", "_law_low_here", "_law_high", "_law_ends", "_law_rises"] ["_law_one", "_law_other_here"] (defScope s_law_alongside) := ⟨rfl, rfl, rfl, by decide +kernel, rfl, by decide +kernel, by decide +kernel⟩
set_option maxHeartbeats 4000000 in
theorem ok_law_alongside {P : Program} {w : World} {K : PySem.W.Frag} {mg : Str → Option Value} {base : Heap} {m_law_far : DFn} {m_law_on_the_way : DFn} {m_law_below : DFn} {m_law_over : DFn} {m_law_with : DFn} (C_law_far : Cal P w K mg base 4 "_law_far" ["_law_a", "_law_b"] m_law_far) (C_law_on_the_way : Cal P w K mg base 5 "_law_on_the_way" ["_law_a", "_law_b", "_law_share"] m_law_on_the_way) (C_law_below : Cal P w K mg base 1 "_law_below" ["_law_one", "_law_other_here"] m_law_below) (C_law_over : Cal P w K mg base 3 "_law_over" ["_law_one", "_law_other_here"] m_law_over) (C_law_with : Cal P w K mg base 4 "_law_with" ["_law_one", "_law_other_here"] m_law_with) {f : Addr} {fd : FuncData} (B : Blt mg) (F : GF K mg "_law_alongside" s_law_alongside f fd) : Cal P w K mg base 6 "_law_alongside" ["_law_one", "_law_other_here"] (f_law_alongside m_law_far m_law_on_the_way m_law_below m_law_over m_law_with) :=
  cal_g F (fun _ _ _ _ _ _ => on2 fun _ _ => rfl) sc_law_alongside fun cdv A outer s H E g hr =>
    have nd := sc_law_alongside.nd
    (ss_cons (s_set (i := 2) nd rfl (by first | exact Or.inl rfl | exact Or.inr rfl) (eo_calC C_law_far _ hr (by decide) (by rfl) (ac (eo_ix ix_D r_ix (bo_var (pv 0)) (EO.b eo_int) (fun _ _ => rfl)) (ac (eo_ix ix_D r_ix (bo_var (pv 0)) (EO.b eo_int) (fun _ _ => rfl)) ao_nil)) (dCons_len (dCons_len dNil_len)))) (ss_cons (s_setC (i := 3) nd rfl (by first | exact Or.inl rfl | exact Or.inr rfl) (co_comp1 (N' := ["_law_spot_here", "_law_choice", "_law_one"]) (idx := [2, 0]) rfl (compOk1 (by rfl) (.cons rfl (.cons rfl .nil)) (by decide +kernel) rfl (by decide +kernel) (by rfl) (.cons rfl (by first | exact Or.inl rfl | exact Or.inr rfl) (by first | exact Or.inl rfl | exact Or.inr rfl) (.cons rfl (by first | exact Or.inl rfl | exact Or.inr rfl) (by first | exact Or.inl rfl | exact Or.inr rfl) .nil))) (io_seq (eo_var (pv 1))) (fun _ _ _ _ => pg_name (i := 0) (show List.Nodup (["_law_spot_here", "_law_choice", "_law_one"] : List Str) by decide +kernel) rfl (Or.inl rfl)) (fun _ _ _ _ _ => ifs_nil) (fun _ _ _ _ _ => (eo_calC C_law_over _ hr (by decide) (by rfl) (ac (eo_calC C_law_with _ hr (by decide) (by rfl) (ac (eo_calC C_law_far _ hr (by decide) (by rfl) (ac (eo_ix ix_D r_ix (bo_var (pv 2)) (EO.b eo_int) (fun _ _ => rfl)) (ac (eo_var (pv 0)) ao_nil)) (dCons_len (dCons_len dNil_len))) (ac (eo_var (pv 1)) ao_nil)) (dCons_len (dCons_len dNil_len))) (ac (eo_calC C_law_with _ hr (by decide) (by rfl) (ac (eo_var (pv 1)) (ac (eo_var (pv 1)) ao_nil)) (dCons_len (dCons_len dNil_len))) ao_nil)) (dCons_len (dCons_len dNil_len)))))) (ss_cons (s_if (to_truth (EO.b (eo_calC C_law_below _ hr (by decide) (by rfl) (ac (eo_ix ix_D r_ix (bo_var (pv 3)) (EO.b eo_int) (fun _ _ => rfl)) (ac (eo_ix ix_D r_ix (bo_var (pv 3)) (EO.b eo_int) (fun _ _ => rfl)) ao_nil)) (dCons_len (dCons_len dNil_len))))) (ss_one (s_revO (pv 3))) ss_nil) (ss_cons (s_set (i := 4) nd rfl (by first | exact Or.inl rfl | exact Or.inr rfl) (eo_if (to_cmp op_lt (r_cmp (fun i j => decide (i < j))) (EO.b (eo_ix ix_D r_ix (EO.b (eo_ix ix_D r_ix (bo_var (pv 3)) (EO.b eo_int) (fun _ _ => rfl))) (EO.b eo_int) (fun _ _ => rfl))) (EO.b eo_int) (nomark _)) (eo_tup (ac eo_int (ac eo_int ao_nil))) (eo_ix ix_D r_ix (bo_var (pv 3)) (EO.b eo_int) (fun _ _ => rfl)))) (ss_cons (s_set (i := 5) nd rfl (by first | exact Or.inl rfl | exact Or.inr rfl) (eo_if (to_truth (EO.b (eo_calC C_law_below _ hr (by decide) (by rfl) (ac (eo_tup (ac eo_int (ac eo_int ao_nil))) (ac (eo_ix ix_D r_ix (bo_var (pv 3)) (EO.b eo_int) (fun _ _ => rfl)) ao_nil)) (dCons_len (dCons_len dNil_len))))) (eo_tup (ac eo_int (ac eo_int ao_nil))) (eo_ix ix_D r_ix (bo_var (pv 3)) (EO.b eo_int) (fun _ _ => rfl)))) (ss_cons (s_if (to_truth (EO.b (eo_calC C_law_below _ hr (by decide) (by rfl) (ac (eo_var (pv 5)) (ac (eo_var (pv 4)) ao_nil)) (dCons_len (dCons_len dNil_len))))) (ss_one (s_ret eo_non)) ss_nil) (ss_cons (s_setC (i := 6) nd rfl (by first | exact Or.inl rfl | exact Or.inr rfl) (co_comp1 (N' := ["_law_share", "_law_one"]) (idx := [0]) rfl (compOk1 (by rfl) (.cons rfl .nil) (by decide +kernel) rfl (by decide +kernel) (by rfl) (.cons rfl (by first | exact Or.inl rfl | exact Or.inr rfl) (by first | exact Or.inl rfl | exact Or.inr rfl) .nil)) (io_seq (FO.v (fo_lst (ac (eo_var (pv 4)) (ac (eo_var (pv 5)) ao_nil))))) (fun _ _ _ _ => pg_name (i := 0) (show List.Nodup (["_law_share", "_law_one"] : List Str) by decide +kernel) rfl (Or.inl rfl)) (fun _ _ _ _ _ => ifs_nil) (fun _ _ _ _ _ => (eo_calC C_law_on_the_way _ hr (by decide) (by rfl) (ac (eo_ix ix_D r_ix (bo_var (pv 1)) (EO.b eo_int) (fun _ _ => rfl)) (ac (eo_ix ix_D r_ix (bo_var (pv 1)) (EO.b eo_int) (fun _ _ => rfl)) (ac (eo_var (pv 0)) ao_nil))) (dCons_len (dCons_len (dCons_len dNil_len))))))) (ss_cons (s_if (to_cmp (op_eqD (u64 hr)) r_eq (EO.b (eo_ix ix_D r_ix (bo_var (pv 6)) (EO.b eo_int) (fun _ _ => rfl))) (EO.b (eo_ix ix_D r_ix (bo_var (pv 6)) (EO.b eo_int) (fun _ _ => rfl))) (nomark _)) (ss_one (s_ret (eo_tup (ac (eo_str (by decide +kernel)) (ac (eo_ix ix_D r_ix (bo_var (pv 6)) (EO.b eo_int) (fun _ _ => rfl)) ao_nil))))) ss_nil) (ss_cons (s_set (i := 2) nd rfl (by first | exact Or.inl rfl | exact Or.inr rfl) (eo_calC C_law_far _ hr (by decide) (by rfl) (ac (eo_ix ix_D r_ix (bo_var (pv 6)) (EO.b eo_int) (fun _ _ => rfl)) (ac (eo_ix ix_D r_ix (bo_var (pv 6)) (EO.b eo_int) (fun _ _ => rfl)) ao_nil)) (dCons_len (dCons_len dNil_len)))) (ss_cons (s_set (i := 7) nd rfl (by first | exact Or.inl rfl | exact Or.inr rfl) (eo_or (eo_cmp op_gt (r_cmp (fun i j => decide (j < i))) (EO.b (eo_ix ix_D r_ix (EO.b (eo_ix ix_D r_ix (bo_var (pv 2)) (EO.b eo_int) (fun _ _ => rfl))) (EO.b eo_int) (fun _ _ => rfl))) (EO.b eo_int) (nomark _)) (eo_one (eo_and (eo_cmp (op_eqD (u64 hr)) r_eq (EO.b (eo_ix ix_D r_ix (EO.b (eo_ix ix_D r_ix (bo_var (pv 2)) (EO.b eo_int) (fun _ _ => rfl))) (EO.b eo_int) (fun _ _ => rfl))) (EO.b eo_int) (nomark _)) (eo_one (eo_cmp op_gt (r_cmp (fun i j => decide (j < i))) (EO.b (eo_ix ix_D r_ix (EO.b (eo_ix ix_D r_ix (bo_var (pv 2)) (EO.b eo_int) (fun _ _ => rfl))) (EO.b eo_int) (fun _ _ => rfl))) (EO.b eo_int) (nomark _))))))) (ss_one (s_ret (eo_if (to_truth (bo_var (pv 7))) (eo_tup (ac (eo_str (by decide +kernel)) (ac (eo_ix ix_D r_ix (bo_var (pv 6)) (EO.b eo_int) (fun _ _ => rfl)) (ac (eo_ix ix_D r_ix (bo_var (pv 6)) (EO.b eo_int) (fun _ _ => rfl)) ao_nil)))) (eo_tup (ac (eo_str (by decide +kernel)) (ac (eo_ix ix_D r_ix (bo_var (pv 6)) (EO.b eo_int) (fun _ _ => rfl)) (ac (eo_ix ix_D r_ix (bo_var (pv 6)) (EO.b eo_int) (fun _ _ => rfl)) ao_nil)))))))))))))))))
abbrev s_law_is_share : Stmt := top 33
theorem sc_law_is_share : FnScope ["_law_share"] ["_law_share"] (defScope s_law_is_share) := ⟨rfl, rfl, rfl, by decide +kernel, rfl, by decide +kernel, by decide +kernel⟩
set_option maxHeartbeats 4000000 in
theorem ok_law_is_share {P : Program} {w : World} {K : PySem.W.Frag} {mg : Str → Option Value} {base : Heap} {m_law_below : DFn} (C_law_below : Cal P w K mg base 1 "_law_below" ["_law_one", "_law_other_here"] m_law_below) {f : Addr} {fd : FuncData} (B : Blt mg) (F : GF K mg "_law_is_share" s_law_is_share f fd) : Cal P w K mg base 2 "_law_is_share" ["_law_share"] (f_law_is_share m_law_below) :=
  cal_g F (fun _ _ _ _ _ _ => on1 fun _ => rfl) sc_law_is_share fun cdv A outer s H E g hr =>
    have nd := sc_law_is_share.nd
    (ss_one (s_ret (eo_and (eo_cmp op_ge (r_cmp (fun i j => decide (j ≤ i))) (EO.b (eo_ix ix_D r_ix (bo_var (pv 0)) (EO.b eo_int) (fun _ _ => rfl))) (EO.b eo_int) (nomark _)) (eo_one (eo_not (eo_calC C_law_below _ hr (by decide) (by rfl) (ac (eo_tup (ac eo_int (ac eo_int ao_nil))) (ac (eo_var (pv 0)) ao_nil)) (dCons_len (dCons_len dNil_len))))))))
abbrev s_law_common : Stmt := top 35
theorem sc_law_common : FnScope ["_law_one", "_law_other_here", "_law_first", "_law_second", "_law_between", "_law_whole", "_law_share"] ["_law_one", "_law_other_here"] (defScope s_law_common) := ⟨rfl, rfl, rfl, by decide +kernel, rfl, by decide +kernel, by decide +kernel⟩
set_option maxHeartbeats 4000000 in
theorem ok_law_common {P : Program} {w : World} {K : PySem.W.Frag} {mg : Str → Option Value} {base : Heap} {m_law_on_the_way : DFn} {m_law_is_share : DFn} {m_law_over : DFn} {m_law_athwart : DFn} {m_law_alongside : DFn} {m_law_far : DFn} (C_law_on_the_way : Cal P w K mg base 5 "_law_on_the_way" ["_law_a", "_law_b", "_law_share"] m_law_on_the_way) (C_law_is_share : Cal P w K mg base 2 "_law_is_share" ["_law_share"] m_law_is_share) (C_law_over : Cal P w K mg base 3 "_law_over" ["_law_one", "_law_other_here"] m_law_over) (C_law_athwart : Cal P w K mg base 4 "_law_athwart" ["_law_one", "_law_other_here"] m_law_athwart) (C_law_alongside : Cal P w K mg base 6 "_law_alongside" ["_law_one", "_law_other_here"] m_law_alongside) (C_law_far : Cal P w K mg base 4 "_law_far" ["_law_a", "_law_b"] m_law_far) {f : Addr} {fd : FuncData} (B : Blt mg) (F : GF K mg "_law_common" s_law_common f fd) : Cal P w K mg base 7 "_law_common" ["_law_one", "_law_other_here"] (f_law_common__2 m_law_on_the_way m_law_is_share m_law_over m_law_athwart m_law_alongside m_law_far) :=
  cal_g F (fun _ _ _ _ _ _ => on2 fun _ _ => rfl) sc_law_common fun cdv A outer s H E g hr =>
    have nd := sc_law_common.nd
    (ss_cons (s_par (i := 2) (j := 3) rfl nd rfl rfl (by decide) rfl rfl (ac (eo_calC C_law_far _ hr (by decide) (by rfl) (ac (eo_ix ix_D r_ix (bo_var (pv 0)) (EO.b eo_int) (fun _ _ => rfl)) (ac (eo_ix ix_D r_ix (bo_var (pv 0)) (EO.b eo_int) (fun _ _ => rfl)) ao_nil)) (dCons_len (dCons_len dNil_len))) (ac (eo_calC C_law_far _ hr (by decide) (by rfl) (ac (eo_ix ix_D r_ix (bo_var (pv 1)) (EO.b eo_int) (fun _ _ => rfl)) (ac (eo_ix ix_D r_ix (bo_var (pv 1)) (EO.b eo_int) (fun _ _ => rfl)) ao_nil)) (dCons_len (dCons_len dNil_len))) ao_nil)) rfl) (ss_cons (s_set (i := 4) nd rfl (by first | exact Or.inl rfl | exact Or.inr rfl) (eo_calC C_law_far _ hr (by decide) (by rfl) (ac (eo_ix ix_D r_ix (bo_var (pv 0)) (EO.b eo_int) (fun _ _ => rfl)) (ac (eo_ix ix_D r_ix (bo_var (pv 1)) (EO.b eo_int) (fun _ _ => rfl)) ao_nil)) (dCons_len (dCons_len dNil_len)))) (ss_cons (s_set (i := 5) nd rfl (by first | exact Or.inl rfl | exact Or.inr rfl) (eo_calC C_law_athwart _ hr (by decide) (by rfl) (ac (eo_var (pv 2)) (ac (eo_var (pv 3)) ao_nil)) (dCons_len (dCons_len dNil_len)))) (ss_cons (s_if (to_cmp (op_eqD (u64 hr)) r_eq (EO.b (eo_ix ix_D r_ix (bo_var (pv 5)) (EO.b eo_int) (fun _ _ => rfl))) (EO.b eo_int) (nomark _)) (ss_one (s_ret (eo_if (to_cmp (op_eqD (u64 hr)) r_eq (EO.b (eo_ix ix_D r_ix (EO.b (eo_calC C_law_athwart _ hr (by decide) (by rfl) (ac (eo_var (pv 4)) (ac (eo_var (pv 2)) ao_nil)) (dCons_len (dCons_len dNil_len)))) (EO.b eo_int) (fun _ _ => rfl))) (EO.b eo_int) (nomark _)) (eo_calC C_law_alongside _ hr (by decide) (by rfl) (ac (eo_var (pv 0)) (ac (eo_var (pv 1)) ao_nil)) (dCons_len (dCons_len dNil_len))) eo_non))) ss_nil) (ss_cons (s_set (i := 6) nd rfl (by first | exact Or.inl rfl | exact Or.inr rfl) (eo_calC C_law_over _ hr (by decide) (by rfl) (ac (eo_calC C_law_athwart _ hr (by decide) (by rfl) (ac (eo_var (pv 4)) (ac (eo_var (pv 3)) ao_nil)) (dCons_len (dCons_len dNil_len))) (ac (eo_var (pv 5)) ao_nil)) (dCons_len (dCons_len dNil_len)))) (ss_cons (s_if (WO.t (wo_or (to_not (to_truth (EO.b (eo_calC C_law_is_share _ hr (by decide) (by rfl) (ac (eo_var (pv 6)) ao_nil) (dCons_len dNil_len))))) (wo_or1 (to_not (to_truth (EO.b (eo_calC C_law_is_share _ hr (by decide) (by rfl) (ac (eo_calC C_law_over _ hr (by decide) (by rfl) (ac (eo_calC C_law_athwart _ hr (by decide) (by rfl) (ac (eo_var (pv 4)) (ac (eo_var (pv 2)) ao_nil)) (dCons_len (dCons_len dNil_len))) (ac (eo_var (pv 5)) ao_nil)) (dCons_len (dCons_len dNil_len))) ao_nil) (dCons_len dNil_len)))))))) (ss_one (s_ret eo_non)) ss_nil) (ss_one (s_ret (eo_tup (ac (eo_str (by decide +kernel)) (ac (eo_calC C_law_on_the_way _ hr (by decide) (by rfl) (ac (eo_ix ix_D r_ix (bo_var (pv 0)) (EO.b eo_int) (fun _ _ => rfl)) (ac (eo_ix ix_D r_ix (bo_var (pv 0)) (EO.b eo_int) (fun _ _ => rfl)) (ac (eo_var (pv 6)) ao_nil))) (dCons_len (dCons_len (dCons_len dNil_len)))) ao_nil)))))))))))
abbrev s_law_end : Stmt := top 37
theorem sc_law_end : FnScope ["_law_tape", "_law_piece_here", "_law_a", "_law_b", "_law_choice"] ["_law_tape", "_law_piece_here"] (defScope s_law_end) := ⟨rfl, rfl, rfl, by decide +kernel, rfl, by decide +kernel, by decide +kernel⟩
set_option maxHeartbeats 4000000 in
theorem ok_law_end {P : Program} {w : World} {K : PySem.W.Frag} {mg : Str → Option Value} {base : Heap} {m_law_near : DFn} {m_law_on_the_way : DFn} {m_law_draw : DFn} (C_law_near : Cal P w K mg base 3 "_law_near" ["_law_tape"] m_law_near) (C_law_on_the_way : Cal P w K mg base 5 "_law_on_the_way" ["_law_a", "_law_b", "_law_share"] m_law_on_the_way) (C_law_draw : Cal P w K mg base 1 "_law_draw" ["_law_tape", "_law_many"] m_law_draw) {f : Addr} {fd : FuncData} (B : Blt mg) (F : GF K mg "_law_end" s_law_end f fd) : Cal P w K mg base 6 "_law_end" ["_law_tape", "_law_piece_here"] (f_law_end m_law_near m_law_on_the_way m_law_draw) :=
  cal_g F (fun _ _ _ _ _ _ => on2 fun _ _ => rfl) sc_law_end fun cdv A outer s H E g hr =>
    have nd := sc_law_end.nd
    (ss_cons (s_asg (eo_var (pv 1)) (g_tup rfl (gs_cons (g_name (pg_name (i := 2) nd rfl (by first | exact Or.inl rfl | exact Or.inr rfl))) (gs_cons (g_name (pg_name (i := 3) nd rfl (by first | exact Or.inl rfl | exact Or.inr rfl))) gs_nil)))) (ss_cons (s_set (i := 4) nd rfl (by first | exact Or.inl rfl | exact Or.inr rfl) (eo_calC C_law_draw _ hr (by decide) (by rfl) (ac (eo_var (pv 0)) (ac eo_int ao_nil)) (dCons_len (dCons_len dNil_len)))) (ss_cons (s_if (to_cmp op_lt (r_cmp (fun i j => decide (i < j))) (bo_var (pv 4)) (EO.b eo_int) (nomark _)) (ss_one (s_ret (eo_ix ix_D r_ix (bo_var (pv 1)) (bo_var (pv 4)) (fun _ _ => rfl)))) ss_nil) (ss_cons (s_if (to_cmp op_lt (r_cmp (fun i j => decide (i < j))) (bo_var (pv 4)) (EO.b eo_int) (nomark _)) (ss_one (s_ret (eo_calC C_law_on_the_way _ hr (by decide) (by rfl) (ac (eo_var (pv 2)) (ac (eo_var (pv 3)) (ac (eo_ix ix_D r_ix (EO.b (FO.v (fo_lst (ac (eo_tup (ac eo_int (ac eo_int ao_nil))) (ac (eo_tup (ac eo_int (ac eo_int ao_nil))) (ac (eo_tup (ac eo_int (ac eo_int ao_nil))) (ac (eo_tup (ac (eo_un un_neg r_neg (EO.b eo_int)) (ac eo_int ao_nil))) ao_nil))))))) (EO.b (eo_op op_sub r_sub (bo_var (pv 4)) (EO.b eo_int))) (fun _ _ => rfl)) ao_nil))) (dCons_len (dCons_len (dCons_len dNil_len)))))) ss_nil) (ss_one (s_ret (eo_calC C_law_near _ hr (by decide) (by rfl) (ac (eo_var (pv 0)) ao_nil) (dCons_len dNil_len))))))))
abbrev s_law_other : Stmt := top 38
theorem sc_law_other : FnScope ["_law_tape", "_law_piece_here", "_law_some"] ["_law_tape", "_law_piece_here"] (defScope s_law_other) := ⟨rfl, rfl, rfl, by decide +kernel, rfl, by decide +kernel, by decide +kernel⟩
set_option maxHeartbeats 4000000 in
theorem ok_law_other {P : Program} {w : World} {K : PySem.W.Frag} {mg : Str → Option Value} {base : Heap} {m_law_on_the_way : DFn} {m_law_draw : DFn} {m_law_end : DFn} (C_law_on_the_way : Cal P w K mg base 5 "_law_on_the_way" ["_law_a", "_law_b", "_law_share"] m_law_on_the_way) (C_law_draw : Cal P w K mg base 1 "_law_draw" ["_law_tape", "_law_many"] m_law_draw) (C_law_end : Cal P w K mg base 6 "_law_end" ["_law_tape", "_law_piece_here"] m_law_end) {f : Addr} {fd : FuncData} (B : Blt mg) (F : GF K mg "_law_other" s_law_other f fd) : Cal P w K mg base 7 "_law_other" ["_law_tape", "_law_piece_here"] (f_law_other m_law_on_the_way m_law_draw m_law_end) :=
  cal_g F (fun _ _ _ _ _ _ => on2 fun _ _ => rfl) sc_law_other fun cdv A outer s H E g hr =>
    have nd := sc_law_other.nd
    (ss_cons (s_setF (i := 2) nd rfl (by first | exact Or.inl rfl | exact Or.inr rfl) (fo_lst (ac (eo_calC C_law_end _ hr (by decide) (by rfl) (ac (eo_var (pv 0)) (ac (eo_var (pv 1)) ao_nil)) (dCons_len (dCons_len dNil_len))) (ac (eo_calC C_law_end _ hr (by decide) (by rfl) (ac (eo_var (pv 0)) (ac (eo_var (pv 1)) ao_nil)) (dCons_len (dCons_len dNil_len))) ao_nil)))) (ss_cons (s_if (to_cmp (op_eqD (u64 hr)) r_eq (EO.b (eo_ix ix_D r_ix (bo_var (pv 2)) (EO.b eo_int) (fun _ _ => rfl))) (EO.b (eo_ix ix_D r_ix (bo_var (pv 2)) (EO.b eo_int) (fun _ _ => rfl))) (nomark _)) (ss_one (s_setI (pv 2) (eo_calC C_law_on_the_way _ hr (by decide) (by rfl) (ac (eo_ix ix_D r_ix (bo_var (pv 1)) (EO.b eo_int) (fun _ _ => rfl)) (ac (eo_ix ix_D r_ix (bo_var (pv 1)) (EO.b eo_int) (fun _ _ => rfl)) (ac (eo_ix ix_D r_ix (EO.b (FO.v (fo_lst (ac (eo_tup (ac eo_int (ac eo_int ao_nil))) (ac (eo_tup (ac (eo_un un_neg r_neg (EO.b eo_int)) (ac eo_int ao_nil))) ao_nil))))) (EO.b (eo_calC C_law_draw _ hr (by decide) (by rfl) (ac (eo_var (pv 0)) (ac eo_int ao_nil)) (dCons_len (dCons_len dNil_len)))) (fun _ _ => rfl)) ao_nil))) (dCons_len (dCons_len (dCons_len dNil_len)))))) ss_nil) (ss_cons (s_if (to_cmp (op_eqD (u64 hr)) r_eq (EO.b (eo_ix ix_D r_ix (bo_var (pv 2)) (EO.b eo_int) (fun _ _ => rfl))) (EO.b (eo_ix ix_D r_ix (bo_var (pv 2)) (EO.b eo_int) (fun _ _ => rfl))) (nomark _)) (ss_one (s_ret (eo_tup (ac (eo_ix ix_D r_ix (bo_var (pv 2)) (EO.b eo_int) (fun _ _ => rfl)) (ac (eo_tup (ac eo_int (ac eo_int (ac eo_int ao_nil)))) ao_nil))))) ss_nil) (ss_one (s_ret (eo_tup (ac (eo_ix ix_D r_ix (bo_var (pv 2)) (EO.b eo_int) (fun _ _ => rfl)) (ac (eo_ix ix_D r_ix (bo_var (pv 2)) (EO.b eo_int) (fun _ _ => rfl)) ao_nil))))))))
abbrev s_upright : Stmt := top 9
theorem sc_upright : FnScope ["one", "other"] ["one", "other"] (defScope s_upright) := ⟨rfl, rfl, rfl, by decide +kernel, rfl, by decide +kernel, by decide +kernel⟩
set_option maxHeartbeats 4000000 in
theorem ok_upright {P : Program} {w : World} {K : PySem.W.Frag} {mg : Str → Option Value} {base : Heap} {f : Addr} {fd : FuncData} (B : Blt mg) (F : GF K mg "upright" s_upright f fd) : Cal P w K mg base 1 "upright" ["one", "other"] (f_upright) :=
  cal_g F (fun _ _ _ _ _ _ => on2 fun _ _ => rfl) sc_upright fun cdv A outer s H E g hr =>
    have nd := sc_upright.nd
    (ss_one (s_ret (eo_tup (ac (eo_op op_sub r_sub (EO.b (eo_op op_mulD r_mul (EO.b (eo_ix ix_D r_ix (bo_var (pv 0)) (EO.b eo_int) (fun _ _ => rfl))) (EO.b (eo_ix ix_D r_ix (bo_var (pv 1)) (EO.b eo_int) (fun _ _ => rfl))))) (EO.b (eo_op op_mulD r_mul (EO.b (eo_ix ix_D r_ix (bo_var (pv 0)) (EO.b eo_int) (fun _ _ => rfl))) (EO.b (eo_ix ix_D r_ix (bo_var (pv 1)) (EO.b eo_int) (fun _ _ => rfl)))))) (ac (eo_op op_sub r_sub (EO.b (eo_op op_mulD r_mul (EO.b (eo_ix ix_D r_ix (bo_var (pv 0)) (EO.b eo_int) (fun _ _ => rfl))) (EO.b (eo_ix ix_D r_ix (bo_var (pv 1)) (EO.b eo_int) (fun _ _ => rfl))))) (EO.b (eo_op op_mulD r_mul (EO.b (eo_ix ix_D r_ix (bo_var (pv 0)) (EO.b eo_int) (fun _ _ => rfl))) (EO.b (eo_ix ix_D r_ix (bo_var (pv 1)) (EO.b eo_int) (fun _ _ => rfl)))))) (ac (eo_op op_sub r_sub (EO.b (eo_op op_mulD r_mul (EO.b (eo_ix ix_D r_ix (bo_var (pv 0)) (EO.b eo_int) (fun _ _ => rfl))) (EO.b (eo_ix ix_D r_ix (bo_var (pv 1)) (EO.b eo_int) (fun _ _ => rfl))))) (EO.b (eo_op op_mulD r_mul (EO.b (eo_ix ix_D r_ix (bo_var (pv 0)) (EO.b eo_int) (fun _ _ => rfl))) (EO.b (eo_ix ix_D r_ix (bo_var (pv 1)) (EO.b eo_int) (fun _ _ => rfl)))))) ao_nil))))))
abbrev s_straight : Stmt := top 10
theorem sc_straight : FnScope ["a", "b"] ["a", "b"] (defScope s_straight) := ⟨rfl, rfl, rfl, by decide +kernel, rfl, by decide +kernel, by decide +kernel⟩
set_option maxHeartbeats 4000000 in
theorem ok_straight {P : Program} {w : World} {K : PySem.W.Frag} {mg : Str → Option Value} {base : Heap} {m_upright : DFn} (C_upright : Cal P w K mg base 1 "upright" ["one", "other"] m_upright) {f : Addr} {fd : FuncData} (B : Blt mg) (F : GF K mg "straight" s_straight f fd) : Cal P w K mg base 2 "straight" ["a", "b"] (f_straight m_upright) :=
  cal_g F (fun _ _ _ _ _ _ => on2 fun _ _ => rfl) sc_straight fun cdv A outer s H E g hr =>
    have nd := sc_straight.nd
    (ss_one (s_ret (eo_calC C_upright _ hr (by decide) (by rfl) (ac (eo_var (pv 0)) (ac (eo_var (pv 1)) ao_nil)) (dCons_len (dCons_len dNil_len)))))
abbrev s_sign : Stmt := top 6
theorem sc_sign : FnScope ["number"] ["number"] (defScope s_sign) := ⟨rfl, rfl, rfl, by decide +kernel, rfl, by decide +kernel, by decide +kernel⟩
set_option maxHeartbeats 4000000 in
theorem ok_sign {P : Program} {w : World} {K : PySem.W.Frag} {mg : Str → Option Value} {base : Heap} {f : Addr} {fd : FuncData} (B : Blt mg) (F : GF K mg "sign" s_sign f fd) : Cal P w K mg base 1 "sign" ["number"] (f_sign) :=
  cal_g F (fun _ _ _ _ _ _ => on1 fun _ => rfl) sc_sign fun cdv A outer s H E g hr =>
    have nd := sc_sign.nd
    (ss_cons (s_if (to_cmp op_gt (r_cmp (fun i j => decide (j < i))) (bo_var (pv 0)) (EO.b eo_int) (nomark _)) (ss_one (s_ret eo_int)) ss_nil) (ss_cons (s_if (to_cmp op_lt (r_cmp (fun i j => decide (i < j))) (bo_var (pv 0)) (EO.b eo_int) (nomark _)) (ss_one (s_ret (eo_un un_neg r_neg (EO.b eo_int)))) ss_nil) (ss_one (s_ret eo_int))))
abbrev s_side_of : Stmt := top 11
theorem sc_side_of : FnScope ["line", "one"] ["line", "one"] (defScope s_side_of) := ⟨rfl, rfl, rfl, by decide +kernel, rfl, by decide +kernel, by decide +kernel⟩
set_option maxHeartbeats 4000000 in
theorem ok_side_of {P : Program} {w : World} {K : PySem.W.Frag} {mg : Str → Option Value} {base : Heap} {m_sign : DFn} (C_sign : Cal P w K mg base 1 "sign" ["number"] m_sign) {f : Addr} {fd : FuncData} (B : Blt mg) (F : GF K mg "side_of" s_side_of f fd) : Cal P w K mg base 2 "side_of" ["line", "one"] (f_side_of m_sign) :=
  cal_g F (fun _ _ _ _ _ _ => on2 fun _ _ => rfl) sc_side_of fun cdv A outer s H E g hr =>
    have nd := sc_side_of.nd
    (ss_one (s_ret (eo_calC C_sign _ hr (by decide) (by rfl) (ac (eo_op op_addD r_add (EO.b (eo_op op_addD r_add (EO.b (eo_op op_mulD r_mul (EO.b (eo_ix ix_D r_ix (bo_var (pv 0)) (EO.b eo_int) (fun _ _ => rfl))) (EO.b (eo_ix ix_D r_ix (bo_var (pv 1)) (EO.b eo_int) (fun _ _ => rfl))))) (EO.b (eo_op op_mulD r_mul (EO.b (eo_ix ix_D r_ix (bo_var (pv 0)) (EO.b eo_int) (fun _ _ => rfl))) (EO.b (eo_ix ix_D r_ix (bo_var (pv 1)) (EO.b eo_int) (fun _ _ => rfl))))))) (EO.b (eo_op op_mulD r_mul (EO.b (eo_ix ix_D r_ix (bo_var (pv 0)) (EO.b eo_int) (fun _ _ => rfl))) (EO.b (eo_ix ix_D r_ix (bo_var (pv 1)) (EO.b eo_int) (fun _ _ => rfl)))))) ao_nil) (dCons_len dNil_len))))
abbrev s_is_lesser : Stmt := top 5
theorem sc_is_lesser : FnScope ["one", "other", "here", "there"] ["one", "other"] (defScope s_is_lesser) := ⟨rfl, rfl, rfl, by decide +kernel, rfl, by decide +kernel, by decide +kernel⟩
set_option maxHeartbeats 4000000 in
theorem ok_is_lesser {P : Program} {w : World} {K : PySem.W.Frag} {mg : Str → Option Value} {base : Heap} {f : Addr} {fd : FuncData} (B : Blt mg) (F : GF K mg "is_lesser" s_is_lesser f fd) : Cal P w K mg base 1 "is_lesser" ["one", "other"] (f_is_lesser) :=
  cal_g F (fun _ _ _ _ _ _ => on2 fun _ _ => rfl) sc_is_lesser fun cdv A outer s H E g hr =>
    have nd := sc_is_lesser.nd
    (ss_cons (s_set (i := 2) nd rfl (by first | exact Or.inl rfl | exact Or.inr rfl) (eo_op op_mulD r_mul (EO.b (eo_ix ix_D r_ix (bo_var (pv 0)) (EO.b eo_int) (fun _ _ => rfl))) (EO.b (eo_ix ix_D r_ix (bo_var (pv 1)) (EO.b eo_int) (fun _ _ => rfl))))) (ss_cons (s_set (i := 3) nd rfl (by first | exact Or.inl rfl | exact Or.inr rfl) (eo_op op_mulD r_mul (EO.b (eo_ix ix_D r_ix (bo_var (pv 1)) (EO.b eo_int) (fun _ _ => rfl))) (EO.b (eo_ix ix_D r_ix (bo_var (pv 0)) (EO.b eo_int) (fun _ _ => rfl))))) (ss_cons (s_if (to_cmp (op_neD (u64 hr)) r_ne (bo_var (pv 2)) (bo_var (pv 3)) (nomark _)) (ss_one (s_ret (eo_cmp op_lt (r_cmp (fun i j => decide (i < j))) (bo_var (pv 2)) (bo_var (pv 3)) (nomark _)))) ss_nil) (ss_one (s_ret (eo_cmp op_lt (r_cmp (fun i j => decide (i < j))) (EO.b (eo_op op_mulD r_mul (EO.b (eo_ix ix_D r_ix (bo_var (pv 0)) (EO.b eo_int) (fun _ _ => rfl))) (EO.b (eo_ix ix_D r_ix (bo_var (pv 1)) (EO.b eo_int) (fun _ _ => rfl))))) (EO.b (eo_op op_mulD r_mul (EO.b (eo_ix ix_D r_ix (bo_var (pv 1)) (EO.b eo_int) (fun _ _ => rfl))) (EO.b (eo_ix ix_D r_ix (bo_var (pv 0)) (EO.b eo_int) (fun _ _ => rfl))))) (nomark _)))))))
abbrev s_common_along : Stmt := top 15
theorem sc_common_along : FnScope ["one", "other", "low", "high"] ["one", "other"] (defScope s_common_along) := ⟨rfl, rfl, rfl, by decide +kernel, rfl, by decide +kernel, by decide +kernel⟩
set_option maxHeartbeats 4000000 in
theorem ok_common_along {P : Program} {w : World} {K : PySem.W.Frag} {mg : Str → Option Value} {base : Heap} {m_is_lesser : DFn} (C_is_lesser : Cal P w K mg base 1 "is_lesser" ["one", "other"] m_is_lesser) {f : Addr} {fd : FuncData} (B : Blt mg) (F : GF K mg "common_along" s_common_along f fd) : Cal P w K mg base 2 "common_along" ["one", "other"] (f_common_along m_is_lesser) :=
  cal_g F (fun _ _ _ _ _ _ => on2 fun _ _ => rfl) sc_common_along fun cdv A outer s H E g hr =>
    have nd := sc_common_along.nd
    (ss_cons (s_set (i := 2) nd rfl (by first | exact Or.inl rfl | exact Or.inr rfl) (eo_if (to_truth (EO.b (eo_calC C_is_lesser _ hr (by decide) (by rfl) (ac (eo_ix ix_D r_ix (bo_var (pv 0)) (EO.b eo_int) (fun _ _ => rfl)) (ac (eo_ix ix_D r_ix (bo_var (pv 1)) (EO.b eo_int) (fun _ _ => rfl)) ao_nil)) (dCons_len (dCons_len dNil_len))))) (eo_ix ix_D r_ix (bo_var (pv 1)) (EO.b eo_int) (fun _ _ => rfl)) (eo_ix ix_D r_ix (bo_var (pv 0)) (EO.b eo_int) (fun _ _ => rfl)))) (ss_cons (s_set (i := 3) nd rfl (by first | exact Or.inl rfl | exact Or.inr rfl) (eo_if (to_truth (EO.b (eo_calC C_is_lesser _ hr (by decide) (by rfl) (ac (eo_ix ix_D r_ix (bo_var (pv 0)) (EO.b eo_int) (fun _ _ => rfl)) (ac (eo_ix ix_D r_ix (bo_var (pv 1)) (EO.b eo_int) (fun _ _ => rfl)) ao_nil)) (dCons_len (dCons_len dNil_len))))) (eo_ix ix_D r_ix (bo_var (pv 0)) (EO.b eo_int) (fun _ _ => rfl)) (eo_ix ix_D r_ix (bo_var (pv 1)) (EO.b eo_int) (fun _ _ => rfl)))) (ss_cons (s_if (to_truth (EO.b (eo_calC C_is_lesser _ hr (by decide) (by rfl) (ac (eo_var (pv 3)) (ac (eo_var (pv 2)) ao_nil)) (dCons_len (dCons_len dNil_len))))) (ss_one (s_ret eo_non)) ss_nil) (ss_cons (s_if (to_cmp (op_eqD (u64 hr)) r_eq (bo_var (pv 2)) (bo_var (pv 3)) (nomark _)) (ss_one (s_ret (eo_tup (ac (eo_str (by decide +kernel)) (ac (eo_var (pv 2)) ao_nil))))) ss_nil) (ss_one (s_ret (eo_tup (ac (eo_str (by decide +kernel)) (ac (eo_var (pv 2)) (ac (eo_var (pv 3)) ao_nil))))))))))
abbrev s_divisor_of_two : Stmt := top 1
theorem sc_divisor_of_two : FnScope ["one", "other", "greater", "rest", "left_over"] ["one", "other"] (defScope s_divisor_of_two) := ⟨rfl, rfl, rfl, by decide +kernel, rfl, by decide +kernel, by decide +kernel⟩
set_option maxHeartbeats 4000000 in
theorem ok_divisor_of_two {P : Program} {w : World} {K : PySem.W.Frag} {mg : Str → Option Value} {base : Heap} {f : Addr} {fd : FuncData} (B : Blt mg) (F : GF K mg "divisor_of_two" s_divisor_of_two f fd) : Cal P w K mg base 1 "divisor_of_two" ["one", "other"] (f_divisor_of_two) :=
  cal_g F (fun _ _ _ _ _ _ => on2 fun _ _ => rfl) sc_divisor_of_two fun cdv A outer s H E g hr =>
    have nd := sc_divisor_of_two.nd
    (ss_cons (s_set (i := 2) nd rfl (by first | exact Or.inl rfl | exact Or.inr rfl) (eo_cb call_abs r_abs (by rfl) B.abs boot_abs' (bc (bo_var (pv 0)) bao_nil))) (ss_cons (s_set (i := 3) nd rfl (by first | exact Or.inl rfl | exact Or.inr rfl) (eo_cb call_abs r_abs (by rfl) B.abs boot_abs' (bc (bo_var (pv 1)) bao_nil))) (ss_cons (s_while PassesOwn.never (to_cmp (op_neD (u64 hr)) r_ne (bo_var (pv 3)) (EO.b eo_int) (nomark _)) (ss_cons (s_set (i := 4) nd rfl (by first | exact Or.inl rfl | exact Or.inr rfl) (eo_op op_modN r_mod (bo_var (pv 2)) (bo_var (pv 3)))) (ss_cons (s_set (i := 2) nd rfl (by first | exact Or.inl rfl | exact Or.inr rfl) (eo_var (pv 3))) (ss_one (s_set (i := 3) nd rfl (by first | exact Or.inl rfl | exact Or.inr rfl) (eo_var (pv 4))))))) (ss_one (s_ret (eo_var (pv 2)))))))
abbrev s_divisor : Stmt := top 2
theorem sc_divisor : FnScope ["parts", "shared", "part"] ["parts"] (defScope s_divisor) := ⟨rfl, rfl, rfl, by decide +kernel, rfl, by decide +kernel, by decide +kernel⟩
set_option maxHeartbeats 4000000 in
theorem ok_divisor {P : Program} {w : World} {K : PySem.W.Frag} {mg : Str → Option Value} {base : Heap} {m_divisor_of_two : DFn} (C_divisor_of_two : Cal P w K mg base 1 "divisor_of_two" ["one", "other"] m_divisor_of_two) {f : Addr} {fd : FuncData} (B : Blt mg) (F : GF K mg "divisor" s_divisor f fd) : Cal P w K mg base 2 "divisor" ["parts"] (f_divisor m_divisor_of_two) :=
  cal_g F (fun _ _ _ _ _ _ => on1 fun _ => rfl) sc_divisor fun cdv A outer s H E g hr =>
    have nd := sc_divisor.nd
    (ss_cons (s_set (i := 1) nd rfl (by first | exact Or.inl rfl | exact Or.inr rfl) eo_int) (ss_cons (s_for PassesOwn.never rfl (eo_var (pv 0)) (g_name (pg_name (i := 2) nd rfl (by first | exact Or.inl rfl | exact Or.inr rfl))) (ss_one (s_set (i := 1) nd rfl (by first | exact Or.inl rfl | exact Or.inr rfl) (eo_calC C_divisor_of_two _ hr (by decide) (by rfl) (ac (eo_var (pv 1)) (ac (eo_var (pv 2)) ao_nil)) (dCons_len (dCons_len dNil_len)))))) (ss_one (s_ret (eo_var (pv 1))))))
abbrev s_lowest : Stmt := top 3
theorem sc_lowest : FnScope ["parts", "shared"] ["parts"] (defScope s_lowest) := ⟨rfl, rfl, rfl, by decide +kernel, rfl, by decide +kernel, by decide +kernel⟩
set_option maxHeartbeats 4000000 in
theorem ok_lowest {P : Program} {w : World} {K : PySem.W.Frag} {mg : Str → Option Value} {base : Heap} {m_divisor : DFn} (C_divisor : Cal P w K mg base 2 "divisor" ["parts"] m_divisor) {f : Addr} {fd : FuncData} (B : Blt mg) (F : GF K mg "lowest" s_lowest f fd) : Cal P w K mg base 3 "lowest" ["parts"] (f_lowest m_divisor) :=
  cal_g F (fun _ _ _ _ _ _ => on1 fun _ => rfl) sc_lowest fun cdv A outer s H E g hr =>
    have nd := sc_lowest.nd
    (ss_cons (s_set (i := 1) nd rfl (by first | exact Or.inl rfl | exact Or.inr rfl) (eo_calC C_divisor _ hr (by decide) (by rfl) (ac (eo_var (pv 0)) ao_nil) (dCons_len dNil_len))) (ss_cons (s_if (to_cmp op_lt (r_cmp (fun i j => decide (i < j))) (EO.b (eo_ix ix_D r_ix (bo_var (pv 0)) (EO.b (eo_un un_neg r_neg (EO.b eo_int))) (fun _ _ => rfl))) (EO.b eo_int) (nomark _)) (ss_one (s_set (i := 1) nd rfl (by first | exact Or.inl rfl | exact Or.inr rfl) (eo_un un_neg r_neg (bo_var (pv 1))))) ss_nil) (ss_one (s_ret (eo_cty call_tuple_of r_tuple (by rfl) B.tuple boot_tuple' (bc (EO.b (FO.v (fo_comp1 (N' := ["part", "shared"]) (idx := [1]) rfl (compOk1 (by rfl) (.cons rfl .nil) (by decide +kernel) rfl (by decide +kernel) (by rfl) (.cons rfl (by first | exact Or.inl rfl | exact Or.inr rfl) (by first | exact Or.inl rfl | exact Or.inr rfl) .nil)) (io_seq (eo_var (pv 0))) (fun _ _ _ _ => pg_name (i := 0) (show List.Nodup (["part", "shared"] : List Str) by decide +kernel) rfl (Or.inl rfl)) (fun _ _ _ _ _ => ifs_nil) (fun _ _ _ _ _ => (eo_op op_fdivB r_div (bo_var (pv 0)) (bo_var (pv 1))))))) bao_nil))))))
abbrev s_crossing : Stmt := top 12
theorem sc_crossing : FnScope ["line", "other"] ["line", "other"] (defScope s_crossing) := ⟨rfl, rfl, rfl, by decide +kernel, rfl, by decide +kernel, by decide +kernel⟩
set_option maxHeartbeats 4000000 in
theorem ok_crossing {P : Program} {w : World} {K : PySem.W.Frag} {mg : Str → Option Value} {base : Heap} {m_lowest : DFn} {m_upright : DFn} (C_lowest : Cal P w K mg base 3 "lowest" ["parts"] m_lowest) (C_upright : Cal P w K mg base 1 "upright" ["one", "other"] m_upright) {f : Addr} {fd : FuncData} (B : Blt mg) (F : GF K mg "crossing" s_crossing f fd) : Cal P w K mg base 4 "crossing" ["line", "other"] (f_crossing m_lowest m_upright) :=
  cal_g F (fun _ _ _ _ _ _ => on2 fun _ _ => rfl) sc_crossing fun cdv A outer s H E g hr =>
    have nd := sc_crossing.nd
    (ss_one (s_ret (eo_calC C_lowest _ hr (by decide) (by rfl) (ac (eo_calC C_upright _ hr (by decide) (by rfl) (ac (eo_var (pv 0)) (ac (eo_var (pv 1)) ao_nil)) (dCons_len (dCons_len dNil_len))) ao_nil) (dCons_len dNil_len))))
abbrev s_span : Stmt := top 8
theorem sc_span : FnScope ["a", "b"] ["a", "b"] (defScope s_span) := ⟨rfl, rfl, rfl, by decide +kernel, rfl, by decide +kernel, by decide +kernel⟩
set_option maxHeartbeats 4000000 in
theorem ok_span {P : Program} {w : World} {K : PySem.W.Frag} {mg : Str → Option Value} {base : Heap} {m_is_lesser : DFn} (C_is_lesser : Cal P w K mg base 1 "is_lesser" ["one", "other"] m_is_lesser) {f : Addr} {fd : FuncData} (B : Blt mg) (F : GF K mg "span" s_span f fd) : Cal P w K mg base 2 "span" ["a", "b"] (f_span m_is_lesser) :=
  cal_g F (fun _ _ _ _ _ _ => on2 fun _ _ => rfl) sc_span fun cdv A outer s H E g hr =>
    have nd := sc_span.nd
    (ss_one (s_ret (eo_if (to_truth (EO.b (eo_calC C_is_lesser _ hr (by decide) (by rfl) (ac (eo_var (pv 0)) (ac (eo_var (pv 1)) ao_nil)) (dCons_len (dCons_len dNil_len))))) (eo_tup (ac (eo_var (pv 0)) (ac (eo_var (pv 1)) ao_nil))) (eo_tup (ac (eo_var (pv 1)) (ac (eo_var (pv 0)) ao_nil))))))
abbrev s_common : Stmt := top 14
theorem sc_common : FnScope ["one", "other", "line", "other_line", "sides", "other_sides"] ["one", "other"] (defScope s_common) := ⟨rfl, rfl, rfl, by decide +kernel, rfl, by decide +kernel, by decide +kernel⟩
set_option maxHeartbeats 4000000 in
theorem ok_common {P : Program} {w : World} {K : PySem.W.Frag} {mg : Str → Option Value} {base : Heap} {m_crossing : DFn} {m_side_of : DFn} {m_common_along : DFn} {m_span : DFn} {m_straight : DFn} (C_crossing : Cal P w K mg base 4 "crossing" ["line", "other"] m_crossing) (C_side_of : Cal P w K mg base 2 "side_of" ["line", "one"] m_side_of) (C_common_along : Cal P w K mg base 2 "common_along" ["one", "other"] m_common_along) (C_span : Cal P w K mg base 2 "span" ["a", "b"] m_span) (C_straight : Cal P w K mg base 2 "straight" ["a", "b"] m_straight) {f : Addr} {fd : FuncData} (B : Blt mg) (F : GF K mg "common" s_common f fd) : Cal P w K mg base 5 "common" ["one", "other"] (f_common m_crossing m_side_of m_common_along m_span m_straight) :=
  cal_g F (fun _ _ _ _ _ _ => on2 fun _ _ => rfl) sc_common fun cdv A outer s H E g hr =>
    have nd := sc_common.nd
    (ss_cons (s_set (i := 2) nd rfl (by first | exact Or.inl rfl | exact Or.inr rfl) (eo_calC C_straight _ hr (by decide) (by rfl) (ac (eo_ix ix_D r_ix (bo_var (pv 0)) (EO.b eo_int) (fun _ _ => rfl)) (ac (eo_ix ix_D r_ix (bo_var (pv 0)) (EO.b eo_int) (fun _ _ => rfl)) ao_nil)) (dCons_len (dCons_len dNil_len)))) (ss_cons (s_set (i := 3) nd rfl (by first | exact Or.inl rfl | exact Or.inr rfl) (eo_calC C_straight _ hr (by decide) (by rfl) (ac (eo_ix ix_D r_ix (bo_var (pv 1)) (EO.b eo_int) (fun _ _ => rfl)) (ac (eo_ix ix_D r_ix (bo_var (pv 1)) (EO.b eo_int) (fun _ _ => rfl)) ao_nil)) (dCons_len (dCons_len dNil_len)))) (ss_cons (s_setC (i := 4) nd rfl (by first | exact Or.inl rfl | exact Or.inr rfl) (co_comp1 (N' := ["end", "line"]) (idx := [2]) rfl (compOk1 (by rfl) (.cons rfl .nil) (by decide +kernel) rfl (by decide +kernel) (by rfl) (.cons rfl (by first | exact Or.inl rfl | exact Or.inr rfl) (by first | exact Or.inl rfl | exact Or.inr rfl) .nil)) (io_seq (eo_var (pv 1))) (fun _ _ _ _ => pg_name (i := 0) (show List.Nodup (["end", "line"] : List Str) by decide +kernel) rfl (Or.inl rfl)) (fun _ _ _ _ _ => ifs_nil) (fun _ _ _ _ _ => (eo_calC C_side_of _ hr (by decide) (by rfl) (ac (eo_var (pv 1)) (ac (eo_var (pv 0)) ao_nil)) (dCons_len (dCons_len dNil_len)))))) (ss_cons (s_if (to_cmp (op_eqD (u64 hr)) r_eq (bo_var (pv 4)) (EO.b (FO.v (fo_lst (ac eo_int (ac eo_int ao_nil))))) (nomark _)) (ss_one (s_ret (eo_calC C_common_along _ hr (by decide) (by rfl) (ac (eo_calC C_span _ hr (by decide) (by rfl) (ac (eo_ix ix_D r_ix (bo_var (pv 0)) (EO.b eo_int) (fun _ _ => rfl)) (ac (eo_ix ix_D r_ix (bo_var (pv 0)) (EO.b eo_int) (fun _ _ => rfl)) ao_nil)) (dCons_len (dCons_len dNil_len))) (ac (eo_calC C_span _ hr (by decide) (by rfl) (ac (eo_ix ix_D r_ix (bo_var (pv 1)) (EO.b eo_int) (fun _ _ => rfl)) (ac (eo_ix ix_D r_ix (bo_var (pv 1)) (EO.b eo_int) (fun _ _ => rfl)) ao_nil)) (dCons_len (dCons_len dNil_len))) ao_nil)) (dCons_len (dCons_len dNil_len))))) ss_nil) (ss_cons (s_setC (i := 5) nd rfl (by first | exact Or.inl rfl | exact Or.inr rfl) (co_comp1 (N' := ["end", "other_line"]) (idx := [3]) rfl (compOk1 (by rfl) (.cons rfl .nil) (by decide +kernel) rfl (by decide +kernel) (by rfl) (.cons rfl (by first | exact Or.inl rfl | exact Or.inr rfl) (by first | exact Or.inl rfl | exact Or.inr rfl) .nil)) (io_seq (eo_var (pv 0))) (fun _ _ _ _ => pg_name (i := 0) (show List.Nodup (["end", "other_line"] : List Str) by decide +kernel) rfl (Or.inl rfl)) (fun _ _ _ _ _ => ifs_nil) (fun _ _ _ _ _ => (eo_calC C_side_of _ hr (by decide) (by rfl) (ac (eo_var (pv 1)) (ac (eo_var (pv 0)) ao_nil)) (dCons_len (dCons_len dNil_len)))))) (ss_cons (s_if (WO.t (wo_or (to_cmp (op_eqD (u64 hr)) r_eq (EO.b (eo_op op_mulD r_mul (EO.b (eo_ix ix_D r_ix (bo_var (pv 4)) (EO.b eo_int) (fun _ _ => rfl))) (EO.b (eo_ix ix_D r_ix (bo_var (pv 4)) (EO.b eo_int) (fun _ _ => rfl))))) (EO.b eo_int) (nomark _)) (wo_or1 (to_cmp (op_eqD (u64 hr)) r_eq (EO.b (eo_op op_mulD r_mul (EO.b (eo_ix ix_D r_ix (bo_var (pv 5)) (EO.b eo_int) (fun _ _ => rfl))) (EO.b (eo_ix ix_D r_ix (bo_var (pv 5)) (EO.b eo_int) (fun _ _ => rfl))))) (EO.b eo_int) (nomark _))))) (ss_one (s_ret eo_non)) ss_nil) (ss_one (s_ret (eo_tup (ac (eo_str (by decide +kernel)) (ac (eo_calC C_crossing _ hr (by decide) (by rfl) (ac (eo_var (pv 2)) (ac (eo_var (pv 3)) ao_nil)) (dCons_len (dCons_len dNil_len))) ao_nil)))))))))))
abbrev s_law : Stmt := top 39
theorem sc_law : FnScope ["_law_script", "_law_tape", "_law_k", "_law_one", "_law_other_here", "_law_due", "_law_first", "_law_second"] ["_law_script"] (defScope s_law) := ⟨rfl, rfl, rfl, by decide +kernel, rfl, by decide +kernel, by decide +kernel⟩
set_option maxHeartbeats 4000000 in
theorem okf_law {P : Program} {w : World} {K : PySem.W.Frag} {mg : Str → Option Value} {base : Heap} {m_common : DFn} {m_law_common : DFn} {m_law_draw : DFn} {m_law_other : DFn} {m_law_piece : DFn} {m_law_new_tape : DFn} (C_common : Cal P w K mg base 5 "common" ["one", "other"] m_common) (C_law_common : Cal P w K mg base 7 "_law_common" ["_law_one", "_law_other_here"] m_law_common) (C_law_draw : Cal P w K mg base 1 "_law_draw" ["_law_tape", "_law_many"] m_law_draw) (C_law_other : Cal P w K mg base 7 "_law_other" ["_law_tape", "_law_piece_here"] m_law_other) (C_law_piece : Cal P w K mg base 4 "_law_piece" ["_law_tape"] m_law_piece) (C_law_new_tape : Cal P w K mg base 1 "_law_new_tape" ["_law_script"] m_law_new_tape) {f : Addr} {fd : FuncData} (B : Blt mg) (F : Fun K "law" "law" s_law f fd) : FnD P w K mg base 8 f fd ["_law_script"] (f_LAWk54 m_common m_law_common m_law_draw m_law_other m_law_piece m_law_new_tape) :=
  fn_D F sc_law fun cdv A outer s H E g hr =>
    have nd := sc_law.nd
    (ss_cons (s_set (i := 1) nd rfl (by first | exact Or.inl rfl | exact Or.inr rfl) (eo_calC C_law_new_tape _ hr (by decide) (by rfl) (ac (eo_var (pv 0)) ao_nil) (dCons_len dNil_len))) (ss_cons (s_for1 PassesOwn.never rfl (by rfl) B.range eo_int (g_name (pg_name (i := 2) nd rfl (by first | exact Or.inl rfl | exact Or.inr rfl))) (ss_cons (s_set (i := 3) nd rfl (by first | exact Or.inl rfl | exact Or.inr rfl) (eo_calC C_law_piece _ hr (by decide) (by rfl) (ac (eo_var (pv 1)) ao_nil) (dCons_len dNil_len))) (ss_cons (s_set (i := 4) nd rfl (by first | exact Or.inl rfl | exact Or.inr rfl) (eo_if (to_cmp (op_eqD (u64 hr)) r_eq (EO.b (eo_calC C_law_draw _ hr (by decide) (by rfl) (ac (eo_var (pv 1)) (ac eo_int ao_nil)) (dCons_len (dCons_len dNil_len)))) (EO.b eo_int) (nomark _)) (eo_var (pv 3)) (eo_calC C_law_other _ hr (by decide) (by rfl) (ac (eo_var (pv 1)) (ac (eo_var (pv 3)) ao_nil)) (dCons_len (dCons_len dNil_len))))) (ss_cons (s_set (i := 5) nd rfl (by first | exact Or.inl rfl | exact Or.inr rfl) (eo_calC C_law_common _ hr (by decide) (by rfl) (ac (eo_var (pv 3)) (ac (eo_var (pv 4)) ao_nil)) (dCons_len (dCons_len dNil_len)))) (ss_one (s_for PassesOwn.never rfl (FO.v (fo_lst (ac (eo_tup (ac (eo_var (pv 3)) (ac (eo_var (pv 4)) ao_nil))) (ac (eo_tup (ac (eo_var (pv 4)) (ac (eo_var (pv 3)) ao_nil))) (ac (eo_tup (ac (eo_rev (bo_var (pv 3)) (EO.b (eo_un un_neg r_neg (EO.b eo_int)))) (ac (eo_var (pv 4)) ao_nil))) (ac (eo_tup (ac (eo_rev (bo_var (pv 4)) (EO.b (eo_un un_neg r_neg (EO.b eo_int)))) (ac (eo_rev (bo_var (pv 3)) (EO.b (eo_un un_neg r_neg (EO.b eo_int)))) ao_nil))) ao_nil)))))) (g_tup rfl (gs_cons (g_name (pg_name (i := 6) nd rfl (by first | exact Or.inl rfl | exact Or.inr rfl))) (gs_cons (g_name (pg_name (i := 7) nd rfl (by first | exact Or.inl rfl | exact Or.inr rfl))) gs_nil))) (ss_one (s_if (to_cmp (op_neD (u64 hr)) r_ne (EO.b (eo_cb (c_repr (u66 hr) hr.gd) r_repr (by rfl) B.repr boot_repr' (bc (EO.b (eo_calC C_common _ hr (by decide) (by rfl) (ac (eo_var (pv 6)) (ac (eo_var (pv 7)) ao_nil)) (dCons_len (dCons_len dNil_len)))) bao_nil))) (EO.b (eo_cb (c_repr (u66 hr) hr.gd) r_repr (by rfl) B.repr boot_repr' (bc (bo_var (pv 5)) bao_nil))) (nomark _)) (ss_one (s_ret eo_bl)) ss_nil)))))))) (ss_one (s_ret eo_bl))))
end T

namespace T
open PySem PySem.Spec L2 DL
noncomputable abbrev whole : DFn := (f_LAWk54 (f_common (f_crossing (f_lowest (f_divisor f_divisor_of_two)) f_upright) (f_side_of f_sign) (f_common_along f_is_lesser) (f_span f_is_lesser) (f_straight f_upright)) (f_law_common__2 (f_law_on_the_way (f_law_spot f_law_divisor) (f_law_plus (f_law_low f_law_divisor)) (f_law_product__2 (f_law_low f_law_divisor)) (f_law_far (f_law_minus__2 (f_law_low f_law_divisor)) (f_law_xy__2 (f_law_low f_law_divisor))) (f_law_xy__2 (f_law_low f_law_divisor))) (f_law_is_share f_law_below) (f_law_over (f_law_low f_law_divisor)) (f_law_athwart (f_law_minus__2 (f_law_low f_law_divisor)) (f_law_product__2 (f_law_low f_law_divisor))) (f_law_alongside (f_law_far (f_law_minus__2 (f_law_low f_law_divisor)) (f_law_xy__2 (f_law_low f_law_divisor))) (f_law_on_the_way (f_law_spot f_law_divisor) (f_law_plus (f_law_low f_law_divisor)) (f_law_product__2 (f_law_low f_law_divisor)) (f_law_far (f_law_minus__2 (f_law_low f_law_divisor)) (f_law_xy__2 (f_law_low f_law_divisor))) (f_law_xy__2 (f_law_low f_law_divisor))) f_law_below (f_law_over (f_law_low f_law_divisor)) (f_law_with (f_law_plus (f_law_low f_law_divisor)) (f_law_product__2 (f_law_low f_law_divisor)))) (f_law_far (f_law_minus__2 (f_law_low f_law_divisor)) (f_law_xy__2 (f_law_low f_law_divisor)))) f_law_draw__2 (f_law_other (f_law_on_the_way (f_law_spot f_law_divisor) (f_law_plus (f_law_low f_law_divisor)) (f_law_product__2 (f_law_low f_law_divisor)) (f_law_far (f_law_minus__2 (f_law_low f_law_divisor)) (f_law_xy__2 (f_law_low f_law_divisor))) (f_law_xy__2 (f_law_low f_law_divisor))) f_law_draw__2 (f_law_end (f_law_near (f_law_spot f_law_divisor) (f_law_low f_law_divisor) f_law_draw__2) (f_law_on_the_way (f_law_spot f_law_divisor) (f_law_plus (f_law_low f_law_divisor)) (f_law_product__2 (f_law_low f_law_divisor)) (f_law_far (f_law_minus__2 (f_law_low f_law_divisor)) (f_law_xy__2 (f_law_low f_law_divisor))) (f_law_xy__2 (f_law_low f_law_divisor))) f_law_draw__2)) (f_law_piece f_law_draw__2 (f_law_near (f_law_spot f_law_divisor) (f_law_low f_law_divisor) f_law_draw__2)) f_law_new_tape)
set_option maxHeartbeats 4000000 in
theorem all_mk {l : PySem.W.OpenLaw} {w : World} {K : PySem.W.Frag} {h : Heap} {mg : Str → Option Value} {fa : Addr} (X : K.In h) (G : h.Ns mainGlobals mg) (hfa : mg "law" = some (.ref fa)) {f1 f2 f3 f4 f5 f6 f7 f8 f9 f10 f11 f12 f13 f14 f15 f16 f17 f18 f19 f20 f21 f22 f23 f24 f25 f26 f27 f28 f29 f30 f31 f32 f33 f34 f35 : Addr} {d1 d2 d3 d4 d5 d6 d7 d8 d9 d10 d11 d12 d13 d14 d15 d16 d17 d18 d19 d20 d21 d22 d23 d24 d25 d26 d27 d28 d29 d30 d31 d32 d33 d34 d35 : FuncData} 
    (g1 : GF K mg "_law_new_tape" s_law_new_tape f1 d1)
    (g2 : GF K mg "_law_divisor" s_law_divisor f2 d2)
    (g3 : GF K mg "_law_low" s_law_low f3 d3)
    (g4 : GF K mg "_law_spot" s_law_spot f4 d4)
    (g5 : GF K mg "_law_draw" s_law_draw f5 d5)
    (g6 : GF K mg "_law_near" s_law_near f6 d6)
    (g7 : GF K mg "_law_piece" s_law_piece f7 d7)
    (g8 : GF K mg "_law_xy" s_law_xy f8 d8)
    (g9 : GF K mg "_law_minus" s_law_minus f9 d9)
    (g10 : GF K mg "_law_far" s_law_far f10 d10)
    (g11 : GF K mg "_law_product" s_law_product f11 d11)
    (g12 : GF K mg "_law_athwart" s_law_athwart f12 d12)
    (g13 : GF K mg "_law_over" s_law_over f13 d13)
    (g14 : GF K mg "_law_plus" s_law_plus f14 d14)
    (g15 : GF K mg "_law_on_the_way" s_law_on_the_way f15 d15)
    (g16 : GF K mg "_law_below" s_law_below f16 d16)
    (g17 : GF K mg "_law_with" s_law_with f17 d17)
    (g18 : GF K mg "_law_alongside" s_law_alongside f18 d18)
    (g19 : GF K mg "_law_is_share" s_law_is_share f19 d19)
    (g20 : GF K mg "_law_common" s_law_common f20 d20)
    (g21 : GF K mg "_law_end" s_law_end f21 d21)
    (g22 : GF K mg "_law_other" s_law_other f22 d22)
    (g23 : GF K mg "upright" s_upright f23 d23)
    (g24 : GF K mg "straight" s_straight f24 d24)
    (g25 : GF K mg "sign" s_sign f25 d25)
    (g26 : GF K mg "side_of" s_side_of f26 d26)
    (g27 : GF K mg "is_lesser" s_is_lesser f27 d27)
    (g28 : GF K mg "common_along" s_common_along f28 d28)
    (g29 : GF K mg "divisor_of_two" s_divisor_of_two f29 d29)
    (g30 : GF K mg "divisor" s_divisor f30 d30)
    (g31 : GF K mg "lowest" s_lowest f31 d31)
    (g32 : GF K mg "crossing" s_crossing f32 d32)
    (g33 : GF K mg "span" s_span f33 d33)
    (g34 : GF K mg "common" s_common f34 d34)
    (g35 : GF K mg "law" s_law f35 d35)
    (B : Blt mg) :
    ∃ fd : FuncData, (∀ (s : Shared) (v : Value), BindsTo s fd ⟨[v], []⟩ [("_law_script", v)]) ∧ ∀ base : Heap, K.In base → base.Ns mainGlobals mg → FnOk l.prog w K mg base CX0 8 fa fd ["_law_script"] (spD K 1 whole) := by
  have e := hfa.symm.trans g35.m
  cases e
  refine ⟨d35, law_binds g35.F fun _ _ _ _ _ _ _ _ => .of_eq rfl, fun base _ _ => ?_⟩
  have C_law_new_tape := ok_law_new_tape (P := l.prog) (w := w) (base := base) B g1
  have C_law_divisor := ok_law_divisor (P := l.prog) (w := w) (base := base) B g2
  have C_law_low := ok_law_low C_law_divisor B g3
  have C_law_spot := ok_law_spot C_law_divisor B g4
  have C_law_draw := ok_law_draw (P := l.prog) (w := w) (base := base) B g5
  have C_law_near := ok_law_near C_law_spot C_law_low C_law_draw B g6
  have C_law_piece := ok_law_piece C_law_draw C_law_near B g7
  have C_law_xy := ok_law_xy C_law_low B g8
  have C_law_minus := ok_law_minus C_law_low B g9
  have C_law_far := ok_law_far C_law_minus C_law_xy B g10
  have C_law_product := ok_law_product C_law_low B g11
  have C_law_athwart := ok_law_athwart C_law_minus C_law_product B g12
  have C_law_over := ok_law_over C_law_low B g13
  have C_law_plus := ok_law_plus C_law_low B g14
  have C_law_on_the_way := ok_law_on_the_way C_law_spot C_law_plus C_law_product C_law_far C_law_xy B g15
  have C_law_below := ok_law_below (P := l.prog) (w := w) (base := base) B g16
  have C_law_with := ok_law_with C_law_plus C_law_product B g17
  have C_law_alongside := ok_law_alongside C_law_far C_law_on_the_way C_law_below C_law_over C_law_with B g18
  have C_law_is_share := ok_law_is_share C_law_below B g19
  have C_law_common := ok_law_common C_law_on_the_way C_law_is_share C_law_over C_law_athwart C_law_alongside C_law_far B g20
  have C_law_end := ok_law_end C_law_near C_law_on_the_way C_law_draw B g21
  have C_law_other := ok_law_other C_law_on_the_way C_law_draw C_law_end B g22
  have C_upright := ok_upright (P := l.prog) (w := w) (base := base) B g23
  have C_straight := ok_straight C_upright B g24
  have C_sign := ok_sign (P := l.prog) (w := w) (base := base) B g25
  have C_side_of := ok_side_of C_sign B g26
  have C_is_lesser := ok_is_lesser (P := l.prog) (w := w) (base := base) B g27
  have C_common_along := ok_common_along C_is_lesser B g28
  have C_divisor_of_two := ok_divisor_of_two (P := l.prog) (w := w) (base := base) B g29
  have C_divisor := ok_divisor C_divisor_of_two B g30
  have C_lowest := ok_lowest C_divisor B g31
  have C_crossing := ok_crossing C_lowest C_upright B g32
  have C_span := ok_span C_is_lesser B g33
  have C_common := ok_common C_crossing C_side_of C_common_along C_span C_straight B g34
  exact okf_law C_common C_law_common C_law_draw C_law_other C_law_piece C_law_new_tape B g35.F
end T
open PySem PySem.W PyProof.Rows
set_option maxRecDepth 100000 in
set_option maxHeartbeats 0 in
theorem PySem.Challenge.cw_widelines_k54_what_pieces_have_in_common_holds : PySem.Challenge.rw_widelines_k54_what_pieces_have_in_common.Holds := by
  w_on; o_law; k_head; (case hw => w_witness2)
  k_fill
  refine DL.walkD (l := PySem.Challenge.rw_widelines_k54_what_pieces_have_in_common) (m := T.whole) (k := 8) rfl rfl ⟨rfl, by decide, by decide, rfl⟩ (fun w h Y => PySem.W.kIn_of Y) ?F T.math
  case F =>
    intro w mg fa h KX G hmg
    refine' T.all_mk KX G hmg (DL.gf_mk KX G ?_ ?_ ?_ ?_) (DL.gf_mk KX G ?_ ?_ ?_ ?_) (DL.gf_mk KX G ?_ ?_ ?_ ?_) (DL.gf_mk KX G ?_ ?_ ?_ ?_) (DL.gf_mk KX G ?_ ?_ ?_ ?_) (DL.gf_mk KX G ?_ ?_ ?_ ?_) (DL.gf_mk KX G ?_ ?_ ?_ ?_) (DL.gf_mk KX G ?_ ?_ ?_ ?_) (DL.gf_mk KX G ?_ ?_ ?_ ?_) (DL.gf_mk KX G ?_ ?_ ?_ ?_) (DL.gf_mk KX G ?_ ?_ ?_ ?_) (DL.gf_mk KX G ?_ ?_ ?_ ?_) (DL.gf_mk KX G ?_ ?_ ?_ ?_) (DL.gf_mk KX G ?_ ?_ ?_ ?_) (DL.gf_mk KX G ?_ ?_ ?_ ?_) (DL.gf_mk KX G ?_ ?_ ?_ ?_) (DL.gf_mk KX G ?_ ?_ ?_ ?_) (DL.gf_mk KX G ?_ ?_ ?_ ?_) (DL.gf_mk KX G ?_ ?_ ?_ ?_) (DL.gf_mk KX G ?_ ?_ ?_ ?_) (DL.gf_mk KX G ?_ ?_ ?_ ?_) (DL.gf_mk KX G ?_ ?_ ?_ ?_) (DL.gf_mk KX G ?_ ?_ ?_ ?_) (DL.gf_mk KX G ?_ ?_ ?_ ?_) (DL.gf_mk KX G ?_ ?_ ?_ ?_) (DL.gf_mk KX G ?_ ?_ ?_ ?_) (DL.gf_mk KX G ?_ ?_ ?_ ?_) (DL.gf_mk KX G ?_ ?_ ?_ ?_) (DL.gf_mk KX G ?_ ?_ ?_ ?_) (DL.gf_mk KX G ?_ ?_ ?_ ?_) (DL.gf_mk KX G ?_ ?_ ?_ ?_) (DL.gf_mk KX G ?_ ?_ ?_ ?_) (DL.gf_mk KX G ?_ ?_ ?_ ?_) (DL.gf_mk KX G ?_ ?_ ?_ ?_) (DL.gf_mk KX G ?_ ?_ ?_ ?_) (DL.blt_mk KX G ?_ ?_ ?_ ?_ ?_ ?_ ?_ ?_ ?_ ?_ ?_ ?_ ?_ ?_ ?_ ?_ ?_ ?_ ?_)
    all_goals try k_is



