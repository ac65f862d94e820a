import PyProof.Rows.All
import Wide.All
import OpenK.AllK
import Wide.FinOn
import Lean
import PyProof.EqAt
import PyProof.EqKinds
import PyProof.TupleCall
import PySem.Challenge.RW_widelines_k50_places_lines_rules_changed
def PySem.W.Fast.tw7081944143178124371 : Unit := ()
def PySem.W.Fast.tw15289532791588829462 : Unit := ()
def PySem.W.Fast.tw13504907955967191256 : Unit := ()
def PySem.W.Fast.tw12440227909338459521 : Unit := ()
def PySem.W.Fast.tw4596347302732401595 : Unit := ()
def PySem.W.Fast.tw1623807001346045564 : Unit := ()
def PySem.W.Fast.tw238964823673971890 : Unit := ()
def PySem.W.Fast.tw11509954861189947588 : Unit := ()
def PySem.W.Fast.tw3159612663303778796 : Unit := ()
def PySem.W.Fast.tw5542667509139990554 : Unit := ()
def PySem.W.Fast.tw8076580232703856294 : Unit := ()
def PySem.W.Fast.tw10873025839462732631 : Unit := ()
def PySem.W.Fast.tw6473816329463228024 : Unit := ()
def PySem.W.Fast.tw18139202190854908534 : Unit := ()
def PySem.W.Fast.tw8538859469803703704 : Unit := ()
def PySem.W.Fast.tw9163806494216247952 : Unit := ()
def PySem.W.Fast.tw10525560914239088390 : Unit := ()
def PySem.W.Fast.tw6914434061272882101 : Unit := ()
def PySem.W.Fast.tw185999175089794801 : Unit := ()
def PySem.W.Fast.tw3589622434239469681 : Unit := ()
def PySem.W.Fast.tw8167886090734551251 : Unit := ()
def PySem.W.Fast.tw15670472042940352758 : Unit := ()
def PySem.W.Fast.tw17513309530938230666 : Unit := ()
def PySem.W.Fast.tw16266048270500526725 : Unit := ()
def PySem.W.Fast.tw17467082272991376144 : Unit := ()
def PySem.W.Fast.tw2656743143778132852 : Unit := ()
local macro_rules | `(tactic| omega) => `(tactic| first | with_reducible assumption | decide | omega +splitMinMax)
theorem PySem.W.Fast.te15289532791588829462 : True := True.intro
set_option Elab.async false
set_option linter.all false
set_option maxRecDepth 100000
set_option bootstrap.genMatcherCode false
set_option genSizeOf false
namespace L2
open PySem PySem.Spec PyProof.Rows
noncomputable abbrev Key := Sum Int Str
noncomputable def M0 : Key → Value → Bool
 | .inl k, v => Value.isInt k v
 | .inr x, v => Value.isStrOf x v
noncomputable def a74 (w : World) : Key → Int
 | .inl k => hashInt k
 | .inr x => hashStr w x
theorem G5 : ∀ {k : Key} {v : Value}, M0 k v = true → (∃ i t, k = Sum.inl i ∧ v = Value.int i t) ∨ (∃ x t, k = Sum.inr x ∧ v = Value.str x t)
 | .inl i, v, h => by
  obtain ⟨t, e⟩ := Value.isInt_shape (k := i) (v := v) h
  exact .inl ⟨i, t, rfl, e⟩
 | .inr x, v, h => by
  obtain ⟨t, e⟩ := Value.isStrOf_shape (x := x) (v := v) h
  exact .inr ⟨x, t, rfl, e⟩
theorem a5w (i : Int) (t : Tok) : M0 (.inl i) (.int i t) = true := by simp [M0, Value.isInt]
theorem a1u (x : Str) (t : Tok) : M0 (.inr x) (.str x t) = true := by simp [M0, Value.isStrOf]
theorem a5y (a b : Int) : decide ((Sum.inl a : Key) = Sum.inl b) = (a == b) := by
 by_cases e : a = b
 ·subst e; simp
 ·have h : ¬ (Sum.inl a : Key) = Sum.inl b := fun q => e (Sum.inl.inj q)
  rw [decide_eq_false h]
  exact (beq_eq_false_iff_ne.mpr e).symm
theorem b0C (a b : Str) : decide ((Sum.inr a : Key) = Sum.inr b) = decide (a = b) := by
 by_cases e : a = b
 ·subst e; simp
 ·have h : ¬ (Sum.inr a : Key) = Sum.inr b := fun q => e (Sum.inr.inj q)
  rw [decide_eq_false h, decide_eq_false e]
theorem a6O (a : Int) (b : Str) : decide ((Sum.inl a : Key) = Sum.inr b) = false := decide_eq_false (fun q => nomatch q)
theorem a7u (a : Str) (b : Int) : decide ((Sum.inr a : Key) = Sum.inl b) = false := decide_eq_false (fun q => nomatch q)
noncomputable def A0 (prog : Program) (w : World) : PySem.KeyKind prog w Key where
 is := M0
 hash := a74 w
 inj := fun v a b ha hb => by
  rcases G5 ha with ⟨i, t, rfl, rfl⟩ | ⟨x, t, rfl, rfl⟩
  ·rcases G5 hb with ⟨j, u, rfl, e⟩ | ⟨y, u, rfl, e⟩
   ·injection e with e1 _; rw [e1]
   ·exact nomatch e
  ·rcases G5 hb with ⟨j, u, rfl, e⟩ | ⟨y, u, rfl, e⟩
   ·exact nomatch e
   ·injection e with e1 _; rw [e1]
 byValue := fun k v h => by
  rcases G5 h with ⟨i, t, rfl, rfl⟩ | ⟨x, t, rfl, rfl⟩ <;> rfl
 pyHash := fun hv h => by
  rcases G5 hv with ⟨i, t, rfl, rfl⟩ | ⟨x, t, rfl, rfl⟩
  ·exact wpAny_pyHash_int h
  ·exact wpAny_pyHash_str h
 eqBool := fun hu hv h => by
  rcases G5 hu with ⟨i, t, rfl, rfl⟩ | ⟨x, t, rfl, rfl⟩
  ·rcases G5 hv with ⟨j, u, rfl, rfl⟩ | ⟨y, u, rfl, rfl⟩
   ·rw [a5y] at h; exact wpAny_eqBool_int h
   ·rw [a6O] at h; exact SeqAt.EqAt.int_str i t y u _ _ _ _ h
  ·rcases G5 hv with ⟨j, u, rfl, rfl⟩ | ⟨y, u, rfl, rfl⟩
   ·rw [a7u] at h; exact SeqAt.EqAt.str_int x t j u _ _ _ _ h
   ·rw [b0C] at h; exact wpAny_eqBool_str h
 «strs» := fun k x t v h => by
  rcases G5 h with ⟨i, u, rfl, e⟩ | ⟨y, u, rfl, e⟩
  ·exact nomatch e
  ·injection e with e1 _
   subst e1
   cases v <;> rfl
theorem a8u (prog : Program) (w : World) (i : Int) (t : Tok) : (A0 prog w).is (.inl i) (.int i t) = true := a5w i t
theorem a92 (prog : Program) (w : World) (x : Str) (t : Tok) : (A0 prog w).is (.inr x) (.str x t) = true := a1u x t
inductive V where
 | non | bl (b : Bool) | int (i : Int) | str (x : Str) | byt (b : Array UInt8) | flt (b : UInt64) | ref (a : Addr) | ty (n : String)
 deriving DecidableEq
noncomputable def RelV : V → Value → Prop
 | .non, u => u = Value.none
 | .bl b, u => u = Value.bool b
 | .int i, u => ∃ t, u = Value.int i t
 | .str x, u => ∃ t, u = Value.str x t
 | .byt b, u => ∃ t, u = Value.bytes b t
 | .flt b, u => ∃ t, u = Value.float b t
 | .ref a, u => u = Value.ref a
 | .ty n, u => u = Value.type n
noncomputable abbrev Vals : List V → List Value → Prop := Paired RelV
theorem Vals.length {xs : List V} {us : List Value} (r : Vals xs us) : xs.length = us.length := Paired.length r
theorem Vals.get : ∀ {xs : List V} {us : List Value} {i : Nat} {x : V}, Vals xs us → xs[i]? = some x → ∃ u, us[i]? = some u ∧ RelV x u
 | _, _, _, _, .nil, e => by simp at e
 | _, _, 0, _, .cons r _, e => by simp at e; subst e; exact ⟨_, rfl, r⟩
 | _, _, i + 1, x, .cons _ t, e => by
  obtain ⟨u, h1, h2⟩ := Vals.get (i := i) (x := x) t (by simpa using e)
  exact ⟨u, by simpa using h1, h2⟩
theorem Vals.set {x : V} {u : Value} (r : RelV x u) : ∀ {xs : List V} {us : List Value} (i : Nat), Vals xs us → Vals (xs.set i x) (us.set i u)
 | _, _, _, .nil => .nil
 | _, _, 0, .cons _ t => .cons r t
 | _, _, i + 1, .cons q t => .cons q (Vals.set r i t)
theorem Vals.append : ∀ {xs ys : List V} {us ws : List Value}, Vals xs us → Vals ys ws → Vals (xs ++ ys) (us ++ ws) := by
 intro xs ys us ws h s
 induction h with
 | nil => exact s
 | cons r t ih => exact .cons r ih
theorem Vals.take : ∀ {xs : List V} {us : List Value} (n : Nat), Vals xs us → Vals (xs.take n) (us.take n)
 | _, _, 0, _ => .nil
 | _, _, _ + 1, .nil => .nil
 | _, _, n + 1, .cons r t => .cons r (Vals.take n t)
theorem Vals.drop : ∀ {xs : List V} {us : List Value} (n : Nat), Vals xs us → Vals (xs.drop n) (us.drop n)
 | _, _, 0, r => r
 | _, _, _ + 1, .nil => .nil
 | _, _, n + 1, .cons _ t => Vals.drop n t
noncomputable def RelO : Option V → Option Value → Prop
 | some v, some u => RelV v u
 | none, none => True
 | _, _ => False
noncomputable def KV {κ : Type} : List (κ × V) → List (κ × Value) → Prop := Paired fun (p : κ × V) (q : κ × Value) => p.1 = q.1 ∧ RelV p.2 q.2
noncomputable def kV : Key → V
 | .inl i => .int i
 | .inr x => .str x
inductive HO where
 | lst (xs : List V)
 | tup (xs : List V)
 | dK (kvs : List (Key × V)) | dT (kvs : List (List Key × V))
 | set (S : Int → Bool) (n : Nat)
 | ins (C dx : Addr) (fs : List (Str × V))
 | own (x : Addr)
 | xd (fs : List (Str × V))
 | met (f x : Addr)
 | rng (lo hi : Int)
 | frz (o : Obj) (u : HO)
 | tbl (ps : Array Value)
 | ext (φ : Heap → Prop)
noncomputable abbrev Hp := Addr → Option HO
noncomputable def upd (H : Hp) (a : Addr) (o : HO) : Hp := fun b => if b = a then some o else H b
theorem u9 {H : Hp} {a : Addr} {o : HO} : upd H a o a = some o := by unfold upd; rw [if_pos rfl]
theorem l8 {H : Hp} {a b : Addr} {o : HO} (h : b ≠ a) : upd H a o b = H b := by unfold upd; rw [if_neg h]
theorem a8L {H : Hp} {a : Addr} {o u : HO} : upd (upd H a o) a u = upd H a u := by
 funext b; unfold upd; split <;> rfl
theorem F3 {H : Hp} {a b : Addr} {o : HO} (h : H a = some o) (h' : H b = none) : a ≠ b := by
 intro e; subst e; rw [h] at h'; cases h'
section
variable (P : Program) (w : World)
noncomputable def ObjOk (H : Hp) (h : Heap) (a : Addr) : HO → Prop
 | .lst xs => xs.length ≤ sizeLine ∧ ∃ (its : List Value) (n : Nat), Vals xs its ∧ h.get? a = some { cls := .type "list", data := .seq its.toArray n }
 | .tup xs => xs.length ≤ sizeLine ∧ ∃ its : List Value, Vals xs its ∧ IsTup h a its.toArray
 | .dK kvs => kvs.length ≤ sizeLine ∧ (a == sysModules) = false ∧ ∃ vs, KV kvs vs ∧ h.DictOf (A0 P w) a vs
 | .dT kvs => kvs.length ≤ sizeLine ∧ (a == sysModules) = false ∧ ∃ xs : List (List Key × Addr × Value),
   Paired (fun (p : List Key × V) (q : List Key × Addr × Value) => p.1 = q.1 ∧ H q.2.1 = some (.tup (p.1.map kV)) ∧ RelV p.2 q.2.2) kvs xs ∧
   ∃ o es ep, h.get? a = some o ∧ o.ExactDict ∧ o.data = .dict es ep ∧ es.toList = xs.map (entryOfKey (tupleKind (A0 P w))) ∧ (xs.map (·.1)).Nodup
 | .set S n => h.SetOf (intKind P w) a S n
 | .ins C dx fs => H dx = some (.own a) ∧ fs.length ≤ 1000 ∧ dx ≠ a ∧ h.get? a = some (PySem.W.instObj C dx) ∧
   ∃ mA, h.Ns1 dx mA ∧ (∀ f, RelO (fs.lookup f) (mA f)) ∧ PySem.Within mA (fs.map (·.1))
 | .own _ => ∃ o, h.get? a = some o
 | .xd fs => ∃ mA, h.Ns1 a mA ∧ ∀ f, RelO (fs.lookup f) (mA f)
 | .rng lo hi => ∃ t u v, h.get? a = some { cls := .type "range", data := .fields #[.int lo t, .int hi u, .int 1 v] }
 | .frz o u => h.get? a = some o ∧ ObjOk H h a u
 | .tbl ps => h.get? a = some { cls := .none, data := .fields ps }
 | .met f x => h.get? a = some (PySem.W.methodObj (.ref f) (.ref x))
 | .ext φ => φ h ∧ (∃ o, h.get? a = some o) ∧ ∀ h1 h2 : Heap, φ h1 → (∀ o, h1.get? a = some o → h2.get? a = some o) → φ h2
noncomputable def HOk (H : Hp) (h : Heap) : Prop := ∀ a o, H a = some o → ObjOk P w H h a o
end
section
variable {P : Program} {w : World} {H H' : Hp} {h h' : Heap} {a : Addr} {o : HO}
theorem ObjOk.lt (x : ObjOk P w H h a o) : a < h.objs.size := by
 cases o with
 | lst xs => obtain ⟨_, _, _, _, e⟩ := x; exact Heap.lt_size e
 | tup xs => obtain ⟨_, _, _, p⟩ := x; exact p.lt
 | dK kvs => obtain ⟨_, _, _, _, o, _, _, e, _⟩ := x; exact Heap.lt_size e
 | dT kvs => obtain ⟨_, _, _, _, o, _, _, e, _⟩ := x; exact Heap.lt_size e
 | set S n => obtain ⟨o, _, _, _, e, _⟩ := x; exact Heap.lt_size e
 | ins C dx fs => obtain ⟨_, _, _, e, _⟩ := x; exact Heap.lt_size e
 | own y => obtain ⟨_, e⟩ := x; exact Heap.lt_size e
 | xd fs => obtain ⟨_, ⟨_, _, _, e, _⟩, _⟩ := x; exact Heap.lt_size e
 | rng lo hi => obtain ⟨_, _, _, e⟩ := x; exact Heap.lt_size e
 | frz ob u => obtain ⟨e, _⟩ := x; exact Heap.lt_size e
 | tbl ps => exact Heap.lt_size (show h.get? a = some _ from x)
 | met f y => exact Heap.lt_size (show h.get? a = some _ from x)
 | ext φ => obtain ⟨_, ⟨_, e⟩, _⟩ := x; exact Heap.lt_size e
theorem Paired.mapP {α β : Type} {F G : α → β → Prop} : ∀ {l₁ : List α} {l₂ : List β}, Paired F l₁ l₂ → (∀ a b, F a b → G a b) → Paired G l₁ l₂ := by
 intro l₁ l₂ h f
 induction h with
 | nil => exact .nil
 | cons r t ih => exact .cons (f _ _ r) ih
theorem ObjOk.stay (x : ObjOk P w H h a o) (k : ∀ b u, (b = a ∨ H b = some (.own a)) → h.get? b = some u → h'.get? b = some u)
  (ho : ∀ b, H b = some (.own a) → H' b = some (.own a)) (ht : ∀ b xs, H b = some (.tup xs) → H' b = some (.tup xs)) : ObjOk P w H' h' a o := by
 induction o with
 | lst xs => obtain ⟨z, its, n, r, e⟩ := x; exact ⟨z, its, n, r, k _ _ (.inl rfl) e⟩
 | tup xs => obtain ⟨z, its, r, ob, e, c⟩ := x; exact ⟨z, its, r, ob, k _ _ (.inl rfl) e, c⟩
 | dK kvs => obtain ⟨z, y, vs, r, ob, es, ep, e, c⟩ := x; exact ⟨z, y, vs, r, ob, es, ep, k _ _ (.inl rfl) e, c⟩
 | dT kvs =>
  obtain ⟨z, y, xs, r, ob, es, ep, e, c⟩ := x
  exact ⟨z, y, xs, Paired.mapP r fun p q z => ⟨z.1, ht _ _ z.2.1, z.2.2⟩, ob, es, ep, k _ _ (.inl rfl) e, c⟩
 | set S n => obtain ⟨ob, es, ep, t, e, c⟩ := x; exact ⟨ob, es, ep, t, k _ _ (.inl rfl) e, c⟩
 | ins C dx fs =>
  obtain ⟨d, z, ne, e, mA, ⟨od, es, ep, e2, c⟩, r⟩ := x
  exact ⟨ho _ d, z, ne, k _ _ (.inl rfl) e, mA, ⟨od, es, ep, k _ _ (.inr d) e2, c⟩, r⟩
 | own y => obtain ⟨ob, e⟩ := x; exact ⟨ob, k _ _ (.inl rfl) e⟩
 | xd fs => obtain ⟨mA, ⟨od, es, ep, e, c⟩, r⟩ := x; exact ⟨mA, ⟨od, es, ep, k _ _ (.inl rfl) e, c⟩, r⟩
 | rng lo hi => obtain ⟨t, u, v, e⟩ := x; exact ⟨t, u, v, k _ _ (.inl rfl) e⟩
 | frz ob u ih => obtain ⟨e, q⟩ := x; exact ⟨k _ _ (.inl rfl) e, ih q⟩
 | tbl ps =>
  have e : h.get? a = some { cls := .none, data := .fields ps } := x
  show h'.get? a = some { cls := .none, data := .fields ps }
  exact k a _ (.inl rfl) e
 | met f y =>
  have e : h.get? a = some (PySem.W.methodObj (.ref f) (.ref y)) := x
  show h'.get? a = some (PySem.W.methodObj (.ref f) (.ref y))
  exact k a _ (.inl rfl) e
 | ext φ => obtain ⟨p, ⟨o, e⟩, st⟩ := x; exact ⟨st _ _ p fun o q => k _ _ (.inl rfl) q, ⟨o, k _ _ (.inl rfl) e⟩, st⟩
theorem HOk.lt (x : HOk P w H h) (e : H a = some o) : a < h.objs.size := (x a o e).lt
theorem HOk.fresh (x : HOk P w H h) (e : h.objs.size ≤ a) : H a = none := by
 cases q : H a with
 | none => rfl
 | some u => exact absurd (Nat.lt_of_lt_of_le (x.lt q) e) (Nat.lt_irrefl _)
theorem HOk.kept (x : HOk P w H h) (k : ∀ b u, h.get? b = some u → h'.get? b = some u) : HOk P w H h' := fun a o e =>
 (x a o e).stay (fun b u _ q => k b u q) (fun _ q => q) fun _ _ q => q
theorem HOk.laid (x : HOk P w H h) (k : ∀ b u, h.get? b = some u → h'.get? b = some u) (hp : h.objs.size ≤ a) (new : ObjOk P w (upd H a o) h' a o) : HOk P w (upd H a o) h' := fun b u e => by
 have hn := x.fresh hp
 by_cases hb : b = a
 ·subst hb; rw [u9] at e; cases e; exact new
 ·rw [l8 hb] at e
  exact (x b u e).stay (fun c v _ q => k c v q) (fun c q => by rw [l8 (F3 q hn)]; exact q) fun c xs q => by rw [l8 (F3 q hn)]; exact q
end
noncomputable def Rd (H : Hp) (a : Addr) (u : HO) : Prop := H a = some u ∨ ∃ o, H a = some (.frz o u)
theorem Rd.ok {P : Program} {w : World} {H : Hp} {h : Heap} {a : Addr} {u : HO} (r : Rd H a u) (x : HOk P w H h) : ObjOk P w H h a u := by
 rcases r with r | ⟨o, r⟩
 ·exact x a u r
 ·obtain ⟨_, q⟩ := x a _ r
  exact q
noncomputable def Mut : Option HO → Prop
 | some (.lst _) => True
 | some (.dK _) => True
 | some (.dT _) => True
 | some (.set _ _) => True
 | some (.ins _ _ _) => True
 | some (.ext _) => True
 | _ => False
section
variable {P : Program} {w : World} {H : Hp} {h h' : Heap} {x e : Addr} {o' : HO}
theorem HOk.write (ok : HOk P w H h) (mu : Mut (H x)) (he : e = x ∨ H e = some (.own x)) (k : ∀ b u, b ≠ e → h.get? b = some u → h'.get? b = some u) (heo : ∃ u, h'.get? e = some u)
  (new : ObjOk P w (upd H x o') h' x o') : HOk P w (upd H x o') h' := fun b u q => by
 have nown : ∀ c y, H c = some (.own y) → c ≠ x := fun c y r z => by subst z; rw [r] at mu; exact mu
 have ntup : ∀ c xs, H c = some (.tup xs) → c ≠ x := fun c xs r z => by subst z; rw [r] at mu; exact mu
 by_cases hb : b = x
 ·subst hb; rw [u9] at q; cases q; exact new
 ·rw [l8 hb] at q
  by_cases hbe : b = e
  ·have q' : H b = some (.own x) := by
    rcases he with z | z
    ·exact absurd (hbe.trans z) hb
    ·rw [hbe]; exact z
   rw [q] at q'; cases q'
   obtain ⟨v, hv⟩ := heo
   exact ⟨v, by rw [hbe]; exact hv⟩
  ·refine (ok b u q).stay (fun c v hc r => k c v ?_ r) (fun c r => by rw [l8 (nown c b r)]; exact r) fun c xs r => by rw [l8 (ntup c xs r)]; exact r
   rcases hc with rfl | hc
   ·exact hbe
   ·rintro rfl
    rcases he with z | z
    ·exact nown c b hc z
    ·rw [hc] at z; cases z; exact hb rfl
end
structure Un (fs ex : List Addr) (H H' : Hp) (h h' : Heap) : Prop where
 keep : ∀ b o, h.get? b = some o → H b = none → b ∉ fs → b ∉ ex → h'.get? b = some o
 slot : ∀ b o, h.get? b = some o → H b = none → b ∈ fs → b ∉ ex → ∃ sl, h'.get? b = some { o with slots := sl }
 free : ∀ b o, h.get? b = some o → H b = none → b ∉ ex → H' b = none
 there : ∀ b o, h.get? b = some o → b ∉ ex → ∃ o', h'.get? b = some o'
 tups : ∀ b xs, H b = some (.tup xs) → H' b = some (.tup xs)
 frzs : ∀ b o u, H b = some (.frz o u) → H' b = some (.frz o u)
 tbls : ∀ b ps, H b = some (.tbl ps) → ∃ more, H' b = some (.tbl (ps ++ more))
section
variable {fs fs' ex ex' : List Addr} {H H1 H2 : Hp} {h h1 h2 h' : Heap} {a x e : Addr} {o : HO}
theorem Un.any (u : Un fs ex H H1 h h1) {b : Addr} {ob : Obj} (q : h.get? b = some ob) (n : H b = none) (hx : b ∉ ex) : ∃ sl, h1.get? b = some { ob with slots := sl } := by
 by_cases hb : b ∈ fs
 ·exact u.slot b ob q n hb hx
 ·exact ⟨ob.slots, u.keep b ob q n hb hx⟩
theorem Un.kept (k : ∀ b u, h.get? b = some u → h'.get? b = some u) : Un fs ex H H h h' :=
 ⟨fun b ob q _ _ _ => k b ob q, fun b ob q _ _ _ => ⟨ob.slots, k b ob q⟩, fun _ _ _ n _ => n, fun b ob q _ => ⟨ob, k b ob q⟩, fun _ _ q => q, fun _ _ _ q => q, fun _ ps q => ⟨#[], by rw [q]; simp⟩⟩
theorem Un.refl : Un fs ex H H h h := Un.kept fun _ _ q => q
theorem Un.laid (k : ∀ b u, h.get? b = some u → h'.get? b = some u) (hp : h.objs.size ≤ a) (hn : H a = none) : Un fs ex H (upd H a o) h h' where
 keep := fun b u q _ _ _ => k b u q
 slot := fun b u q _ _ _ => ⟨u.slots, k b u q⟩
 free := fun b u q n _ => by rw [l8 (Nat.ne_of_lt (Nat.lt_of_lt_of_le (Heap.lt_size q) hp))]; exact n
 there := fun b u q _ => ⟨u, k b u q⟩
 tups := fun b xs q => by rw [l8 (F3 q hn)]; exact q
 frzs := fun b u xs q => by rw [l8 (F3 q hn)]; exact q
 tbls := fun b ps q => ⟨#[], by rw [l8 (F3 q hn), q]; simp⟩
theorem Un.write (mu : Mut (H x)) (he : e = x ∨ H e = some (.own x)) (k : ∀ b u, b ≠ e → h.get? b = some u → h'.get? b = some u) (heo : ∃ u, h'.get? e = some u) : Un fs ex H (upd H x o) h h' := by
 have hx : ∀ b, H b = none → b ≠ x := fun b n z => by subst z; rw [n] at mu; exact mu
 have hb : ∀ b, H b = none → b ≠ e := fun b n z => by
  subst z
  rcases he with r | r
  ·exact hx b n r
  ·rw [n] at r; cases r
 have hm : ∀ b u, H b = some u → ¬ Mut (some u) → b ≠ x := fun b u q nm z => by subst z; rw [q] at mu; exact nm mu
 refine ⟨fun b u q n _ _ => k b u (hb b n) q, fun b u q n _ _ => ⟨u.slots, k b u (hb b n) q⟩, fun b u q n _ => by rw [l8 (hx b n)]; exact n, fun b u q _ => ?_,
  fun b xs q => by rw [l8 (hm b _ q fun z => z)]; exact q, fun b u xs q => by rw [l8 (hm b _ q fun z => z)]; exact q, fun b ps q => ⟨#[], by rw [l8 (hm b _ q fun z => z), q]; simp⟩⟩
 by_cases hbe : b = e
 ·subst hbe; exact heo
 ·exact ⟨u, k b u hbe q⟩
end
noncomputable def trk (h : Heap) (H : Hp) : List Addr := (List.range h.objs.size).filter fun a => (H a).isSome
noncomputable def G6 (h : Heap) (H : Hp) : Heap := PySem.W.hideAll h (trk h H)
theorem a76 (h : Heap) (H : Hp) : (G6 h H).objs.size = h.objs.size := PySem.W.hideAll_size _ _
theorem a7N {h : Heap} {H : Hp} {b : Addr} {o : Obj} (e : h.get? b = some o) (n : H b = none) : (G6 h H).get? b = some o :=
 PySem.W.hideAll_get _ e fun hm => by
  have q : (H b).isSome = true := (List.mem_filter.mp hm).2
  rw [n] at q; simp at q
theorem a8T {h : Heap} {H : Hp} {b : Addr} {o : Obj} (e : (G6 h H).get? b = some o) : h.get? b = some o ∧ H b = none := by
 have e' : h.get? b = some o := PySem.W.of_hideAll (trk h H) e
 refine ⟨e', ?_⟩
 cases q : H b with
 | none => rfl
 | some x =>
  have hm : b ∈ trk h H := List.mem_filter.mpr ⟨List.mem_range.mpr (Heap.lt_size e'), by simp [q]⟩
  have z : (G6 h H).get? b = none := PySem.W.hideAll_none (trk h H) hm
  rw [z] at e; cases e
structure Mod (K : PySem.W.Frag) (mg : Str → Option Value) (base : Heap) : Prop where
 kin : K.In base
 glob : base.Ns mainGlobals mg
 blt : ∃ mb, base.Ns builtinsNs mb ∧ ∀ x : Str, x ≠ "__name__" → mb x = bootBuiltins x
 nolimit : base.NoLimit
structure Cx where
 prog : Program
 w : World
 K : PySem.W.Frag
 mg : Str → Option Value
 base : Heap
 A : Around
 N : List Str
 s₀ : Shared
 H₀ : Hp
 env : Env
 outer : List Env
 stack : List Env
 ex : List Addr
 fn : Str → Bool
 calm : Bool
 pn : List (Addr × Obj)
 xe : Value → Shared → Prop
noncomputable def frs (l : List Env) : List Addr := l.filterMap (·.frame)
noncomputable abbrev Cx.fs (X : Cx) : List Addr := frs X.outer
noncomputable def Vis (sc : Scope) (x : Str) : Prop := sc.names.lookup x = some .local ∨ sc.names.lookup x = some .cell ∨ sc.names.lookup x = some .free
noncomputable def Loc (sc : Scope) (x : Str) : Prop := sc.names.lookup x = some .local ∨ sc.names.lookup x = some .cell
noncomputable def a7l (env : Env) (h : Heap) (m : Str → Option Value) (x : Str) (u : Value) : Prop :=
 (env.kindOf x = some .local ∧ m x = some u) ∨ ((env.kindOf x = some .cell ∨ env.kindOf x = some .free) ∧ ∃ c, env.cells.lookup x = some c ∧ h.IsCell c (some u))
structure Cx.Ok (X : Cx) : Prop where
 mod : Mod X.K X.mg X.base
 kind : X.env.scope.kind = .function
 glob : X.env.globals = mainGlobals
 blt : X.env.builtins = builtinsNs
 above : X.s₀.heap.objs.size ≤ X.env.locals
 inj : ∀ x y c, X.env.cells.lookup x = some c → X.env.cells.lookup y = some c → x = y
 has : ∀ x, (X.env.kindOf x = some .cell ∨ X.env.kindOf x = some .free) → ∃ c, X.env.cells.lookup x = some c
 cab : ∀ x c, X.fn x = true → X.env.cells.lookup x = some c → X.s₀.heap.objs.size ≤ c
 hd : X.calm = true → X.A.handled = none
 frames : X.A.frames = some X.stack
 stk : X.stack = X.outer ∨ (X.stack = X.env :: X.outer ∧ X.env.frame = some X.env.locals)
 exf : ∀ b ∈ X.ex, b ≠ X.env.locals ∧ ∀ x c, X.env.cells.lookup x = some c → c ≠ b
 bs : ∀ b o, X.base.get? b = some o → X.s₀.heap.get? b = some o ∧ X.H₀ b = none
 bsz : X.base.objs.size ≤ X.s₀.heap.objs.size
 noex : ∀ b o, X.base.get? b = some o → b ∉ X.ex
 exfs : ∀ b ∈ X.ex, b ∉ X.fs
 funs : X.s₀.heap.FunFrames X.base X.outer
 frf : ∀ b ∈ X.fs, X.H₀ b = none
structure Inv (X : Cx) (pins : List (Addr × Obj)) (σ : List (Option V)) (H : Hp) (s : Shared) : Prop where
 ok : X.Ok
 os : s.os = X.s₀.os
 bare : AllBare s.gens
 base : Un X.fs X.ex X.H₀ H X.s₀.heap s.heap
 loc : ∃ m, s.heap.Ns X.env.locals m ∧ ∀ (i : Nat) (x : Str) (v : V), X.N[i]? = some x → σ[i]? = some (some v) → Vis X.env.scope x → ∃ u, RelV v u ∧ a7l X.env s.heap m x u
 cell : ∀ x c, X.env.cells.lookup x = some c → ∃ v, s.heap.IsCell c v
 free : H X.env.locals = none
 freeC : ∀ x c, X.env.cells.lookup x = some c → H c = none
 pin : ∀ p ∈ X.pn ++ pins, s.heap.get? p.1 = some p.2 ∧ H p.1 = none ∧ p.1 ≠ X.env.locals ∧ p.1 ∉ X.fs ∧ ∀ v, p.2.data ≠ .cell v
 hok : HOk X.prog X.w H s.heap
 len : σ.length = X.N.length
section
variable {X : Cx} {pins : List (Addr × Obj)} {σ : List (Option V)} {H H' : Hp} {s : Shared} {h' : Heap}
theorem Cx.Ok.nofr (ok : X.Ok) {b : Addr} {o : Obj} (e : X.base.get? b = some o) : b ∉ X.fs := fun hb => by
 have := (ok.funs.mem hb).1
 rw [e] at this; cases this
theorem Inv.bs (I : Inv X pins σ H s) : ∀ b o, X.base.get? b = some o → s.heap.get? b = some o ∧ H b = none := fun b o e =>
 ⟨I.base.keep b o (I.ok.bs b o e).1 (I.ok.bs b o e).2 (I.ok.nofr e) (I.ok.noex b o e), I.base.free b o (I.ok.bs b o e).1 (I.ok.bs b o e).2 (I.ok.noex b o e)⟩
theorem Inv.bk (I : Inv X pins σ H s) : ∀ b o, X.base.get? b = some o → s.heap.get? b = some o := fun b o e => (I.bs b o e).1
theorem Inv.mod (I : Inv X pins σ H s) : Mod X.K X.mg X.base := I.ok.mod
theorem Inv.kIn (I : Inv X pins σ H s) : X.K.In s.heap := I.ok.mod.kin.keeps I.bk
theorem Inv.lt (I : Inv X pins σ H s) : X.env.locals < s.heap.objs.size := let ⟨_, hn, _⟩ := I.loc; hn.lt
theorem Inv.sz (I : Inv X pins σ H s) : X.s₀.heap.objs.size ≤ s.heap.objs.size := Nat.le_trans I.ok.above (Nat.le_of_lt I.lt)
theorem Inv.nofs (I : Inv X pins σ H s) {a : Addr} (h : s.heap.objs.size ≤ a) : a ∉ X.fs := fun hb => by
 obtain ⟨_, o, ho, _⟩ := I.ok.funs.mem hb
 exact absurd (Nat.lt_of_lt_of_le (Heap.lt_size ho) (Nat.le_trans I.sz h)) (Nat.lt_irrefl _)
theorem Inv.cne (I : Inv X pins σ H s) : ∀ x c, X.env.cells.lookup x = some c → c ≠ X.env.locals := fun x c e z => by
 obtain ⟨v, o, ho, hd⟩ := I.cell x c e
 obtain ⟨m, ⟨o', es, ep, ho', hd', _⟩, _⟩ := I.loc
 rw [z, ho'] at ho; cases ho; rw [hd'] at hd; cases hd
theorem Inv.funs (I : Inv X pins σ H s) : s.heap.FunFrames X.base X.outer := by
 have all : ∀ (l : List Env), (∀ b ∈ frs l, b ∈ X.fs) → X.s₀.heap.FunFrames X.base l → s.heap.FunFrames X.base l := by
  intro l
  induction l with
  | nil => intro _ _; trivial
  | cons env r ih =>
   intro hs hl
   obtain ⟨hk, ⟨L, o, hf, hn, ho, hd⟩, hr⟩ := hl
   have hL : L ∈ X.fs := hs L (by unfold frs; rw [List.filterMap_cons, hf]; exact List.mem_cons_self)
   obtain ⟨sl, e⟩ := I.base.slot L o ho (I.ok.frf L hL) hL fun z => I.ok.exfs L z hL
   exact ⟨hk, ⟨L, _, hf, hn, e, hd⟩, ih (fun b hb => hs b (by unfold frs; rw [List.filterMap_cons, hf]; exact List.mem_cons_of_mem _ hb)) hr⟩
 exact all X.outer (fun _ hb => hb) I.ok.funs
theorem Inv.stack (I : Inv X pins σ H s) : s.heap.FunFrames X.base X.stack := by
 rcases I.ok.stk with e | ⟨e, hf⟩
 ·rw [e]; exact I.funs
 ·rw [e]
  obtain ⟨m, hn, _⟩ := I.loc
  refine .cons (by rw [I.ok.kind]; decide) hf hn ?_ I.funs
  exact Heap.get?_none_of_le (Nat.le_trans I.ok.bsz I.ok.above)
theorem Inv.stkSub (I : Inv X pins σ H s) : ∀ b ∈ frs X.stack, b ∈ X.env.locals :: X.fs := fun b hb => by
 rcases I.ok.stk with e | ⟨e, hf⟩
 ·rw [e] at hb; exact List.mem_cons_of_mem _ hb
 ·rw [e] at hb
  unfold frs at hb
  rw [List.filterMap_cons, hf] at hb
  exact hb
theorem Inv.stkFree (I : Inv X pins σ H s) : ∀ b ∈ frs X.stack, H b = none := fun b hb => by
 rcases List.mem_cons.mp (I.stkSub b hb) with e | hb
 ·rw [e]; exact I.free
 ·obtain ⟨_, o, ho, _⟩ := I.ok.funs.mem hb
  exact I.base.free b o ho (I.ok.frf b hb) fun z => I.ok.exfs b z hb
theorem Inv.step {g' : Array GenState} {t' : Nat} {d' : Drawn} {ch : List Addr} (I : Inv X pins σ H s)
  (hch : ∀ b ∈ ch, (b ∈ X.ex ∨ X.s₀.heap.objs.size ≤ b) ∧ b ≠ X.env.locals ∧ (∀ x c, X.env.cells.lookup x = some c → c ≠ b) ∧ ∀ p ∈ X.pn ++ pins, p.1 ≠ b)
  (keep : ∀ b o, b ≠ X.env.locals → b ∉ X.fs → b ∉ ch → s.heap.get? b = some o → H b = none → h'.get? b = some o)
  (slot : ∀ b o, b ≠ X.env.locals → b ∈ X.fs → b ∉ ch → s.heap.get? b = some o → H b = none → ∃ sl, h'.get? b = some { o with slots := sl }) (free : ∀ b o, b ∉ ch → s.heap.get? b = some o → H b = none → H' b = none)
  (there : ∀ b o, b ∉ ch → s.heap.get? b = some o → ∃ o', h'.get? b = some o')
  (tups : ∀ b xs, H b = some (.tup xs) → H' b = some (.tup xs)) (frzs : ∀ b o u, H b = some (.frz o u) → H' b = some (.frz o u)) (tbls : ∀ b ps, H b = some (.tbl ps) → ∃ more, H' b = some (.tbl (ps ++ more)))
  (ns : ∀ m, s.heap.Ns X.env.locals m → h'.Ns X.env.locals m) (hok : HOk X.prog X.w H' h') (hg : AllBare g') :
  Inv X pins σ H' { s with heap := h', gens := g', drawn := d', toks := t' } := by
 have neL : ∀ b o, X.s₀.heap.get? b = some o → b ≠ X.env.locals := fun b o e => Nat.ne_of_lt (Nat.lt_of_lt_of_le (Heap.lt_size e) I.ok.above)
 have neC : ∀ b o, X.s₀.heap.get? b = some o → b ∉ X.ex → b ∉ ch := fun b o e hx hb => by
  rcases (hch b hb).1 with z | z
  ·exact hx z
  ·exact absurd (Nat.lt_of_lt_of_le (Heap.lt_size e) z) (Nat.lt_irrefl _)
 have cellK : ∀ x c, X.env.cells.lookup x = some c → ∀ v, s.heap.IsCell c v → h'.IsCell c v := fun x c e v hQ__ => by
  obtain ⟨o, ho, hd⟩ := hQ__
  have nch : c ∉ ch := fun z => (hch c z).2.2.1 x c e rfl
  by_cases hc : c ∈ X.fs
  ·obtain ⟨sl, q⟩ := slot c o (I.cne x c e) hc nch ho (I.freeC x c e)
   exact ⟨_, q, hd⟩
  ·exact ⟨o, keep c o (I.cne x c e) hc nch ho (I.freeC x c e), hd⟩
 refine ⟨I.ok, I.os, hg, ⟨fun b o e n hb hx => ?_, fun b o e n hb hx => ?_, fun b o e n hx => ?_, fun b o e hx => ?_, fun b xs e => tups b xs (I.base.tups b xs e), fun b o xs e => frzs b o xs (I.base.frzs b o xs e), fun b ps e => ?_⟩, ?_, fun x c e => ?_, ?_, fun x c e => ?_, fun p hp => ?_, hok, I.len⟩
 ·exact keep b o (neL b o e) hb (neC b o e hx) (I.base.keep b o e n hb hx) (I.base.free b o e n hx)
 ·obtain ⟨sl, e1⟩ := I.base.slot b o e n hb hx
  obtain ⟨sl', e2⟩ := slot b _ (neL b o e) hb (neC b o e hx) e1 (I.base.free b o e n hx)
  exact ⟨sl', e2⟩
 ·obtain ⟨o', e1⟩ := I.base.there b o e hx
  exact free b o' (neC b o e hx) e1 (I.base.free b o e n hx)
 ·obtain ⟨o', e1⟩ := I.base.there b o e hx
  exact there b o' (neC b o e hx) e1
 ·obtain ⟨m1, e1⟩ := I.base.tbls b ps e
  obtain ⟨m2, e2⟩ := tbls b _ e1
  exact ⟨m1 ++ m2, by rw [e2, Array.append_assoc]⟩
 ·obtain ⟨m, hn, hl⟩ := I.loc
  refine ⟨m, ns m hn, fun i x v e1 e2 e3 => ?_⟩
  obtain ⟨u, r, l⟩ := hl i x v e1 e2 e3
  refine ⟨u, r, ?_⟩
  rcases l with l | ⟨k, c, e, z⟩
  ·exact .inl l
  ·exact .inr ⟨k, c, e, cellK x c e _ z⟩
 ·obtain ⟨v, z⟩ := I.cell x c e
  exact ⟨v, cellK x c e v z⟩
 ·obtain ⟨m, ⟨o, _, _, ho, _⟩, _⟩ := I.loc
  exact free _ o (fun z => (hch _ z).2.1 rfl) ho I.free
 ·obtain ⟨v, o, ho, hd⟩ := I.cell x c e
  exact free c o (fun z => (hch c z).2.2.1 x c e rfl) ho (I.freeC x c e)
 ·obtain ⟨e, n, ne, nf, d⟩ := I.pin p hp
  have nch : p.1 ∉ ch := fun z => (hch p.1 z).2.2.2 p hp rfl
  exact ⟨keep p.1 p.2 ne nf nch e n, free p.1 p.2 nch e n, ne, nf, d⟩
theorem Inv.un {t' : Nat} (I : Inv X pins σ H s) (u : Un X.fs [] H H' s.heap h') (hok : HOk X.prog X.w H' h') : Inv X pins σ H' { s with heap := h', toks := t' } := by
 obtain ⟨m, ⟨o, es, ep, ho, r⟩, _⟩ := id I.loc
 obtain ⟨sl, hL⟩ := u.any ho I.free (by simp)
 exact I.step (g' := s.gens) (d' := s.drawn) (ch := []) (fun _ z => nomatch z) (fun b o _ hb _ e n => u.keep b o e n hb (by simp)) (fun b o _ hb _ e n => u.slot b o e n hb (by simp)) (fun b o _ e n => u.free b o e n (by simp)) (fun b o _ e => u.there b o e (by simp)) u.tups u.frzs u.tbls (fun m' hm => by
  obtain ⟨o', es', ep', ho', r'⟩ := hm
  rw [ho] at ho'; cases ho'
  exact ⟨_, es', ep', hL, r'⟩) hok I.bare
theorem Inv.call {g' : Array GenState} {t' : Nat} {d' : Drawn} {ch : List Addr} (I : Inv X pins σ H s) (u : Un (frs X.stack) ch H H' s.heap h') (hok : HOk X.prog X.w H' h') (hg : AllBare g')
  (hch : ∀ b ∈ ch, (b ∈ X.ex ∨ X.s₀.heap.objs.size ≤ b) ∧ b ≠ X.env.locals ∧ (∀ x c, X.env.cells.lookup x = some c → c ≠ b) ∧ ∀ p ∈ X.pn ++ pins, p.1 ≠ b) :
  Inv X pins σ H' { s with heap := h', gens := g', drawn := d', toks := t' } := by
 obtain ⟨m, ⟨o, es, ep, ho, r⟩, _⟩ := id I.loc
 obtain ⟨sl, hL⟩ := u.any ho I.free fun z => (hch _ z).2.1 rfl
 exact I.step (ch := ch) hch (fun b o hL hb hc e n => u.keep b o e n (fun z => (List.mem_cons.mp (I.stkSub b z)).elim hL hb) hc) (fun b o _ _ hc e n => u.any e n hc) (fun b o hc e n => u.free b o e n hc) (fun b o hc e => u.there b o e hc) u.tups u.frzs u.tbls (fun m' hm => by
  obtain ⟨o', es', ep', ho', r'⟩ := hm
  rw [ho] at ho'; cases ho'
  exact ⟨_, es', ep', hL, r'⟩) hok hg
theorem Inv.turned {t' : Nat} {it : Addr} (I : Inv X pins σ H s) (k : ∀ b o, b ≠ it → s.heap.get? b = some o → h'.get? b = some o) (hn : H it = none) (hL : it ≠ X.env.locals)
  (h1 : it ∈ X.ex ∨ X.s₀.heap.objs.size ≤ it) (h2 : ∀ x c, X.env.cells.lookup x = some c → c ≠ it) (h3 : ∀ p ∈ X.pn ++ pins, p.1 ≠ it) : Inv X pins σ H { s with heap := h', toks := t' } := by
 have nit : ∀ b u, H b = some u → b ≠ it := fun b u e z => by rw [z, hn] at e; cases e
 refine I.step (g' := s.gens) (d' := s.drawn) (ch := [it]) (fun b hb => ?_) (fun b o _ _ hc e _ => k b o (fun z => hc (by simp [z])) e) (fun b o _ _ hc e _ => ⟨o.slots, k b o (fun z => hc (by simp [z])) e⟩) (fun _ _ _ _ n => n)
  (fun b o hc e => ⟨o, k b o (fun z => hc (by simp [z])) e⟩) (fun _ _ e => e) (fun _ _ _ e => e) (fun b ps e => ⟨#[], by rw [e]; simp⟩) (fun m hm => ?_) (fun b u e => ?_) I.bare
 ·have e : b = it := by simpa using hb
  subst e
  exact ⟨h1, hL, h2, h3⟩
 ·obtain ⟨o, es, ep, ho, r⟩ := hm
  exact ⟨o, es, ep, k _ o (Ne.symm hL) ho, r⟩
 ·refine (I.hok b u e).stay (fun c v hc q => k c v ?_ q) (fun _ q => q) fun _ _ q => q
  rcases hc with z | z
  ·rw [z]; exact nit b u e
  ·exact nit c _ z
theorem Inv.tok (I : Inv X pins σ H s) (t : Nat) : Inv X pins σ H { s with toks := t } := I.un (h' := s.heap) (t' := t) Un.refl I.hok
theorem Inv.kept {t' : Nat} (I : Inv X pins σ H s) (k : ∀ b u, s.heap.get? b = some u → h'.get? b = some u) : Inv X pins σ H { s with heap := h', toks := t' } := I.un (Un.kept k) (I.hok.kept k)
theorem Inv.laid {a : Addr} {o : HO} {t' : Nat} (I : Inv X pins σ H s) (k : ∀ b u, s.heap.get? b = some u → h'.get? b = some u) (hp : s.heap.objs.size ≤ a) (new : ObjOk X.prog X.w (upd H a o) h' a o) :
  Inv X pins σ (upd H a o) { s with heap := h', toks := t' } := I.un (Un.laid k hp (I.hok.fresh hp)) (I.hok.laid k hp new)
theorem Inv.write {x e : Addr} {o : HO} {t' : Nat} (I : Inv X pins σ H s) (mu : Mut (H x)) (he : e = x ∨ H e = some (.own x)) (k : ∀ b u, b ≠ e → s.heap.get? b = some u → h'.get? b = some u) (heo : ∃ u, h'.get? e = some u)
  (new : ObjOk X.prog X.w (upd H x o) h' x o) : Inv X pins σ (upd H x o) { s with heap := h', toks := t' } := I.un (Un.write mu he k heo) (I.hok.write mu he k heo new)
theorem Inv.weak {σ' : List (Option V)} (I : Inv X pins σ H s) (hl : σ'.length = σ.length) (w : ∀ (i : Nat) v, σ'[i]? = some (some v) → σ[i]? = some (some v)) : Inv X pins σ' H s :=
 ⟨I.ok, I.os, I.bare, I.base, let ⟨m, hn, hl'⟩ := I.loc; ⟨m, hn, fun i x v e1 e2 e3 => hl' i x v e1 (w i v e2) e3⟩, I.cell, I.free, I.freeC, I.pin, I.hok, hl.trans I.len⟩
theorem Inv.pins_of {pins' : List (Addr × Obj)} (I : Inv X pins σ H s) (h : ∀ p ∈ pins', s.heap.get? p.1 = some p.2 ∧ H p.1 = none ∧ p.1 ≠ X.env.locals ∧ p.1 ∉ X.fs ∧ ∀ v, p.2.data ≠ .cell v) : Inv X pins' σ H s :=
 ⟨I.ok, I.os, I.bare, I.base, I.loc, I.cell, I.free, I.freeC, fun p hp => (List.mem_append.mp hp).elim (fun z => I.pin p (List.mem_append_left _ z)) (h p), I.hok, I.len⟩
theorem a4i {N : List Str} (hN : N.Nodup) {i j : Nat} {x : Str} (a : N[i]? = some x) (b : N[j]? = some x) : i = j := by
 obtain ⟨h1, e1⟩ := List.getElem?_eq_some_iff.mp a
 obtain ⟨h2, e2⟩ := List.getElem?_eq_some_iff.mp b
 exact (List.getElem_inj hN).mp (e1.trans e2.symm)
theorem a5E {M : Model} {A : Around} {E : Value → Shared → Prop} {i : Nat} {x : Str} {v : V} {u : Value} {Q : Unit → Shared → Prop} (I : Inv X pins σ H s) (hN : X.N.Nodup) (hi : X.N[i]? = some x) (hx : Loc X.env.scope x) (r : RelV v u)
  (h : ∀ s', Inv X pins (σ.set i (some v)) H s' → (∃ a, Heap.SameBut a s.heap s'.heap ∧ (a = X.env.locals ∨ X.env.cells.lookup x = some a)) → Q () s') (hf : X.fn x = true ∨ X.env.scope.names.lookup x = some .local := by first | exact .inl rfl | exact .inr rfl | assumption) : wpAny M A (storeName X.env x u) Q E s := by
 obtain ⟨m, hn, hl⟩ := id I.loc
 have hcls : (X.env.scope.kind == .class || (X.env.scope.kind == .module && X.env.locals != X.env.globals)) = false := by rw [I.ok.kind]; rfl
 have hiσ : i < σ.length := by rw [I.len]; exact (List.getElem?_eq_some_iff.mp hi).1
 have cne := I.cne
 have tracked : ∀ {a : Addr} {h' : Heap}, (∃ o, s.heap.get? a = some o ∧ H a = none) → Heap.SameBut a s.heap h' → HOk X.prog X.w H h' := fun {a h'} ha hs b ob e => by
  obtain ⟨_, _, hfree⟩ := ha
  refine (I.hok b ob e).stay (fun c w' hc q => (hs.2 c ?_).trans q) (fun _ q => q) fun _ _ q => q
  rintro rfl
  rcases hc with rfl | hc
  ·rw [hfree] at e; cases e
  ·rw [hfree] at hc; cases hc
 rcases hx with hk | hk
 ·refine wpAny_storeName_local hk hn (fun h' hn' hs => ?_) hcls
  obtain ⟨oL, _, _, hoL, _⟩ := id hn
  refine h _ ⟨I.ok, I.os, I.bare, ⟨fun b o e n hb hx => ?_, fun b o e n hb hx => ?_, I.base.free, fun b o e hx => ?_, I.base.tups, I.base.frzs, I.base.tbls⟩, ⟨_, hn', fun j y v' e1 e2 e3 => ?_⟩, fun y c e => ?_, I.free, I.freeC, fun p hp => ?_, tracked ⟨oL, hoL, I.free⟩ hs, by simpa using I.len⟩ ⟨_, hs, .inl rfl⟩
  ·exact (hs.2 b (Nat.ne_of_lt (Nat.lt_of_lt_of_le (Heap.lt_size e) I.ok.above))).trans (I.base.keep b o e n hb hx)
  ·obtain ⟨sl, e1⟩ := I.base.slot b o e n hb hx
   exact ⟨sl, (hs.2 b (Nat.ne_of_lt (Nat.lt_of_lt_of_le (Heap.lt_size e) I.ok.above))).trans e1⟩
  ·obtain ⟨o', e1⟩ := I.base.there b o e hx
   exact ⟨o', (hs.2 b (Nat.ne_of_lt (Nat.lt_of_lt_of_le (Heap.lt_size e) I.ok.above))).trans e1⟩
  ·by_cases hj : j = i
   ·subst hj
    rw [hi] at e1; cases e1
    rw [List.getElem?_set_self hiσ] at e2
    cases e2
    exact ⟨u, r, .inl ⟨hk, by simp⟩⟩
   ·rw [List.getElem?_set_ne (Ne.symm hj)] at e2
    obtain ⟨u', r', q⟩ := hl j y v' e1 e2 e3
    refine ⟨u', r', ?_⟩
    rcases q with ⟨k, e⟩ | ⟨k, c, e, z⟩
    ·refine .inl ⟨k, ?_⟩
     have : y ≠ x := fun e => hj (a4i hN e1 (e ▸ hi))
     simp [this, e]
    ·exact .inr ⟨k, c, e, z.sameBut hs (cne y c e)⟩
  ·obtain ⟨w', z⟩ := I.cell y c e
   exact ⟨w', z.sameBut hs (cne y c e)⟩
  ·obtain ⟨e, n, ne, nf, d⟩ := I.pin p hp
   exact ⟨(hs.2 p.1 ne).trans e, n, ne, nf, d⟩
 ·have hfn : X.fn x = true := by
   rcases hf with z | z
   ·exact z
   ·rw [z] at hk; cases hk
  obtain ⟨c, hc⟩ := I.ok.has x (.inl hk)
  obtain ⟨w', z⟩ := I.cell x c hc
  refine wpAny_storeName_cell I.ok.kind hk hc z (fun h' hc' hs => ?_)
  obtain ⟨oc, hoc, hocd⟩ := id z
  refine h { s with heap := h' } ⟨I.ok, I.os, I.bare, ⟨fun b o e n hb hx => ?_, fun b o e n hb hx => ?_, I.base.free, fun b o e hx => ?_, I.base.tups, I.base.frzs, I.base.tbls⟩, ⟨m, hn.sameBut hs (Ne.symm (cne x c hc)), fun j y v' e1 e2 e3 => ?_⟩, fun y c' e => ?_, I.free, I.freeC, fun p hp => ?_, tracked ⟨oc, hoc, I.freeC x c hc⟩ hs, by simpa using I.len⟩ ⟨c, hs, .inr hc⟩
  ·exact (hs.2 b (Nat.ne_of_lt (Nat.lt_of_lt_of_le (Heap.lt_size e) (I.ok.cab x c hfn hc)))).trans (I.base.keep b o e n hb hx)
  ·obtain ⟨sl, e1⟩ := I.base.slot b o e n hb hx
   exact ⟨sl, (hs.2 b (Nat.ne_of_lt (Nat.lt_of_lt_of_le (Heap.lt_size e) (I.ok.cab x c hfn hc)))).trans e1⟩
  ·obtain ⟨o', e1⟩ := I.base.there b o e hx
   exact ⟨o', (hs.2 b (Nat.ne_of_lt (Nat.lt_of_lt_of_le (Heap.lt_size e) (I.ok.cab x c hfn hc)))).trans e1⟩
  ·by_cases hj : j = i
   ·subst hj
    rw [hi] at e1; cases e1
    rw [List.getElem?_set_self hiσ] at e2
    cases e2
    exact ⟨u, r, .inr ⟨.inl hk, c, hc, hc'⟩⟩
   ·rw [List.getElem?_set_ne (Ne.symm hj)] at e2
    obtain ⟨u', r', q⟩ := hl j y v' e1 e2 e3
    refine ⟨u', r', ?_⟩
    rcases q with q | ⟨k, c', e, z'⟩
    ·exact .inl q
    ·refine .inr ⟨k, c', e, z'.sameBut hs ?_⟩
     rintro rfl
     exact hj (a4i hN e1 (I.ok.inj _ _ _ e hc ▸ hi))
  ·by_cases hcc : c' = c
   ·subst hcc; exact ⟨_, hc'⟩
   ·obtain ⟨w2, z2⟩ := I.cell y c' e
    exact ⟨w2, z2.sameBut hs hcc⟩
  ·obtain ⟨e, n, ne, nf, d⟩ := I.pin p hp
   refine ⟨(hs.2 p.1 ?_).trans e, n, ne, nf, d⟩
   intro q
   rw [q, hoc] at e
   have q' : oc = p.2 := Option.some.inj e
   exact d w' (by rw [← q']; exact hocd)
theorem Z1 {M : Model} {A : Around} {E : Value → Shared → Prop} {i : Nat} {x : Str} {v : V} {u : Value} {Q : Unit → Shared → Prop} (I : Inv X pins σ H s) (hN : X.N.Nodup) (hi : X.N[i]? = some x) (hx : Loc X.env.scope x) (r : RelV v u)
  (h : ∀ s', Inv X pins (σ.set i (some v)) H s' → Q () s') (hf : X.fn x = true ∨ X.env.scope.names.lookup x = some .local := by first | exact .inl rfl | exact .inr rfl | assumption) : wpAny M A (storeName X.env x u) Q E s :=
 a5E I hN hi hx r (fun s' I' _ => h s' I') hf
theorem Inv.call' {s' : Shared} {ch : List Addr} (I : Inv X pins σ H s) (ho : s'.os = s.os) (u : Un (frs X.stack) ch H H' s.heap s'.heap) (hok : HOk X.prog X.w H' s'.heap) (hg : AllBare s'.gens)
  (hch : ∀ b ∈ ch, (b ∈ X.ex ∨ X.s₀.heap.objs.size ≤ b) ∧ b ≠ X.env.locals ∧ (∀ x c, X.env.cells.lookup x = some c → c ≠ b) ∧ ∀ p ∈ X.pn ++ pins, p.1 ≠ b) : Inv X pins σ H' s' := by
 obtain ⟨h', g', d', t', o'⟩ := s'
 have e : o' = s.os := ho
 subst e
 exact I.call (g' := g') (t' := t') (d' := d') u hok hg hch
end
noncomputable abbrev XK := Value → Option Addr → Hp → Prop
noncomputable abbrev St := List (Option V)
noncomputable abbrev VK := V → Hp → Prop
noncomputable abbrev TE := St → Hp → VK → Prop
noncomputable abbrev TT := St → Hp → (Bool → Hp → Prop) → Prop
noncomputable abbrev TA := St → Hp → (List V → Hp → Prop) → Prop
structure Ends where
 nx : St → Hp → Prop
 rt : VK
 bk : St → Hp → Prop := fun _ _ => False
 ct : St → Hp → Prop := fun _ _ => False
noncomputable abbrev TS := Ends → St → Hp → Prop
noncomputable def EP (X : Cx) (pins : List (Addr × Obj)) (σ : St) (Q : VK) (u : Value) (s' : Shared) : Prop := ∃ v H', Inv X pins σ H' s' ∧ RelV v u ∧ Q v H'
noncomputable def TP (X : Cx) (pins : List (Addr × Obj)) (σ : St) (Q : Bool → Hp → Prop) (b : Bool) (s' : Shared) : Prop := ∃ H', Inv X pins σ H' s' ∧ Q b H'
noncomputable def AP (X : Cx) (pins : List (Addr × Obj)) (σ : St) (Q : List V → Hp → Prop) (us : List Value) (s' : Shared) : Prop := ∃ vs H', Inv X pins σ H' s' ∧ Vals vs us ∧ Q vs H'
noncomputable def SP (X : Cx) (pins : List (Addr × Obj)) (D : Ends) (f : Flow) (s' : Shared) : Prop :=
 match f with
 | .next => ∃ σ' H', Inv X pins σ' H' s' ∧ D.nx σ' H'
 | .brk => ∃ σ' H', Inv X pins σ' H' s' ∧ D.bk σ' H'
 | .cont => ∃ σ' H', Inv X pins σ' H' s' ∧ D.ct σ' H'
 | .ret u => ∃ v σ' H', Inv X pins σ' H' s' ∧ RelV v u ∧ D.rt v H'
noncomputable def PE (X : Cx) (e : Expr) (t : TE) : Prop :=
 ∀ (pins : List (Addr × Obj)) (s : Shared) (σ : St) (H : Hp) (Q : VK), Inv X pins σ H s → t σ H Q → wpAny (model X.prog X.w) X.A (eval e X.env) (EP X pins σ Q) X.xe s
noncomputable def PT (X : Cx) (e : Expr) (t : TT) : Prop :=
 ∀ (pins : List (Addr × Obj)) (s : Shared) (σ : St) (H : Hp) (Q : Bool → Hp → Prop), Inv X pins σ H s → t σ H Q → wpAny (model X.prog X.w) X.A (isTrue e X.env (eval e X.env)) (TP X pins σ Q) X.xe s
noncomputable def PW (X : Cx) (e : Expr) (t : TT) : Prop :=
 ∀ (whole : Sem Value) (pins : List (Addr × Obj)) (s : Shared) (σ : St) (H : Hp) (Q : Bool → Hp → Prop), Inv X pins σ H s → t σ H Q → wpAny (model X.prog X.w) X.A (isTrue e X.env whole) (TP X pins σ Q) X.xe s
theorem PW.pt {X : Cx} {e : Expr} {t : TT} (h : PW X e t) : PT X e t := h _
noncomputable def PA (X : Cx) (es : List Expr) (t : TA) : Prop :=
 ∀ (pos : Pos) (pins : List (Addr × Obj)) (s : Shared) (σ : St) (H : Hp) (Q : List V → Hp → Prop), Inv X pins σ H s → t σ H Q → wpAny (model X.prog X.w) X.A (spliced (backTo pos (starEach es X.env))) (AP X pins σ Q) X.xe s
noncomputable def PS (X : Cx) (st : Stmt) (t : TS) : Prop :=
 ∀ (pins : List (Addr × Obj)) (s : Shared) (σ : St) (H : Hp) (D : Ends), Inv X pins σ H s → t D σ H → wpAny (model X.prog X.w) X.A (exec st X.env) (SP X pins D) X.xe s
noncomputable def PSs (X : Cx) (st : List Stmt) (t : TS) : Prop :=
 ∀ (pins : List (Addr × Obj)) (s : Shared) (σ : St) (H : Hp) (D : Ends), Inv X pins σ H s → t D σ H → wpAny (model X.prog X.w) X.A (execs st X.env) (SP X pins D) X.xe s
theorem thn {α : Type} {t : Sem α} {Q Q' : α → Shared → Prop} {M : Model} {A : Around} {E : Value → Shared → Prop} {s : Shared} (h : wpAny M A t Q E s) (hQ : ∀ a s, Q a s → Q' a s) : wpAny M A t Q' E s := wpAny_mono h hQ fun _ _ x => x
section
variable {X : Cx}
noncomputable def L0 (i : Nat) : TE := fun σ H Q => ∃ v, σ[i]? = some (some v) ∧ Q v H
noncomputable def tC (v : V) : TE := fun _ H Q => Q v H
theorem a6v {i : Nat} {x : Str} {pos : Pos} (hN : X.N[i]? = some x) (hv : Vis X.env.scope x) (hd : (x == ("__debug__" : Str)) = false := by decide) (hcd : (x == ("__classdict__" : Str)) = false := by decide) : PE X (.Name x pos) (L0 i) := by
 intro pins s σ H Q I h
 obtain ⟨v, e, h⟩ := h
 obtain ⟨m, hn, hl⟩ := I.loc
 obtain ⟨u, r, l⟩ := hl i x v hN e hv
 have fin : EP X pins σ Q u s := ⟨v, H, I, r, h⟩
 rcases l with ⟨hk, hm⟩ | ⟨hk, c, hc, hcell⟩
 ·exact wpAny_Name (wpAny_loadName_local I.ok.kind hk hn hm fin) hd
 ·rcases hk with hk | hk
  ·exact wpAny_Name (wpAny_loadName_cell I.ok.kind hk hc hcell fin) hd
  ·exact wpAny_Name (wpAny_loadName_free I.ok.kind hk hc hcell fin hcd) hd
theorem P4 {i j pos} : PE X (.Constant (.int i) j pos) (tC (.int i)) := fun _ _ _ H _ I h => wpAny_Constant_int ⟨.int i, H, I.tok _, ⟨_, rfl⟩, h⟩
theorem b0m {b j pos} : PE X (.Constant (.bool b) j pos) (tC (.bl b)) := fun _ _ _ H _ I h => Constant_bool ⟨.bl b, H, I, rfl, h⟩
theorem a65 {j pos} : PE X (.Constant .none j pos) (tC .non) := fun _ _ _ H _ I h => Constant_none ⟨.non, H, I, rfl, h⟩
theorem O9 {x j pos} : PE X (.Constant (.str x) j pos) (tC (.str x)) := fun _ _ _ H _ I h => Calls.Constant_str ⟨.str x, H, I.tok _, ⟨_, rfl⟩, h⟩
noncomputable def Gl (X : Cx) (x : Str) : Prop := X.env.kindOf x = some .globalImplicit
theorem a5e {E : Value → Shared → Prop} {pins : List (Addr × Obj)} {s : Shared} {σ : St} {H : Hp} {x : Str} {u : Value} {pos : Pos} {Q : Value → Shared → Prop} (I : Inv X pins σ H s) (hg : Gl X x) (hm : X.mg x = some u) (h : Q u s)
  (hd : (x == ("__debug__" : Str)) = false := by decide) : wpAny (model X.prog X.w) X.A (eval (.Name x pos) X.env) Q E s :=
 Calls.Name_function_global I.ok.kind hg (Calls.loadGlobal_global (by rw [I.ok.glob]; exact I.mod.glob.keeps I.bk) hm h) hd
theorem a2B {E : Value → Shared → Prop} {pins : List (Addr × Obj)} {s : Shared} {σ : St} {H : Hp} {x : Str} {u : Value} {pos : Pos} {Q : Value → Shared → Prop} (I : Inv X pins σ H s) (hg : Gl X x) (hm : X.mg x = none) (hv : bootBuiltins x = some u) (h : Q u s)
  (hn : x ≠ "__name__" := by decide) (hd : (x == ("__debug__" : Str)) = false := by decide) : wpAny (model X.prog X.w) X.A (eval (.Name x pos) X.env) Q E s := by
 obtain ⟨mb, h1, h2⟩ := I.mod.blt
 exact Calls.Name_function_global I.ok.kind hg (Calls.loadGlobal_builtin (by rw [I.ok.glob]; exact I.mod.glob.keeps I.bk) hm (by rw [I.ok.blt]; exact h1.keeps I.bk) ((h2 x hn).trans hv) h) hd
variable {a b : Expr} {ta tb : TE} {pos : Pos}
variable {tA tB' : TT} {rest : List Expr}
noncomputable def a5X (t u : TT) : TT := fun σ H Q => t σ H fun c H1 => if c = true then u σ H1 Q else Q false H1
noncomputable def tOr (t u : TT) : TT := fun σ H Q => t σ H fun c H1 => if c = true then Q true H1 else u σ H1 Q
noncomputable def a8O (t : TT) : TT := fun σ H Q => t σ H fun c H1 => Q (!c) H1
theorem a5L (ha : PT X a tA) : PW X (.BoolOp .And [a] pos) tA := by
 intro wh pins s σ H Q I h
 refine isTrue_and (thn (ha pins s σ H Q I h) fun c s1 e => ?_)
 cases c with
 | true => exact isTrue_and_nil e
 | false => exact e
theorem a88 (ha : PT X a tA) : PW X (.BoolOp .Or [a] pos) tA := by
 intro wh pins s σ H Q I h
 refine isTrue_or (thn (ha pins s σ H Q I h) fun c s1 e => ?_)
 cases c with
 | false => exact isTrue_or_nil e
 | true => exact e
theorem a78 (ha : PT X a tA) (hb : PW X (.BoolOp .And (b :: rest) pos) tB') : PW X (.BoolOp .And (a :: b :: rest) pos) (a5X tA tB') := by
 intro wh pins s σ H Q I h
 refine isTrue_and (thn (ha pins s σ H _ I h) fun c s1 ⟨H1, I1, q1⟩ => ?_)
 cases c with
 | true => exact hb wh pins s1 σ H1 Q I1 q1
 | false => exact ⟨H1, I1, q1⟩
theorem a9O (ha : PT X a tA) (hb : PW X (.BoolOp .Or (b :: rest) pos) tB') : PW X (.BoolOp .Or (a :: b :: rest) pos) (tOr tA tB') := by
 intro wh pins s σ H Q I h
 refine isTrue_or (thn (ha pins s σ H _ I h) fun c s1 ⟨H1, I1, q1⟩ => ?_)
 cases c with
 | true => exact ⟨H1, I1, q1⟩
 | false => exact hb wh pins s1 σ H1 Q I1 q1
theorem a64 (ha : PT X a tA) : PT X (.UnaryOp .Not a pos) (a8O tA) := by
 intro pins s σ H Q I h
 exact isTrue_not (ha pins s σ H (fun c H1 => Q (!c) H1) I h)
noncomputable def a9p (ta tb : TE) : TE := fun σ H Q => ta σ H fun x H1 => ∃ c, x = .bl c ∧ if c = true then tb σ H1 Q else Q (.bl false) H1
noncomputable def b0y (ta : TE) : TE := fun σ H Q => ta σ H fun x H1 => ∃ c, x = .bl c ∧ Q (.bl (!c)) H1
theorem a6M {op} {t : TE} (h : PE X a t) : PE X (.BoolOp op [a] pos) t := fun pins s σ H Q I hw => BoolOp_one (h pins s σ H Q I hw)
theorem a6y (ha : PE X a ta) (hb : PE X (.BoolOp .And (b :: rest) pos) tb) : PE X (.BoolOp .And (a :: b :: rest) pos) (a9p ta tb) := by
 intro pins s σ H Q I h
 refine BoolOp_and (thn (ha pins s σ H _ I h) fun v s1 ⟨x, H1, I1, r1, q1⟩ => ?_)
 obtain ⟨c, rfl, q1⟩ := q1
 cases r1
 refine wpAny_truthy_bool ?_
 cases c with
 | true => exact hb pins s1 σ H1 Q I1 q1
 | false => exact ⟨.bl false, H1, I1, rfl, q1⟩
theorem a7a (ha : PE X a ta) : PE X (.UnaryOp .Not a pos) (b0y ta) := by
 intro pins s σ H Q I h
 refine UnaryOp_ (thn (ha pins s σ H _ I h) fun v s1 ⟨x, H1, I1, r1, q1⟩ => ?_)
 obtain ⟨c, rfl, q1⟩ := q1
 cases r1
 exact not_of (wpAny_truthy_bool ⟨.bl (!c), H1, I1, rfl, q1⟩)
noncomputable def tIf (t : TT) (ta tb : TE) : TE := fun σ H Q => t σ H fun c H1 => if c = true then ta σ H1 Q else tb σ H1 Q
theorem a8j {c : Expr} (hc : PT X c tA) (ha : PE X a ta) (hb : PE X b tb) : PE X (.IfExp c a b pos) (tIf tA ta tb) := by
 intro pins s σ H Q I h
 refine wpAny_IfExp (thn (hc pins s σ H _ I h) fun d s1 ⟨H1, I1, q1⟩ => ?_)
 cases d with
 | true => exact ha pins s1 σ H1 Q I1 q1
 | false => exact hb pins s1 σ H1 Q I1 q1
end
noncomputable def SqL (K : PySem.W.Frag) (H : Hp) (a : Addr) (xs : List V) : Prop :=
 Rd H a (.lst xs) ∨
  ∃ (o : Obj) (its : Array Value) (n : Nat), K.lookup a = some o ∧ o.cls = .type "list" ∧ o.dict = none ∧ o.data = .seq its n ∧ its.size ≤ sizeLine ∧ Vals xs its.toList
noncomputable def SqT (K : PySem.W.Frag) (H : Hp) (a : Addr) (xs : List V) : Prop :=
 Rd H a (.tup xs) ∨
  ∃ (o : Obj) (its : Array Value) (n : Nat), K.lookup a = some o ∧ o.cls = .type "tuple" ∧ o.data = .seq its n ∧ its.size ≤ sizeLine ∧ Vals xs its.toList
noncomputable def a9u : Value → Option V
 | .none => some .non
 | .bool b => some (.bl b)
 | .int i _ => some (.int i)
 | .str x _ => some (.str x)
 | .bytes b _ => some (.byt b)
 | .float b _ => some (.flt b)
 | .ref a => some (.ref a)
 | .type n => some (.ty n)
 | _ => none
theorem RelV.abs {x : V} {u : Value} (r : RelV x u) : a9u u = some x := by
 cases x with
 | non => cases r; rfl
 | bl _ => cases r; rfl
 | int _ => obtain ⟨t, rfl⟩ := r; rfl
 | str _ => obtain ⟨t, rfl⟩ := r; rfl
 | byt _ => obtain ⟨t, rfl⟩ := r; rfl
 | flt _ => obtain ⟨t, rfl⟩ := r; rfl
 | ref _ => cases r; rfl
 | ty _ => cases r; rfl
theorem RelV.inj {x y : V} {u : Value} (r : RelV x u) (q : RelV y u) : x = y := Option.some.inj (r.abs.symm.trans q.abs)
theorem Vals.inj : ∀ {xs ys : List V} {us : List Value}, Vals xs us → Vals ys us → xs = ys := by
 intro xs ys us h
 induction h generalizing ys with
 | nil =>
  intro h2
  cases h2
  rfl
 | cons r t ih =>
  intro h2
  cases h2 with
  | cons r' t' => rw [r.inj r', ih t']
section
variable {X : Cx} {pins : List (Addr × Obj)} {σ : St} {H : Hp} {s : Shared} {a : Addr} {xs ys : List V}
theorem SqL.of {K : PySem.W.Frag} (h : H a = some (.lst xs)) : SqL K H a xs := .inl (.inl h)
theorem SqT.of {K : PySem.W.Frag} (h : H a = some (.tup xs)) : SqT K H a xs := .inl (.inl h)
theorem Inv.list (I : Inv X pins σ H s) (h : SqL X.K H a xs) : ∃ its : List Value, Vals xs its ∧ PlainL s.heap a its.toArray ∧ xs.length ≤ sizeLine := by
 rcases h with h | ⟨o, its, n, hk, hc, hd, hs, hz, r⟩
 ·obtain ⟨z, its, n, r, e⟩ := h.ok I.hok
  exact ⟨its, r, ⟨_, n, e, rfl, rfl, rfl⟩, z⟩
 ·refine ⟨its.toList, r, ⟨o, n, I.kIn a o hk, hc, hd, by simpa using hs⟩, ?_⟩
  have e := r.length
  simp only [Array.length_toList] at e
  omega
theorem Inv.tuple (I : Inv X pins σ H s) (h : SqT X.K H a xs) : ∃ its : List Value, Vals xs its ∧ IsTup s.heap a its.toArray ∧ xs.length ≤ sizeLine := by
 rcases h with h | ⟨o, its, n, hk, hc, hs, hz, r⟩
 ·obtain ⟨z, its, r, p⟩ := h.ok I.hok
  exact ⟨its, r, p, z⟩
 ·refine ⟨its.toList, r, ⟨o, I.kIn a o hk, hc, n, by simpa using hs⟩, ?_⟩
  have e := r.length
  simp only [Array.length_toList] at e
  omega
theorem Inv.list_inj (I : Inv X pins σ H s) (h : SqL X.K H a xs) (h' : SqL X.K H a ys) : xs = ys := by
 obtain ⟨its, r, ⟨o, n, e, _, _, d⟩, _⟩ := I.list h
 obtain ⟨its', r', ⟨o', n', e', _, _, d'⟩, _⟩ := I.list h'
 rw [e] at e'; cases e'
 rw [d] at d'
 injection d' with d1 _
 have : its = its' := by simpa using congrArg Array.toList d1
 subst this
 exact r.inj r'
theorem Inv.tuple_inj (I : Inv X pins σ H s) (h : SqT X.K H a xs) (h' : SqT X.K H a ys) : xs = ys := by
 obtain ⟨its, r, ⟨o, e, _, n, d⟩, _⟩ := I.tuple h
 obtain ⟨its', r', ⟨o', e', _, n', d'⟩, _⟩ := I.tuple h'
 rw [e] at e'; cases e'
 rw [d] at d'
 injection d' with d1 _
 have : its = its' := by simpa using congrArg Array.toList d1
 subst this
 exact r.inj r'
end
noncomputable abbrev Cx.wish (X : Cx) (E : Value → Shared → Prop) : Cx := { X with xe := E }
noncomputable abbrev Cx.nox (X : Cx) : Cx := X.wish fun _ _ => False
theorem Cx.Ok.wish {X : Cx} (ok : X.Ok) (E : Value → Shared → Prop) : (X.wish E).Ok :=
 ⟨ok.mod, ok.kind, ok.glob, ok.blt, ok.above, ok.inj, ok.has, ok.cab, ok.hd, ok.frames, ok.stk, ok.exf, ok.bs, ok.bsz, ok.noex, ok.exfs, ok.funs, ok.frf⟩
theorem Cx.Ok.unwish {X : Cx} {E : Value → Shared → Prop} (ok : (X.wish E).Ok) : X.Ok :=
 ⟨ok.mod, ok.kind, ok.glob, ok.blt, ok.above, ok.inj, ok.has, ok.cab, ok.hd, ok.frames, ok.stk, ok.exf, ok.bs, ok.bsz, ok.noex, ok.exfs, ok.funs, ok.frf⟩
section
variable {X : Cx} {pins : List (Addr × Obj)} {σ : St} {H : Hp} {s : Shared} {E : Value → Shared → Prop}
theorem Inv.wish (I : Inv X pins σ H s) (E : Value → Shared → Prop) : Inv (X.wish E) pins σ H s := ⟨I.ok.wish E, I.os, I.bare, I.base, I.loc, I.cell, I.free, I.freeC, I.pin, I.hok, I.len⟩
theorem Inv.unwish (I : Inv (X.wish E) pins σ H s) : Inv X pins σ H s := ⟨I.ok.unwish, I.os, I.bare, I.base, I.loc, I.cell, I.free, I.freeC, I.pin, I.hok, I.len⟩
theorem SP.unwish {D : Ends} {f : Flow} {s' : Shared} (h : SP (X.wish E) pins D f s') : SP X pins D f s' := by
 cases f with
 | next => obtain ⟨σ', H', I, q⟩ := h; exact ⟨σ', H', I.unwish, q⟩
 | brk => obtain ⟨σ', H', I, q⟩ := h; exact ⟨σ', H', I.unwish, q⟩
 | cont => obtain ⟨σ', H', I, q⟩ := h; exact ⟨σ', H', I.unwish, q⟩
 | ret u => obtain ⟨v, σ', H', I, r, q⟩ := h; exact ⟨v, σ', H', I.unwish, r, q⟩
theorem PSs.nox {st : List Stmt} {t : TS} (h : PSs X.nox st t) : PSs X st t := fun pins s σ H D I hw =>
 wpAny_mono (h pins s σ H D (I.wish _) hw) (fun _ _ q => q.unwish) fun _ _ z => False.elim z
end
section
variable {X : Cx} {st : Stmt} {rest : List Stmt} {t u : TS} {e : Expr} {te : TE} {pos : Pos}
noncomputable def a8d : TS := fun D σ H => D.nx σ H
noncomputable def b0w (t u : TS) : TS := fun D σ H => t { D with nx := u D } σ H
theorem a8I : PSs X [] a8d := fun _ _ σ H _ I h => wpAny_execs_nil ⟨σ, H, I, h⟩
theorem b0j (h1 : PS X st t) (h2 : PSs X rest u) : PSs X (st :: rest) (b0w t u) := by
 intro pins s σ H D I h
 refine wpAny_execs_cons (thn (h1 pins s σ H { D with nx := u D } I h) fun f s1 q => ?_)
 cases f with
 | next =>
  obtain ⟨σ', H', I', q⟩ := q
  exact h2 pins s1 σ' H' D I' q
 | ret v => exact q
 | brk => exact q
 | cont => exact q
theorem a9s (h1 : PS X st t) : PSs X [st] t := by
 intro pins s σ H D I h
 refine wpAny_execs_cons (thn (h1 pins s σ H D I h) fun f s1 q => ?_)
 cases f with
 | next => exact wpAny_execs_nil q
 | ret v => exact q
 | brk => exact q
 | cont => exact q
theorem Inv.quiet {pins : List (Addr × Obj)} {σ : St} {H : Hp} {s : Shared} (I : Inv X pins σ H s) : interactive X.env = false := by simp [interactive, I.ok.kind]
noncomputable def a7p (te : TE) : TS := fun D σ H => te σ H fun _ H1 => D.nx σ H1
theorem a77 (he : PE X e te) (hs : swapsWith e none pos.line X.env = pure false := by rfl) : PS X (.Expr e pos) (a7p te) := by
 intro pins s σ H D I h
 exact wpAny_Expr_any (thn (he pins s σ H _ I h) fun v s1 ⟨x, H1, I1, r1, q1⟩ => ⟨σ, H1, I1, q1⟩) I.quiet hs
noncomputable def a5s (te : TE) : TS := fun D σ H => te σ H D.rt
theorem a83 (he : PE X e te) : PS X (.Return (some e) pos) (a5s te) := by
 intro pins s σ H D I h
 exact wpAny_Return_some (thn (he pins s σ H _ I h) fun v s1 ⟨x, H1, I1, r1, q1⟩ => ⟨x, σ, H1, I1, r1, q1⟩)
noncomputable def a6b (c : TT) (t u : TS) : TS := fun D σ H => c σ H fun b H1 => if b = true then t D σ H1 else u D σ H1
theorem a8V {c : Expr} {a b : List Stmt} {tc : TT} (hc : PT X c tc) (ha : PSs X a t) (hb : PSs X b u) : PS X (.If c a b pos) (a6b tc t u) := by
 intro pins s σ H D I h
 refine wpAny_If (thn (hc pins s σ H _ I h) fun d s1 ⟨H1, I1, q1⟩ => ?_)
 cases d with
 | true => exact ha pins s1 σ H1 D I1 q1
 | false => exact hb pins s1 σ H1 D I1 q1
end
noncomputable abbrev TG := V → St → Hp → (St → Hp → Prop) → Prop
noncomputable abbrev TGs := List V → St → Hp → (St → Hp → Prop) → Prop
noncomputable def PG (X : Cx) (target : Expr) (t : TG) : Prop :=
 ∀ (pins : List (Addr × Obj)) (s : Shared) (σ : St) (H : Hp) (v : V) (u : Value) (Q : St → Hp → Prop), Inv X pins σ H s → RelV v u → t v σ H Q →
  wpAny (model X.prog X.w) X.A (assign target X.env u) (fun _ s' => ∃ σ' H', Inv X pins σ' H' s' ∧ Q σ' H') X.xe s
noncomputable def PGs (X : Cx) (ts : List Expr) (t : TGs) : Prop :=
 ∀ (pins : List (Addr × Obj)) (s : Shared) (σ : St) (H : Hp) (vs : List V) (us : List Value) (Q : St → Hp → Prop), Inv X pins σ H s → Vals vs us → t vs σ H Q →
  wpAny (model X.prog X.w) X.A (assignInOrder ((assignEach ts X.env).map (·.2)) us) (fun _ s' => ∃ σ' H', Inv X pins σ' H' s' ∧ Q σ' H') X.xe s
noncomputable abbrev a1A := V → V → V → Hp → (Hp → Prop) → Prop
noncomputable def a45 (X : Cx) (t : a1A) : Prop :=
 ∀ (pins : List (Addr × Obj)) (s : Shared) (σ : St) (H : Hp) (o i v : V) (ov iv u : Value) (Q : Hp → Prop), Inv X pins σ H s → RelV o ov → RelV i iv → RelV v u → t o i v H Q →
  wpAny (model X.prog X.w) X.A (setItem ov iv u) (fun _ s' => ∃ H', Inv X pins σ H' s' ∧ Q H') X.xe s
section
variable {X : Cx} {pos : Pos}
noncomputable def F5 (i : Nat) : TG := fun v σ H Q => Q (σ.set i (some v)) H
theorem n6 {i : Nat} {x : Str} (hN : X.N.Nodup) (hi : X.N[i]? = some x) (hx : Loc X.env.scope x) (hf : X.fn x = true ∨ X.env.scope.names.lookup x = some .local := by first | exact .inl rfl | exact .inr rfl | assumption) : PG X (.Name x pos) (F5 i) := by
 intro pins s σ H v u Q I r h
 exact wpAny_assign_Name (Z1 I hN hi hx r (fun s' I' => ⟨_, H, I', h⟩) hf)
noncomputable def a4K : TGs := fun vs σ H Q => vs = [] ∧ Q σ H
noncomputable def a1q (t : TG) (u : TGs) : TGs := fun vs σ H Q => ∃ v r, vs = v :: r ∧ t v σ H fun σ' H' => u r σ' H' Q
theorem a3h : PGs X [] a4K := by
 intro pins s σ H vs us Q I r h
 obtain ⟨e, h⟩ := h
 subst e
 cases r
 exact assignInOrder_nil ⟨σ, H, I, h⟩
theorem a11 {e : Expr} {es : List Expr} {t : TG} {u : TGs} (h1 : PG X e t) (h2 : PGs X es u)
  (hs : (assignEach (e :: es) X.env).map (·.2) = assign e X.env :: (assignEach es X.env).map (·.2) := by rfl) : PGs X (e :: es) (a1q t u) := by
 intro pins s σ H vs us Q I r h
 obtain ⟨v, vr, e1, h⟩ := h
 subst e1
 cases r with
 | cons r rr =>
  rw [hs]
  refine assignInOrder_cons (thn (h1 pins s σ H _ _ _ I r h) fun _ s1 ⟨σ1, H1, I1, q1⟩ => ?_)
  exact h2 pins s1 σ1 H1 _ _ Q I1 rr q1
noncomputable def a4M (K : PySem.W.Frag) (n : Nat) (t : TGs) : TG := fun v σ H Q => ∃ a xs, v = .ref a ∧ SqT K H a xs ∧ xs.length = n ∧ t xs σ H Q
theorem a2Z {es : List Expr} {k : Nat} {t : TGs} {n : Nat} (hc : X.calm = true) (h : PGs X es t)
  (hn : (assignEach es X.env).length = n := by rfl) (hst : (assignEach es X.env).findIdx? (·.1) = none := by rfl) : PG X (.Tuple es k pos) (a4M X.K n t) := by
 intro pins s σ H v u Q I r hw
 obtain ⟨a, xs, e1, hq, hl, hw⟩ := hw
 subst e1
 cases r
 obtain ⟨its, rv, ht, hz⟩ := I.tuple hq
 refine assign_Tuple_tuple (I.ok.hd hc) ht (by simp [hn, ← hl, rv.length]) hst fun h' hx => ?_
 have I1 : Inv X pins σ H { s with heap := h' } := I.kept (t' := s.toks) fun b o e => hx b o (Nat.ne_of_lt (Heap.lt_size e)) e
 exact h pins _ σ H xs _ Q I1 (by simpa using rv) hw
noncomputable def a5z (to ti : TE) (t : a1A) : TG := fun v σ H Q => to σ H fun o H1 => ti σ H1 fun i H2 => t o i v H2 fun H3 => Q σ H3
theorem a8U {o i : Expr} {to ti : TE} {t : a1A} (ho : PE X o to) (hi : PE X i ti) (hs : a45 X t)
  (ha : ∀ v, assign (.Subscript o i pos) X.env v = (do
   let ov ← holding [v] (eval o X.env)
   let iv ← holding [v, ov] (eval i X.env)
   standAt pos
   holding [v, ov, iv] (setItem ov iv v)
   release [v, ov, iv] []) := by intro _; rfl) : PG X (.Subscript o i pos) (a5z to ti t) := by
 intro pins s σ H v u Q I r h
 rw [ha]
 refine wpAny_bind (wpAny_holding (thn (ho pins s σ H _ I h) fun ov s1 ⟨x, H1, I1, r1, q1⟩ => ?_))
 refine wpAny_bind (wpAny_holding (thn (hi pins s1 σ H1 _ I1 q1) fun iv s2 ⟨y, H2, I2, r2, q2⟩ => ?_))
 refine wpAny_bind (wpAny_standAt (wpAny_bind (wpAny_holding (thn (hs pins s2 σ H2 x y v ov iv u _ I2 r1 r2 r q2) fun _ s3 ⟨H3, I3, q3⟩ => ?_))))
 exact wpAny_release ⟨σ, H3, I3, q3⟩
noncomputable def V0 (te : TE) (g : TG) : TS := fun D σ H => te σ H fun x H1 => g x σ H1 D.nx
theorem a2H {tg e : Expr} {te : TE} {g : TG} (he : PE X e te) (hg : PG X tg g) (hs : swapsWithSole [tg] e pos.line X.env = pure false := by rfl) (hw : swappedStores [tg] e X.env = pure none := by rfl)
  (h1 : (assignEach [tg] X.env).map (·.2) = [assign tg X.env] := by rfl) : PS X (.Assign [tg] e pos) (V0 te g) := by
 intro pins s σ H D I h
 refine wpAny_Assign_stores (thn (he pins s σ H _ I h) fun v s1 ⟨x, H1, I1, r1, q1⟩ => ?_) hs hw
 rw [h1]
 exact thn (hg pins s1 σ H1 x v _ I1 r1 q1) fun _ s2 q => q
theorem a4t {i : Nat} {x : Str} {e : Expr} {te : TE} {pos' : Pos} (hN : X.N.Nodup) (hi : X.N[i]? = some x) (hx : Loc X.env.scope x) (he : PE X e te) (hs : swapsWith e (some (.Name x pos')) pos.line X.env = pure false := by rfl) (hf : X.fn x = true ∨ X.env.scope.names.lookup x = some .local := by first | exact .inl rfl | exact .inr rfl | assumption) :
  PS X (.Assign [.Name x pos'] e pos) (V0 te (F5 i)) := by
 intro pins s σ H D I h
 refine wpAny_Assign_Name (thn (he pins s σ H _ I h) fun v s1 ⟨y, H1, I1, r1, q1⟩ => ?_) hs
 exact Z1 I1 hN hi hx r1 (fun s2 I2 => ⟨_, H1, I2, q1⟩) hf
noncomputable def a9R (i j : Nat) (ta : TA) : TS := fun D σ H => ta σ H fun vs H1 => ∃ v w, vs = [v, w] ∧ D.nx ((σ.set i (some v)).set j (some w)) H1
theorem a9r {i j : Nat} {x y : Str} {a b : Expr} {ta : TA} {px py pt : Pos} {kt k2 pt2} (hc : X.calm = true) (hN : X.N.Nodup) (hi : X.N[i]? = some x) (hj : X.N[j]? = some y) (hij : i ≠ j)
  (hx : X.env.scope.names.lookup x = some .local) (hy : X.env.scope.names.lookup y = some .local) (ha : PA X [a, b] ta)
  (hw : swappedStores [.Tuple [.Name x px, .Name y py] kt pt] (.Tuple [a, b] k2 pt2) X.env = pure (some [x, y]))
  (hs : swapsWithSole [.Tuple [.Name x px, .Name y py] kt pt] (.Tuple [a, b] k2 pt2) pos.line X.env = pure false := by rfl) :
  PS X (.Assign [.Tuple [.Name x px, .Name y py] kt pt] (.Tuple [a, b] k2 pt2) pos) (a9R i j ta) := by
 intro pins s σ H D I h
 rw [exec_Assign_arm]
 refine wpAny_bind (wpAny_standAt ?_)
 rw [hs]
 refine wpAny_bind (wpAny_pure ?_)
 rw [if_neg (by decide)]
 refine wpAny_bind (Tuple_ (thn (ha _ pins s σ H _ I h) fun us s1 ⟨vs, H1, I1, r1, q1⟩ => ?_))
 obtain ⟨v, w, e1, q1⟩ := q1
 subst e1
 obtain ⟨u1, u2, rfl, rv, rw'⟩ : ∃ u1 u2, us = [u1, u2] ∧ RelV v u1 ∧ RelV w u2 := by
  cases r1 with
  | cons p q =>
   cases q with
   | cons p' q' =>
    cases q'
    exact ⟨_, _, rfl, p, p'⟩
 refine wpAny_newObj_type ?_ (by show 2 ≤ sizeLine; decide)
 have I2 : Inv X pins σ H1 { s1 with heap := s1.heap.push { cls := .type "tuple", data := .seq [u1, u2].toArray } } := I1.kept (t' := s1.toks) fun b o e => Heap.get?_push_of_some _ e
 rw [hw]
 refine wpAny_bind (wpAny_pure ?_)
 show wpAny (model X.prog X.w) X.A (do rule "assign.swapped-stores"; let items ← unpackItems (.ref s1.heap.objs.size) 2 none; assignInOrder [fun v => bindName X.env y v, fun v => bindName X.env x v] items.reverse; pure Flow.next) _ _ _
 refine wpAny_bind (wpAny_rule (wpAny_bind (unpackItems_tuple (items := #[u1, u2]) (I.ok.hd hc) (IsTup.new s1.heap _) fun h' hx' => ?_)))
 have I3 := I2.kept (h' := h') (t' := s1.toks) fun b o e => hx' b o (Nat.ne_of_lt (Heap.lt_size e)) e
 show wpAny _ _ (assignInOrder [fun v => bindName X.env y v, fun v => bindName X.env x v] [u2, u1] >>= fun _ => pure Flow.next) _ _ _
 refine wpAny_bind (assignInOrder_cons (wpAny_bindName (Z1 I3 hN hj (.inl hy) rw' (fun s2 I4 => ?_) (.inr hy))))
 refine assignInOrder_cons (wpAny_bindName (Z1 I4 hN hi (.inl hx) rv (fun s3 I5 => assignInOrder_nil (wpAny_pure ?_)) (.inr hx)))
 rw [List.set_comm _ _ (Ne.symm hij)] at I5
 exact ⟨_, H1, I5, q1⟩
end
section
variable {X : Cx} {pos : Pos}
noncomputable def a5P (c : TT) (tb : TS) : TS := fun D σ H => ∃ W : Nat → St → Hp → Prop, (∃ m, W m σ H) ∧ ∀ m σ H, W m σ H →
 c σ H fun b H1 => if b = true then ∃ N : St → Hp → Prop, (∀ σ' H', N σ' H' → ∃ m', m' < m ∧ W m' σ' H') ∧ tb { D with nx := N, ct := N, bk := D.nx } σ H1 else D.nx σ H1
theorem a90 {c : Expr} {body : List Stmt} {tc : TT} {tb : TS} (hp : PassesOwn (model X.prog X.w) X.A X.env X.xe) (hc : PT X c tc) (hb : PSs X body tb) : PS X (.While c body [] pos) (a5P tc tb) := by
 intro pins s σ H D I h
 obtain ⟨W, ⟨m0, w0⟩, turn⟩ := h
 refine wpAny_While (codeAny_whileLoop (fun n s' => ∃ σ' H', Inv X pins σ' H' s' ∧ W n σ' H') ?_ m0 ⟨σ, H, I, w0⟩)
 rintro n s1 ⟨σ1, H1, I1, w1⟩
 refine wpAny_passesOwn hp (thn (hc pins s1 σ1 H1 _ I1 (turn n σ1 H1 w1)) fun b s2 ⟨H2, I2, q2⟩ => ?_)
 cases b with
 | true =>
  obtain ⟨N, hN, q2⟩ := q2
  rw [if_pos rfl]
  refine wpAny_passesOwn hp (thn (hb pins s2 σ1 H2 _ I2 q2) fun f s3 q3 => ?_)
  cases f with
  | next =>
   obtain ⟨σ3, H3, I3, n3⟩ := q3
   obtain ⟨m', hm, w3⟩ := hN σ3 H3 n3
   exact ⟨m', hm, σ3, H3, I3, w3⟩
  | cont =>
   obtain ⟨σ3, H3, I3, n3⟩ := q3
   obtain ⟨m', hm, w3⟩ := hN σ3 H3 n3
   exact ⟨m', hm, σ3, H3, I3, w3⟩
  | brk => exact q3
  | ret v => exact q3
 | false =>
  rw [if_neg Bool.false_ne_true]
  exact wpAny_execs_nil ⟨σ1, H2, I2, q2⟩
end
structure It where
 go : Nat → Hp → Prop
 yld : Nat → Hp → V → Hp → Prop
 stop : Nat → Hp → Prop
noncomputable def G7 (X : Cx) (pins : List (Addr × Obj)) (H : Hp) (b : Addr) : Prop :=
 H b = none ∧ b ≠ X.env.locals ∧ b ∉ X.fs ∧ (b ∈ X.ex ∨ X.s₀.heap.objs.size ≤ b) ∧ (∀ x c, X.env.cells.lookup x = some c → c ≠ b) ∧ ∀ p ∈ X.pn ++ pins, p.1 ≠ b
theorem Inv.fpOk {X : Cx} {pins : List (Addr × Obj)} {σ : St} {H H' : Hp} {s : Shared} {b : Addr} (I : Inv X pins σ H s) (hb : s.heap.objs.size ≤ b) (hn : H' b = none) : G7 X pins H' b := by
 refine ⟨hn, Nat.ne_of_gt (Nat.lt_of_lt_of_le I.lt hb), I.nofs hb, .inr (Nat.le_trans I.sz hb), fun x c e z => ?_, fun p hp z => ?_⟩
 ·obtain ⟨v, q⟩ := I.cell x c e
  exact absurd (Nat.lt_of_lt_of_le q.lt (by rw [z]; exact hb)) (Nat.lt_irrefl _)
 ·exact absurd (Nat.lt_of_lt_of_le (Heap.lt_size (I.pin p hp).1) (by rw [z]; exact hb)) (Nat.lt_irrefl _)
structure Turn (P : Program) (w : World) (K : PySem.W.Frag) (tg : Expr) (J : It) (fp : List Addr) (it : Addr) (tn : Nat → Heap → Prop) : Prop where
 mem : it ∈ fp
 obj : ∀ i h, tn i h → ∀ b ∈ fp, ∃ o, h.get? b = some o ∧ ∀ v, o.data ≠ .cell v
 keep : ∀ i h h', tn i h → (∀ b ∈ fp, ∀ o, h.get? b = some o → h'.get? b = some o) → tn i h'
 item : ∀ (X : Cx), X.prog = P → X.w = w → X.K = K → X.calm = true → ∀ (i : Nat) (pins : List (Addr × Obj)) (s : Shared) (σ : St) (H : Hp) (E : Value → Shared → Prop), Inv X pins σ H s → (∀ b ∈ fp, G7 X pins H b) → tn i s.heap → J.go i H →
  wpAny (model P w) X.A (pyNext (.ref it)) (fun r s1 => ∃ u, r = some u ∧
   wpAny (model P w) X.A (letOwnedTupleGo tg (.ref it) u) (fun _ s2 => ∃ x H', Inv X pins σ H' s2 ∧ RelV x u ∧ J.yld i H x H' ∧ tn (i + 1) s2.heap ∧ ∀ b ∈ fp, H' b = none) E s1) E s
 done : ∀ (X : Cx), X.prog = P → X.w = w → X.K = K → X.calm = true → ∀ (i : Nat) (pins : List (Addr × Obj)) (s : Shared) (σ : St) (H : Hp) (E : Value → Shared → Prop), Inv X pins σ H s → (∀ b ∈ fp, G7 X pins H b) → tn i s.heap → J.stop i H →
  wpAny (model P w) X.A (pyNext (.ref it)) (fun r s1 => r = none ∧ Inv X pins σ H s1) E s
 self : ∀ (A : Around) (i : Nat) (s : Shared) (Q : Value → Shared → Prop) (E : Value → Shared → Prop), tn i s.heap → Q (.ref it) s → wpAny (model P w) A (pyIter (.ref it)) Q E s
noncomputable abbrev TI := St → Hp → (It → Hp → Prop) → Prop
noncomputable def PIE (X : Cx) (pins : List (Addr × Obj)) (σ : St) (tg : Expr) (R : It → Hp → Prop) (itv : Value) (s2 : Shared) : Prop :=
 ∃ (it : Addr) (fp : List Addr) (tn : Nat → Heap → Prop) (J : It) (H' : Hp), itv = .ref it ∧ Inv X pins σ H' s2 ∧ Turn X.prog X.w X.K tg J fp it tn ∧ tn 0 s2.heap ∧ (∀ b ∈ fp, G7 X pins H' b) ∧ R J H'
noncomputable def PI (X : Cx) (tg iter : Expr) (wi : TI) : Prop :=
 ∀ (pins : List (Addr × Obj)) (s : Shared) (σ : St) (H : Hp) (R : It → Hp → Prop), Inv X pins σ H s → wi σ H R →
  wpAny (model X.prog X.w) X.A (eval iter X.env) (fun v s1 => wpAny (model X.prog X.w) X.A (pyIter v) (PIE X pins σ tg R) X.xe s1) X.xe s
theorem a1V {M : Model} {A : Around} {E : Value → Shared → Prop} {s : Shared} {tg : Expr} {it : Addr} {u : Value} {o : Obj} {n : String} {vs : Array Value} {Q : Unit → Shared → Prop} (ho : s.heap.get? it = some o) (hc : o.cls = .type n) (hd : o.data = .fields vs)
    (hn : ["enumerate", "zip", "dict_itemiterator", "dict_reverseitemiterator", "odict_iterator", "itertools.zip_longest", "itertools.pairwise"].contains n = false) (hQ : Q () s) : wpAny M A (letOwnedTupleGo tg (.ref it) u) Q E s := by
  unfold letOwnedTupleGo
  cases tg <;> first
    | exact wpAny_pure hQ
    | (cases u <;> first
        | exact wpAny_pure hQ
        | (refine wpAny_bind (wpAny_load ho ?_)
           rw [hc, hd]
           show wpAny M A (if (["enumerate", "zip", "dict_itemiterator", "dict_reverseitemiterator", "odict_iterator", "itertools.zip_longest", "itertools.pairwise"].contains n && vs[0]? == some (rawInt _)) = true then _ else _) Q E s
           rw [if_neg (by intro h; rw [hn, Bool.false_and] at h; cases h)]
           exact wpAny_pure hQ))
noncomputable def Itl (K : PySem.W.Frag) (a : Addr) : It :=
 ⟨fun i H => ∃ xs x, SqL K H a xs ∧ xs[i]? = some x, fun i H x H' => H' = H ∧ ∀ xs, SqL K H a xs → xs[i]? = some x, fun i H => ∃ xs, SqL K H a xs ∧ xs.length ≤ i⟩
noncomputable def Itt (K : PySem.W.Frag) (a : Addr) : It :=
 ⟨fun i H => ∃ xs x, SqT K H a xs ∧ xs[i]? = some x, fun i H x H' => H' = H ∧ ∀ xs, SqT K H a xs → xs[i]? = some x, fun i H => ∃ xs, SqT K H a xs ∧ xs.length ≤ i⟩
noncomputable def Itr (lo : Int) (n : Nat) : It := ⟨fun i _ => i < n, fun i H x H' => H' = H ∧ x = .int (lo + i), fun i _ => n ≤ i⟩
theorem a7g {P : Program} {w : World} {K : PySem.W.Frag} {tg : Expr} (a it : Addr) : Turn P w K tg (Itl K a) [it] it (fun i h => h.IsListIter it a i) where
 mem := by simp
 obj := fun i h st b hb => by
  have e : b = it := by simpa using hb
  subst e
  obtain ⟨o, e, c, d⟩ := st
  exact ⟨o, e, fun v z => by rw [d] at z; cases z⟩
 keep := fun i h h' st k => st.at fun o e => k it (by simp) o e
 item := by
  intro X hP hw hK hc i pins s σ H E I hf st hg
  subst hP hw hK
  obtain ⟨xs, x, hq, hx⟩ := hg
  obtain ⟨its, rv, p, hz⟩ := I.list hq
  obtain ⟨u, hu, ru⟩ := rv.get hx
  obtain ⟨f0, f1, f2, f3, f4, f5⟩ := hf it (by simp)
  refine wpAny_pyNext_list_item st p.isList (x := u) (by simpa using hu) fun h' st' sb => ?_
  have I1 : Inv X pins σ H { s with heap := h' } := I.turned (t' := s.toks) (fun b o hb e => (sb.2 b hb).trans e) f0 f1 f3 f4 f5
  obtain ⟨o, e, c, d⟩ := id st'
  exact ⟨u, rfl, a1V (s := { s with heap := h' }) e c d (by decide) ⟨x, H, I1, ru, ⟨rfl, fun ys hy => by rw [I.list_inj hy hq]; exact hx⟩, st', fun b hb => (hf b hb).1⟩⟩
 done := by
  intro X hP hw hK hc i pins s σ H E I hf st hg
  subst hP hw hK
  obtain ⟨xs, hq, hx⟩ := hg
  obtain ⟨its, rv, p, hz⟩ := I.list hq
  obtain ⟨f0, f1, f2, f3, f4, f5⟩ := hf it (by simp)
  have hl := rv.length
  exact wpAny_pyNext_list_end (I.ok.hd hc) st p.isList (by simp; omega) fun h' eb => ⟨rfl, I.turned (t' := s.toks) (fun b o hb e => eb b o hb e) f0 f1 f3 f4 f5⟩
 self := fun _ _ _ _ _ st h => wpAny_pyIter_listiter st h
theorem a7W {P : Program} {w : World} {K : PySem.W.Frag} {tg : Expr} (a it : Addr) : Turn P w K tg (Itt K a) [it] it (fun i h => h.IsTupleIter it a i) where
 mem := by simp
 obj := fun i h st b hb => by
  have e : b = it := by simpa using hb
  subst e
  obtain ⟨o, e, c, d⟩ := st
  exact ⟨o, e, fun v z => by rw [d] at z; cases z⟩
 keep := fun i h h' st k => st.at fun o e => k it (by simp) o e
 item := by
  intro X hP hw hK hc i pins s σ H E I hf st hg
  subst hP hw hK
  obtain ⟨xs, x, hq, hx⟩ := hg
  obtain ⟨its, rv, p, hz⟩ := I.tuple hq
  obtain ⟨u, hu, ru⟩ := rv.get hx
  obtain ⟨f0, f1, f2, f3, f4, f5⟩ := hf it (by simp)
  refine wpAny_pyNext_tuple_item st (show s.heap.IsTuple a its.toArray from p) (x := u) (by simpa using hu) fun h' st' sb => ?_
  have I1 : Inv X pins σ H { s with heap := h' } := I.turned (t' := s.toks) (fun b o hb e => (sb.2 b hb).trans e) f0 f1 f3 f4 f5
  obtain ⟨o, e, c, d⟩ := id st'
  exact ⟨u, rfl, a1V (s := { s with heap := h' }) e c d (by decide) ⟨x, H, I1, ru, ⟨rfl, fun ys hy => by rw [I.tuple_inj hy hq]; exact hx⟩, st', fun b hb => (hf b hb).1⟩⟩
 done := by
  intro X hP hw hK hc i pins s σ H E I hf st hg
  subst hP hw hK
  obtain ⟨xs, hq, hx⟩ := hg
  obtain ⟨its, rv, p, hz⟩ := I.tuple hq
  obtain ⟨f0, f1, f2, f3, f4, f5⟩ := hf it (by simp)
  have hl := rv.length
  exact wpAny_pyNext_tuple_end (I.ok.hd hc) st (show s.heap.IsTuple a its.toArray from p) (by simp; omega) fun h' eb => ⟨rfl, I.turned (t' := s.toks) (fun b o hb e => eb b o hb e) f0 f1 f3 f4 f5⟩
 self := fun _ _ _ _ _ st h => wpAny_pyIter_tupleiter st h
theorem a6k {P : Program} {w : World} {K : PySem.W.Frag} {tg : Expr} (it : Addr) (lo : Int) (n : Nat) : Turn P w K tg (Itr lo n) [it] it (fun i h => IsRangeIter h it (lo + (i : Nat) * 1) ((n : Int) - (i : Nat)) 1) where
 mem := by simp
 obj := fun i h st b hb => by
  have e : b = it := by simpa using hb
  subst e
  exact ⟨_, st, fun v z => by
   have z' : Data.fields _ = Data.cell v := z
   cases z'⟩
 keep := fun i h h' st k => k it (by simp) _ st
 item := by
  intro X hP hw hK hc i pins s σ H E I hf st hg
  subst hP hw hK
  obtain ⟨f0, f1, f2, f3, f4, f5⟩ := hf it (by simp)
  have W := Walks.range (prog := X.prog) (w := X.w) (I.ok.hd hc) it lo 1 n
  refine W.item i s _ _ hg st fun v h' tk hv st' kk => ?_
  obtain ⟨t, rfl⟩ := hv
  have I1 : Inv X pins σ H { s with heap := h', toks := tk } := I.turned (fun b o hb e => kk b o (by simpa using hb) e) f0 f1 f3 f4 f5
  refine ⟨_, rfl, a1V (s := { s with heap := h', toks := tk }) (n := "range_iterator") st' rfl rfl (by decide) ⟨.int (lo + i), H, I1, ⟨t, ?_⟩, ⟨rfl, rfl⟩, st', fun b hb => (hf b hb).1⟩⟩
  rw [Int.mul_one]
 done := by
  intro X hP hw hK hc i pins s σ H E I hf st hg
  subst hP hw hK
  obtain ⟨f0, f1, f2, f3, f4, f5⟩ := hf it (by simp)
  exact wpAny_pyNext_range_end (I.ok.hd hc) st (by have : n ≤ i := hg; omega) fun h' eb => ⟨rfl, I.turned (t' := s.toks) (fun b o hb e => eb b o hb e) f0 f1 f3 f4 f5⟩
 self := fun _ _ _ _ _ st h => wpAny_pyIter_rangeiter st h
section
variable {X : Cx} {tg : Expr}
theorem a9e {pins : List (Addr × Obj)} {σ : St} {H : Hp} {s : Shared} {R : It → Hp → Prop} {E : Value → Shared → Prop} {lo hi : Int} {t u v : Tok} {tk : Nat} (I : Inv X pins σ H s) (h1 : -(2 ^ 62) ≤ lo) (h2 : lo < 2 ^ 62) (h3 : -(2 ^ 62) ≤ hi) (h4 : hi < 2 ^ 62)
  (q : R (Itr lo (hi - lo).toNat) H) : wpAny (model X.prog X.w) X.A (pyIter (.ref s.heap.objs.size)) (PIE X pins σ tg R) E { s with heap := s.heap.push { cls := .type "range", data := .fields #[.int lo t, .int hi u, .int 1 v] }, toks := tk } := by
 refine wpAny_pyIter_range (IsRange.new ..) (small_one h1 h2 h3 h4) ?_
 have I1 : Inv X pins σ H { s with heap := s.heap.push { cls := .type "range", data := .fields #[.int lo t, .int hi u, .int 1 v] }, toks := tk } := I.kept fun b o e => Heap.get?_push_of_some _ e
 refine ⟨(s.heap.push { cls := .type "range", data := .fields #[.int lo t, .int hi u, .int 1 v] }).objs.size, [(s.heap.push { cls := .type "range", data := .fields #[.int lo t, .int hi u, .int 1 v] }).objs.size], _, _, H, rfl,
  I1.kept (t' := tk) fun b o e => Heap.get?_push_of_some _ e, a6k _ lo (hi - lo).toNat, ?_, fun b hb => ?_, q⟩
 ·have e1 : lo + ((0 : Nat) : Int) * 1 = lo := by simp
  have e2 : (((hi - lo).toNat : Nat) : Int) - ((0 : Nat) : Int) = Builtin.Range.rangeSize lo hi 1 := by rw [rangeSize_one]; split <;> omega
  show IsRangeIter _ _ (lo + ((0 : Nat) : Int) * 1) ((((hi - lo).toNat : Nat) : Int) - ((0 : Nat) : Int)) 1
  rw [e1, e2]
  exact Heap.get?_push_size _ rfl
 ·have e : b = (s.heap.push { cls := .type "range", data := .fields #[.int lo t, .int hi u, .int 1 v] }).objs.size := by simpa using hb
  subst e
  exact I1.fpOk (Nat.le_refl _) (I1.hok.fresh (Nat.le_refl _))
noncomputable def a5O (ta : TA) : TI := fun σ H R => ta σ H fun vs H1 => ∃ j : Int, vs = [.int j] ∧ -(2 ^ 62) ≤ j ∧ j < 2 ^ 62 ∧ R (Itr 0 j.toNat) H1
theorem a5v {a : Expr} {ta : TA} {p pos : Pos} (hg : Gl X "range") (hm : X.mg "range" = none) (ha : PA X [a] ta) (hs : starEach [a] X.env = [(false, eval a X.env)] := by rfl) : PI X tg (.Call (.Name "range" p) [a] [] pos) (a5O ta) := by
 intro pins s σ H R I h
 refine Call_ (a2B I hg hm boot_range (PyProof.Rows.callWith_type1 (thn (ha pos pins s σ H _ I h) fun us s1 ⟨vs, H1, I1, r1, q1⟩ => ?_) hs rfl))
 obtain ⟨j, e, q1, q2, q⟩ := q1
 subst e
 cases r1 with
 | cons r rr =>
  cases rr
  obtain ⟨t, rfl⟩ := r
  exact call_range_1 (a9e I1 (by omega) (by omega) q1 q2 (by simpa using q))
noncomputable def a9B (wi : TI) (g : TG) (tb : TS) : TS := fun D σ H => wi σ H fun J H1 => ∃ W : Nat → Nat → St → Hp → Prop, (∃ m, W 0 m σ H1) ∧ ∀ i m σ H, W i m σ H →
 (J.stop i H ∧ D.nx σ H) ∨ (J.go i H ∧ ∃ N : St → Hp → Prop, (∀ σ' H', N σ' H' → ∃ m', m' < m ∧ W (i + 1) m' σ' H') ∧ ∀ x H', J.yld i H x H' → g x σ H' fun σ2 H2 => tb { D with nx := N, ct := N, bk := D.nx } σ2 H2)
noncomputable def T5 (fp : List Addr) (h : Heap) : List (Addr × Obj) := fp.filterMap fun b => (h.get? b).map fun o => (b, o)
theorem T3 {fp : List Addr} {h : Heap} {b : Addr} {o : Obj} (hb : b ∈ fp) (e : h.get? b = some o) : (b, o) ∈ T5 fp h := List.mem_filterMap.mpr ⟨b, hb, by rw [e]; rfl⟩
theorem a6m {fp : List Addr} {h : Heap} {p : Addr × Obj} (hp : p ∈ T5 fp h) : p.1 ∈ fp ∧ h.get? p.1 = some p.2 := by
 obtain ⟨b, hb, e⟩ := List.mem_filterMap.mp hp
 cases q : h.get? b with
 | none => rw [q] at e; cases e
 | some o =>
  rw [q] at e
  have e' : (b, o) = p := Option.some.inj e
  subst e'
  exact ⟨hb, q⟩
theorem Inv.pinned {pins : List (Addr × Obj)} {σ : St} {H : Hp} {s : Shared} {fp : List Addr} (I : Inv X pins σ H s) (hf : ∀ b ∈ fp, G7 X pins H b) (ho : ∀ b ∈ fp, ∃ o, s.heap.get? b = some o ∧ ∀ v, o.data ≠ .cell v) : Inv X (pins ++ T5 fp s.heap) σ H s :=
 I.pins_of fun p hp => (List.mem_append.mp hp).elim (fun z => I.pin p (List.mem_append_right _ z)) fun z => by
  obtain ⟨hb, e⟩ := a6m z
  obtain ⟨f0, f1, f2, _⟩ := hf p.1 hb
  obtain ⟨o, e', d⟩ := ho p.1 hb
  rw [e] at e'; cases e'
  exact ⟨e, f0, f1, f2, d⟩
theorem Inv.unpinned {pins pl : List (Addr × Obj)} {σ : St} {H : Hp} {s : Shared} (I : Inv X (pins ++ pl) σ H s) : Inv X pins σ H s := I.pins_of fun p hp => I.pin p (List.mem_append_right _ (List.mem_append_left _ hp))
theorem a5a {iter : Expr} {body : List Stmt} {wi : TI} {g : TG} {tb : TS} {pos : Pos} (hp : PassesOwn (model X.prog X.w) X.A X.env X.xe) (hc : X.calm = true) (hi : PI X tg iter wi) (hg : PG X tg g) (hb : PSs X body tb)
  (hs : ∀ x, foldedSetIterable iter X.env x = pure x := by intro _; rfl) : PS X (.For tg iter body [] pos) (a9B wi g tb) := by
 intro pins s σ H D I h
 refine wpAny_For (thn (hi pins s σ H _ I h) fun v s1 h1 => thn h1 fun itv s2 h2 => ?_) hs
 obtain ⟨it, fp, tn, J, H2, e, I2, T, st2, f2, W, ⟨m0, w0⟩, turn⟩ := h2
 subst e
 have stat : ∀ {H' : Hp}, (∀ b ∈ fp, H' b = none) → ∀ b ∈ fp, G7 X pins H' b := fun hn b hb => ⟨hn b hb, (f2 b hb).2⟩
 refine codeAny_forLoop_any (fun n s' => ∃ i σ' H', Inv X pins σ' H' s' ∧ tn i s'.heap ∧ (∀ b ∈ fp, H' b = none) ∧ W i n σ' H') ?_ m0 ⟨0, σ, H2, I2, st2, fun b hb => (f2 b hb).1, w0⟩
 rintro n s3 ⟨i, σ3, H3, I3, st3, fr3, w3⟩
 rcases turn i n σ3 H3 w3 with ⟨stop, qn⟩ | ⟨go, N, hN, step⟩
 ·refine wpAny_passesOwn hp (thn (T.done X rfl rfl rfl hc i pins s3 σ3 H3 X.xe I3 (stat fr3) st3 stop) fun r s4 ⟨hr, I4⟩ => ?_)
  subst hr
  exact wpAny_execs_nil ⟨σ3, H3, I4, qn⟩
 ·refine wpAny_passesOwn hp (thn (T.item X rfl rfl rfl hc i pins s3 σ3 H3 X.xe I3 (stat fr3) st3 go) fun r s4 ⟨u, hr, h4⟩ => ?_)
  subst hr
  refine wpAny_passesOwn hp (thn h4 fun _ s5 ⟨x, H5, I5, r5, y5, st5, fr5⟩ => ?_)
  have I5' := I5.pinned (stat fr5) (T.obj _ _ st5)
  refine wpAny_passesOwn hp (thn (hg _ s5 σ3 H5 x u _ I5' r5 (step x H5 y5)) fun _ s6 ⟨σ6, H6, I6, q6⟩ => ?_)
  refine wpAny_passesOwn hp (thn (hb _ s6 σ6 H6 _ I6 q6) fun f s7 q7 => ?_)
  have again : ∀ {σ7 : St} {H7 : Hp}, Inv X (pins ++ T5 fp s5.heap) σ7 H7 s7 → N σ7 H7 → ∃ m, m < n ∧ ∃ i σ' H', Inv X pins σ' H' s7 ∧ tn i s7.heap ∧ (∀ b ∈ fp, H' b = none) ∧ W i m σ' H' := fun {σ7 H7} I7 n7 => by
   obtain ⟨m', hm, w7⟩ := hN σ7 H7 n7
   refine ⟨m', hm, i + 1, σ7, H7, I7.unpinned, T.keep _ _ _ st5 fun b hb o e => (I7.pin (b, o) (List.mem_append_right _ (List.mem_append_right _ (T3 hb e)))).1, fun b hb => ?_, w7⟩
   obtain ⟨o, e, d⟩ := T.obj _ _ st5 b hb
   exact (I7.pin (b, o) (List.mem_append_right _ (List.mem_append_right _ (T3 hb e)))).2.1
  cases f with
  | next => obtain ⟨σ7, H7, I7, n7⟩ := q7; exact again I7 n7
  | cont => obtain ⟨σ7, H7, I7, n7⟩ := q7; exact again I7 n7
  | brk => obtain ⟨σ7, H7, I7, q7⟩ := q7; exact ⟨σ7, H7, I7.unpinned, q7⟩
  | ret v => obtain ⟨x7, σ7, H7, I7, r7, q7⟩ := q7; exact ⟨x7, σ7, H7, I7.unpinned, r7, q7⟩
end
theorem b0g {K : PySem.W.Frag} {a : Addr} {xs : List V} {g : TG} {tb : TS} {D : Ends} {σ : St} {H : Hp} (Pv : Nat → St → Hp → Prop) (h0 : Pv 0 σ H) (hl : ∀ i σ H, i ≤ xs.length → Pv i σ H → SqL K H a xs)
  (hs : ∀ i x σ H, xs[i]? = some x → Pv i σ H → g x σ H fun σ2 H2 => tb { D with nx := Pv (i + 1), ct := Pv (i + 1), bk := D.nx } σ2 H2) (hd : ∀ σ H, Pv xs.length σ H → D.nx σ H) :
  ∃ W : Nat → Nat → St → Hp → Prop, (∃ m, W 0 m σ H) ∧ ∀ i m σ H, W i m σ H →
   ((Itl K a).stop i H ∧ D.nx σ H) ∨ ((Itl K a).go i H ∧ ∃ N : St → Hp → Prop, (∀ σ' H', N σ' H' → ∃ m', m' < m ∧ W (i + 1) m' σ' H') ∧ ∀ x H', (Itl K a).yld i H x H' → g x σ H' fun σ2 H2 => tb { D with nx := N, ct := N, bk := D.nx } σ2 H2) := by
 refine ⟨fun i m σ H => m = xs.length - i ∧ i ≤ xs.length ∧ Pv i σ H, ⟨xs.length, by simp, Nat.zero_le _, h0⟩, ?_⟩
 rintro i m σ H ⟨rfl, hi, p⟩
 have q := hl i σ H hi p
 by_cases hlt : i < xs.length
 ·refine .inr ⟨⟨xs, xs[i], q, by simp [hlt]⟩, Pv (i + 1), fun σ' H' p' => ⟨xs.length - (i + 1), by omega, rfl, hlt, p'⟩, fun x H' y => ?_⟩
  obtain ⟨e, y⟩ := y
  subst e
  exact hs i x σ _ (y xs q) p
 ·have e : i = xs.length := by omega
  subst e
  exact .inl ⟨⟨xs, q, Nat.le_refl _⟩, hd σ H p⟩
theorem a0y {K : PySem.W.Frag} {a : Addr} {xs : List V} {g : TG} {tb : TS} {D : Ends} {σ : St} {H : Hp} (Pv : Nat → St → Hp → Prop) (h0 : Pv 0 σ H) (hl : ∀ i σ H, i ≤ xs.length → Pv i σ H → SqT K H a xs)
  (hs : ∀ i x σ H, xs[i]? = some x → Pv i σ H → g x σ H fun σ2 H2 => tb { D with nx := Pv (i + 1), ct := Pv (i + 1), bk := D.nx } σ2 H2) (hd : ∀ σ H, Pv xs.length σ H → D.nx σ H) :
  ∃ W : Nat → Nat → St → Hp → Prop, (∃ m, W 0 m σ H) ∧ ∀ i m σ H, W i m σ H →
   ((Itt K a).stop i H ∧ D.nx σ H) ∨ ((Itt K a).go i H ∧ ∃ N : St → Hp → Prop, (∀ σ' H', N σ' H' → ∃ m', m' < m ∧ W (i + 1) m' σ' H') ∧ ∀ x H', (Itt K a).yld i H x H' → g x σ H' fun σ2 H2 => tb { D with nx := N, ct := N, bk := D.nx } σ2 H2) := by
 refine ⟨fun i m σ H => m = xs.length - i ∧ i ≤ xs.length ∧ Pv i σ H, ⟨xs.length, by simp, Nat.zero_le _, h0⟩, ?_⟩
 rintro i m σ H ⟨rfl, hi, p⟩
 have q := hl i σ H hi p
 by_cases hlt : i < xs.length
 ·refine .inr ⟨⟨xs, xs[i], q, by simp [hlt]⟩, Pv (i + 1), fun σ' H' p' => ⟨xs.length - (i + 1), by omega, rfl, hlt, p'⟩, fun x H' y => ?_⟩
  obtain ⟨e, y⟩ := y
  subst e
  exact hs i x σ _ (y xs q) p
 ·have e : i = xs.length := by omega
  subst e
  exact .inl ⟨⟨xs, q, Nat.le_refl _⟩, hd σ H p⟩
theorem a6h {lo : Int} {n : Nat} {g : TG} {tb : TS} {D : Ends} {σ : St} {H : Hp} (Pv : Nat → St → Hp → Prop) (h0 : Pv 0 σ H)
  (hs : ∀ i σ H, i < n → Pv i σ H → g (.int (lo + i)) σ H fun σ2 H2 => tb { D with nx := Pv (i + 1), ct := Pv (i + 1), bk := D.nx } σ2 H2) (hd : ∀ σ H, Pv n σ H → D.nx σ H) :
  ∃ W : Nat → Nat → St → Hp → Prop, (∃ m, W 0 m σ H) ∧ ∀ i m σ H, W i m σ H →
   ((Itr lo n).stop i H ∧ D.nx σ H) ∨ ((Itr lo n).go i H ∧ ∃ N : St → Hp → Prop, (∀ σ' H', N σ' H' → ∃ m', m' < m ∧ W (i + 1) m' σ' H') ∧ ∀ x H', (Itr lo n).yld i H x H' → g x σ H' fun σ2 H2 => tb { D with nx := N, ct := N, bk := D.nx } σ2 H2) := by
 refine ⟨fun i m σ H => m = n - i ∧ i ≤ n ∧ Pv i σ H, ⟨n, by simp, Nat.zero_le _, h0⟩, ?_⟩
 rintro i m σ H ⟨rfl, hi, p⟩
 by_cases hlt : i < n
 ·refine .inr ⟨hlt, Pv (i + 1), fun σ' H' p' => ⟨n - (i + 1), by omega, rfl, hlt, p'⟩, fun x H' y => ?_⟩
  obtain ⟨e, y⟩ := y
  subst e y
  exact hs i σ _ hlt p
 ·have e : i = n := by omega
  subst e
  exact .inl ⟨Nat.le_refl _, hd σ H p⟩
noncomputable abbrev R2 := V → V → Hp → VK → Prop
noncomputable def OpR (X : Cx) (f : Value → Value → Sem Value) (r : R2) : Prop :=
 ∀ (pins : List (Addr × Obj)) (s : Shared) (σ : St) (H : Hp) (x y : V) (v u : Value) (Q : VK), Inv X pins σ H s → RelV x v → RelV y u → r x y H Q →
  wpAny (model X.prog X.w) X.A (f v u) (EP X pins σ Q) X.xe s
noncomputable def UnR (X : Cx) (f : Value → Sem Value) (r : V → Hp → VK → Prop) : Prop :=
 ∀ (pins : List (Addr × Obj)) (s : Shared) (σ : St) (H : Hp) (x : V) (v : Value) (Q : VK), Inv X pins σ H s → RelV x v → r x H Q →
  wpAny (model X.prog X.w) X.A (f v) (EP X pins σ Q) X.xe s
noncomputable def CallR (X : Cx) (f : Value) (r : List V → Hp → VK → Prop) : Prop :=
 ∀ (pins : List (Addr × Obj)) (s : Shared) (σ : St) (H : Hp) (xs : List V) (us : List Value) (Q : VK), Inv X pins σ H s → Vals xs us → r xs H Q →
  wpAny (model X.prog X.w) X.A (call f us) (EP X pins σ Q) X.xe s
noncomputable def a8r (X : Cx) (r : V → Hp → (Bool → Hp → Prop) → Prop) : Prop :=
 ∀ (pins : List (Addr × Obj)) (s : Shared) (σ : St) (H : Hp) (x : V) (v : Value) (Q : Bool → Hp → Prop), Inv X pins σ H s → RelV x v → r x H Q →
  wpAny (model X.prog X.w) X.A (truthy v) (TP X pins σ Q) X.xe s
noncomputable def tOp (r : R2) (ta tb : TE) : TE := fun σ H Q => ta σ H fun x H1 => tb σ H1 fun y H2 => r x y H2 Q
noncomputable def tUn (r : V → Hp → VK → Prop) (ta : TE) : TE := fun σ H Q => ta σ H fun x H1 => r x H1 Q
noncomputable def rI (C : Int → Int → Prop) (g : Int → Int → V) : R2 := fun x y H Q => ∃ i j, x = .int i ∧ y = .int j ∧ C i j ∧ Q (g i j) H
noncomputable def rI0 (g : Int → Int → V) : R2 := fun x y H Q => ∃ i j, x = .int i ∧ y = .int j ∧ Q (g i j) H
noncomputable def rU (g : Int → V) : V → Hp → VK → Prop := fun x H Q => ∃ i, x = .int i ∧ Q (g i) H
section
variable {X : Cx} {a b c : Expr} {ta tb tc : TE} {pos : Pos}
theorem a1w (ha : PE X a ta) (hb : PE X b tb) {pins : List (Addr × Obj)} {s : Shared} {σ : St} {H : Hp} {R : V → V → Hp → Prop} (I : Inv X pins σ H s)
  (h : ta σ H fun x H1 => tb σ H1 fun y H2 => R x y H2) {Q : Value → Shared → Prop} {f : Value → Value → Sem Value}
  (hf : ∀ v u s2 x y H2, Inv X pins σ H2 s2 → RelV x v → RelV y u → R x y H2 → wpAny (model X.prog X.w) X.A (f v u) Q X.xe s2) :
  wpAny (model X.prog X.w) X.A (eval a X.env) (fun v s₁ => wpAny (model X.prog X.w) X.A (eval b X.env) (fun u s₂ => wpAny (model X.prog X.w) X.A (f v u) Q X.xe s₂) X.xe s₁) X.xe s := by
 refine thn (ha pins s σ H _ I h) fun v s1 ⟨x, H1, I1, r1, q1⟩ => ?_
 refine thn (hb pins s1 σ H1 _ I1 q1) fun u s2 ⟨y, H2, I2, r2, q2⟩ => ?_
 exact hf v u s2 x y H2 I2 r1 r2 q2
theorem a4n {op : Operator} {r : R2} (ho : OpR X (binaryOp op) r) (ha : PE X a ta) (hb : PE X b tb) : PE X (.BinOp a op b pos) (tOp r ta tb) := by
 intro pins s σ H Q I h
 exact wpAny_BinOp (a1w ha hb I h fun v u s2 x y H2 I2 rx ry q => ho pins s2 σ H2 x y v u Q I2 rx ry q)
theorem a79 {op : UnaryOp} {r : V → Hp → VK → Prop} (ho : UnR X (unaryOp op) r) (ha : PE X a ta) : PE X (.UnaryOp op a pos) (tUn r ta) := by
 intro pins s σ H Q I h
 exact UnaryOp_ (thn (ha pins s σ H _ I h) fun v s1 ⟨x, H1, I1, r1, q1⟩ => ho pins s1 σ H1 x v Q I1 r1 q1)
theorem opI {f : Value → Value → Sem Value} {C : Int → Int → Prop} {g : Int → Int → Int}
  (rule : ∀ (i j : Int) (t u : Tok) (s : Shared) (Q : Value → Shared → Prop) (E : Value → Shared → Prop), C i j → Q (.int (g i j) s.toks) { s with toks := s.toks + 1 } → wpAny (model X.prog X.w) X.A (f (.int i t) (.int j u)) Q E s) :
  OpR X f (rI C fun i j => .int (g i j)) := by
 intro pins s σ H x y v u Q I rx ry h
 obtain ⟨i, j, rfl, rfl, hc, q⟩ := h
 obtain ⟨t, rfl⟩ := rx
 obtain ⟨t', rfl⟩ := ry
 exact rule i j t t' s _ _ hc ⟨.int (g i j), H, I.tok _, ⟨_, rfl⟩, q⟩
theorem a2J {f : Value → Value → Sem Value} {g : Int → Int → Int}
  (rule : ∀ (i j : Int) (t u : Tok) (s : Shared) (Q : Value → Shared → Prop) (E : Value → Shared → Prop), Q (.int (g i j) s.toks) { s with toks := s.toks + 1 } → wpAny (model X.prog X.w) X.A (f (.int i t) (.int j u)) Q E s) :
  OpR X f (rI0 fun i j => .int (g i j)) := by
 intro pins s σ H x y v u Q I rx ry h
 obtain ⟨i, j, rfl, rfl, q⟩ := h
 obtain ⟨t, rfl⟩ := rx
 obtain ⟨t', rfl⟩ := ry
 exact rule i j t t' s _ _ ⟨.int (g i j), H, I.tok _, ⟨_, rfl⟩, q⟩
theorem a2n {f : Value → Value → Sem Value} {g : Int → Int → Bool}
  (rule : ∀ (i j : Int) (t u : Tok) (s : Shared) (Q : Value → Shared → Prop) (E : Value → Shared → Prop), Q (.bool (g i j)) s → wpAny (model X.prog X.w) X.A (f (.int i t) (.int j u)) Q E s) :
  OpR X f (rI0 fun i j => .bl (g i j)) := by
 intro pins s σ H x y v u Q I rx ry h
 obtain ⟨i, j, rfl, rfl, q⟩ := h
 obtain ⟨t, rfl⟩ := rx
 obtain ⟨t', rfl⟩ := ry
 exact rule i j t t' s _ _ ⟨.bl (g i j), H, I, rfl, q⟩
noncomputable def a3z (i j : Int) : Prop := 0 ≤ j ∧ j ≤ 1000000 ∧ i.natAbs < 2 ^ 64
theorem op_add : OpR X (binaryOp .Add) (rI0 fun i j => .int (i + j)) := a2J fun _ _ _ _ _ _ _ q => add_int q
theorem F4 : OpR X (binaryOp .Sub) (rI0 fun i j => .int (i - j)) := a2J fun _ _ _ _ _ _ _ q => sub_int q
theorem E9 : OpR X (binaryOp .Mod) (rI (fun _ j => j ≠ 0) fun i j => .int (i.fmod j)) := opI fun _ _ _ _ _ _ _ hc q => mod_int' hc q
theorem W3 : OpR X (binaryOp .Pow) (rI a3z fun i j => .int (i ^ j.toNat)) := opI fun _ _ _ _ _ _ _ hc q => pow_int_small hc.1 hc.2.1 hc.2.2 q
theorem unI {f : Value → Sem Value} {g : Int → Int}
  (rule : ∀ (i : Int) (t : Tok) (s : Shared) (Q : Value → Shared → Prop) (E : Value → Shared → Prop), Q (.int (g i) s.toks) { s with toks := s.toks + 1 } → wpAny (model X.prog X.w) X.A (f (.int i t)) Q E s) :
  UnR X f (rU fun i => .int (g i)) := by
 intro pins s σ H x v Q I rx h
 obtain ⟨i, rfl, q⟩ := h
 obtain ⟨t, rfl⟩ := rx
 exact rule i t s _ _ ⟨.int (g i), H, I.tok _, ⟨_, rfl⟩, q⟩
theorem p8 : UnR X (unaryOp .USub) (rU fun i => .int (-i)) := unI fun _ _ _ _ _ q => neg_int q
end
noncomputable def a4p : V → V → Bool
 | .non, .non => true | .non, .int _ => true | .int _, .non => true | .non, .bl _ => true | .bl _, .non => true | .non, .str _ => true | .str _, .non => true
 | .int _, .int _ => true | .bl _, .bl _ => true | .str _, .str _ => true | .byt _, .byt _ => true
 | .int _, .str _ => true | .str _, .int _ => true | .bl _, .str _ => true | .str _, .bl _ => true
 | _, _ => false
noncomputable def rEq : R2 := fun x y H Q => a4p x y = true ∧ Q (.bl (decide (x = y))) H
noncomputable def rNe : R2 := fun x y H Q => a4p x y = true ∧ Q (.bl (!decide (x = y))) H
theorem a37 {i j : Int} : decide (V.int i = V.int j) = (i == j) := by
 rw [Bool.eq_iff_iff]
 simp
theorem a20 {i j : Bool} : decide (V.bl i = V.bl j) = (i == j) := by
 rw [Bool.eq_iff_iff]
 simp
theorem a29 {i j : Str} : decide (V.str i = V.str j) = (i == j) := by
 rw [Bool.eq_iff_iff]
 simp
theorem a4O {i j : Array UInt8} : decide (V.byt i = V.byt j) = (i.toList == j.toList) := by
 rw [Bool.eq_iff_iff]
 cases i
 cases j
 simp
section
variable {X : Cx} {a b c : Expr} {ta tb tc : TE} {pos : Pos}
theorem o7 {pins : List (Addr × Obj)} {σ : St} {H : Hp} {s : Shared} {Q : VK} {k k' : Bool} (I : Inv X pins σ H s) (q : Q (.bl k) H) (e : k = k') : EP X pins σ Q (.bool k') s := by
 subst e
 exact ⟨.bl k, H, I, rfl, q⟩
theorem op_eq : OpR X (compareOp .Eq) rEq := by
 intro pins s σ H x y v u Q I rx ry h
 obtain ⟨hs, q⟩ := h
 cases x with
 | non =>
  cases rx
  cases y with
  | non => cases ry; exact PySem.EqNone.eq_none_none (o7 I q (by simp))
  | bl j => cases ry; exact PySem.EqNone.eq_none_bool (o7 I q (by simp))
  | int j => obtain ⟨t', rfl⟩ := ry; exact PySem.EqNone.eq_none_int (o7 I q (by simp))
  | str j => obtain ⟨t', rfl⟩ := ry; exact PySem.EqNone.eq_none_str (o7 I q (by simp))
  | _ => exact absurd (show false = true from hs) Bool.false_ne_true
 | bl i =>
  cases rx
  cases y with
  | non => cases ry; exact PySem.EqNone.eq_bool_none (o7 I q (by simp))
  | bl j => cases ry; exact eq_bool (o7 I q a20)
  | str j => obtain ⟨t', rfl⟩ := ry; exact PySem.EqMixed.eq_bool_str (o7 I q (by simp))
  | _ => exact absurd (show false = true from hs) Bool.false_ne_true
 | int i =>
  obtain ⟨t, rfl⟩ := rx
  cases y with
  | non => cases ry; exact PySem.EqNone.eq_int_none (o7 I q (by simp))
  | int j => obtain ⟨t', rfl⟩ := ry; exact eq_int (o7 I q a37)
  | str j => obtain ⟨t', rfl⟩ := ry; exact PySem.EqMixed.eq_int_str (o7 I q (by simp))
  | _ => exact absurd (show false = true from hs) Bool.false_ne_true
 | str i =>
  obtain ⟨t, rfl⟩ := rx
  cases y with
  | non => cases ry; exact PySem.EqNone.eq_str_none (o7 I q (by simp))
  | bl j => cases ry; exact PySem.EqMixed.eq_str_bool (o7 I q (by simp))
  | int j => obtain ⟨t', rfl⟩ := ry; exact PySem.EqMixed.eq_str_int (o7 I q (by simp))
  | str j => obtain ⟨t', rfl⟩ := ry; exact eq_str (o7 I q a29)
  | _ => exact absurd (show false = true from hs) Bool.false_ne_true
 | byt i =>
  obtain ⟨t, rfl⟩ := rx
  cases y with
  | byt j => obtain ⟨t', rfl⟩ := ry; exact PySem.W.eq_bytes (o7 I q a4O)
  | _ => exact absurd (show false = true from hs) Bool.false_ne_true
 | _ => cases y <;> exact absurd (show false = true from hs) Bool.false_ne_true
theorem op_ne : OpR X (compareOp .NotEq) rNe := by
 intro pins s σ H x y v u Q I rx ry h
 obtain ⟨hs, q⟩ := h
 cases x with
 | non =>
  cases rx
  cases y with
  | non => cases ry; exact PySem.EqNone.ne_none_none (o7 I q (by simp))
  | bl j => cases ry; exact PySem.EqNone.ne_none_bool (o7 I q (by simp))
  | int j => obtain ⟨t', rfl⟩ := ry; exact PySem.EqNone.ne_none_int (o7 I q (by simp))
  | str j => obtain ⟨t', rfl⟩ := ry; exact PySem.EqNone.ne_none_str (o7 I q (by simp))
  | _ => exact absurd (show false = true from hs) Bool.false_ne_true
 | bl i =>
  cases rx
  cases y with
  | non => cases ry; exact PySem.EqNone.ne_bool_none (o7 I q (by simp))
  | bl j => cases ry; exact ne_bool (o7 I q (congrArg not a20))
  | str j => obtain ⟨t', rfl⟩ := ry; exact PySem.EqMixed.ne_bool_str (o7 I q (by simp))
  | _ => exact absurd (show false = true from hs) Bool.false_ne_true
 | int i =>
  obtain ⟨t, rfl⟩ := rx
  cases y with
  | non => cases ry; exact PySem.EqNone.ne_int_none (o7 I q (by simp))
  | int j => obtain ⟨t', rfl⟩ := ry; exact ne_int (o7 I q (congrArg not a37))
  | str j => obtain ⟨t', rfl⟩ := ry; exact PySem.EqMixed.ne_int_str (o7 I q (by simp))
  | _ => exact absurd (show false = true from hs) Bool.false_ne_true
 | str i =>
  obtain ⟨t, rfl⟩ := rx
  cases y with
  | non => cases ry; exact PySem.EqNone.ne_str_none (o7 I q (by simp))
  | bl j => cases ry; exact PySem.EqMixed.ne_str_bool (o7 I q (by simp))
  | int j => obtain ⟨t', rfl⟩ := ry; exact PySem.EqMixed.ne_str_int (o7 I q (by simp))
  | str j => obtain ⟨t', rfl⟩ := ry; exact ne_str (o7 I q (congrArg not a29))
  | _ => exact absurd (show false = true from hs) Bool.false_ne_true
 | byt i =>
  obtain ⟨t, rfl⟩ := rx
  cases y with
  | byt j => obtain ⟨t', rfl⟩ := ry; exact PySem.W.ne_bytes (o7 I q (congrArg not a4O))
  | _ => exact absurd (show false = true from hs) Bool.false_ne_true
 | _ => cases y <;> exact absurd (show false = true from hs) Bool.false_ne_true
theorem K4 : OpR X (compareOp .Lt) (rI0 fun i j => .bl (decide (i < j))) := a2n fun _ _ _ _ _ _ _ q => lt_int q
theorem U4 : OpR X (compareOp .Gt) (rI0 fun i j => .bl (decide (j < i))) := a2n fun _ _ _ _ _ _ _ q => gt_int q
theorem a7B : OpR X (compareOp .GtE) (rI0 fun i j => .bl (decide (j ≤ i))) := a2n fun _ _ _ _ _ _ _ q => ge_int q
theorem OpR.or {f : Value → Value → Sem Value} {r r' : R2} (h : OpR X f r) (h' : OpR X f r') : OpR X f (fun x y H Q => r x y H Q ∨ r' x y H Q) := by
 intro pins s σ H x y v u Q I rx ry q
 rcases q with q | q
 ·exact h pins s σ H x y v u Q I rx ry q
 ·exact h' pins s σ H x y v u Q I rx ry q
theorem m9 (b : Expr) {op : CmpOp} (h : op ≠ .In := by decide) (h2 : op ≠ .NotIn := by decide) : behindInMarks op b = false := by
 have e1 : (op == CmpOp.In) = false := by cases op <;> first | rfl | exact absurd rfl h
 have e2 : (op == CmpOp.NotIn) = false := by cases op <;> first | rfl | exact absurd rfl h2
 cases b <;> simp [behindInMarks, e1, e2]
theorem a9H {op : CmpOp} {r : R2} (ho : OpR X (compareOp op) r) (ha : PE X a ta) (hb : PE X b tb) (hm : behindInMarks op b = false) : PE X (.Compare a [op] [b] pos) (tOp r ta tb) := by
 intro pins s σ H Q I h
 exact wpAny_Compare1 (a1w ha hb I h fun v u s2 x y H2 I2 rx ry q => ho pins s2 σ H2 x y v u Q I2 rx ry q) hm
noncomputable def a9C (t : TE) : TT := fun σ H Q => t σ H fun x H' => ∃ k, x = .bl k ∧ Q k H'
theorem b0f {op : CmpOp} {r : R2} (ho : OpR X (compareOp op) r) (ha : PE X a ta) (hb : PE X b tb) (hm : behindInMarks op b = false) : PT X (.Compare a [op] [b] pos) (a9C (tOp r ta tb)) := by
 intro pins s σ H Q I h
 refine wpAny_isTrue_Compare1 (thn (ha pins s σ H _ I h) fun v s1 ⟨x, H1, I1, r1, q1⟩ => thn (hb pins s1 σ H1 _ I1 q1) fun u s2 ⟨y, H2, I2, r2, q2⟩ =>
  thn (ho pins s2 σ H2 x y v u _ I2 r1 r2 q2) fun c s3 ⟨z, H3, I3, r3, k, e, q3⟩ => ?_) hm
 subst e
 cases r3
 exact wpAny_truthy_bool ⟨H3, I3, q3⟩
noncomputable def a4q (r r' : R2) (ta tb tc : TE) : TE := fun σ H Q => ta σ H fun x H1 => tb σ H1 fun y H2 => r x y H2 fun z H3 => ∃ k, z = .bl k ∧
 (if k = true then tc σ H3 fun w' H4 => r' y w' H4 Q else Q (.bl false) H3)
theorem a6R {op op' : CmpOp} {r r' : R2} (ho : OpR X (compareOp op) r) (ho' : OpR X (compareOp op') r') (ha : PE X a ta) (hb : PE X b tb) (hc : PE X c tc)
  (hm : lastMarks [op, op'] [b, c] = false := by with_unfolding_all rfl) : PE X (.Compare a [op, op'] [b, c] pos) (a4q r r' ta tb tc) := by
 intro pins s σ H Q I h
 refine Compare_chain (thn (ha pins s σ H _ I h) fun v s1 ⟨x, H1, I1, r1, q1⟩ => chain_link (thn (hb pins s1 σ H1 _ I1 q1) fun u s2 ⟨y, H2, I2, r2, q2⟩ =>
  thn (ho pins s2 σ H2 x y v u _ I2 r1 r2 q2) fun d s3 ⟨z, H3, I3, r3, k, e, q3⟩ => ?_)) hm
 subst e
 cases r3
 refine wpAny_truthy_bool ?_
 cases k with
 | false => exact ite_ff ⟨.bl false, H3, I3, rfl, q3⟩
 | true => exact ite_tt (chain_last (thn (hc pins s3 σ H3 _ I3 q3) fun w' s4 ⟨z', H4, I4, r4, q4⟩ => ho' pins s4 σ H4 y z' u w' Q I4 r2 r4 q4))
noncomputable def a3r (K : PySem.W.Frag) (x : V) (H : Hp) (k : Bool) : Prop :=
 match x with
 | .non => k = false
 | .bl b => k = b
 | .int i => k = (i != 0)
 | .str y => y.length ≤ sizeLine ∧ k = ((y.length : Int) != 0)
 | .byt y => y.size ≤ sizeLine ∧ k = ((y.size : Int) != 0)
 | .ref p => (∃ xs, SqL K H p xs ∧ k = !xs.isEmpty) ∨ (∃ xs, SqT K H p xs ∧ k = !xs.isEmpty) ∨ ∃ kvs, H p = some (.dK kvs) ∧ k = !kvs.isEmpty
 | _ => False
theorem a8l {κ : Type} {kvs : List (κ × V)} {vs : List (κ × Value)} (r : KV kvs vs) : (!vs.isEmpty) = !kvs.isEmpty := by
 cases r <;> rfl
theorem a3H {xs : List V} {its : List Value} (r : Vals xs its) : (!its.toArray.isEmpty) = !xs.isEmpty := by
 cases r <;> simp
theorem Q9 : (sizeLine : Nat) < 2 ^ 63 := by rw [sizeLine_eq]; decide
theorem b0p : a8r X (fun x H Q => ∃ k, a3r X.K x H k ∧ Q k H) := by
 intro pins s σ H x v Q I rx h
 obtain ⟨k, e, q⟩ := h
 have hl := Q9
 have hs : sizeLine = 16777216 := sizeLine_eq
 cases x with
 | non =>
  cases rx
  have e' : k = false := e
  subst e'
  exact truthy_none ⟨H, I, q⟩
 | bl b =>
  cases rx
  have e' : k = b := e
  subst e'
  exact wpAny_truthy_bool ⟨H, I, q⟩
 | int i =>
  obtain ⟨t, rfl⟩ := rx
  have e' : k = (i != 0) := e
  subst e'
  exact PySem.P.truthy_int ⟨H, I, q⟩
 | str y =>
  obtain ⟨t, rfl⟩ := rx
  obtain ⟨hy, e'⟩ : y.length ≤ sizeLine ∧ k = ((y.length : Int) != 0) := e
  subst e'
  exact PySem.P.truthy_str (by omega) ⟨H, I.tok _, q⟩
 | byt y =>
  obtain ⟨t, rfl⟩ := rx
  obtain ⟨hy, e'⟩ : y.size ≤ sizeLine ∧ k = ((y.size : Int) != 0) := e
  subst e'
  exact PySem.W.truthy_bytes (by omega) ⟨H, I.tok _, q⟩
 | ref p =>
  cases rx
  have e' : (∃ xs, SqL X.K H p xs ∧ k = !xs.isEmpty) ∨ (∃ xs, SqT X.K H p xs ∧ k = !xs.isEmpty) ∨ ∃ kvs, H p = some (.dK kvs) ∧ k = !kvs.isEmpty := e
  rcases e' with ⟨xs, hx, e'⟩ | ⟨xs, hx, e'⟩ | ⟨kvs, hx, e'⟩
  ·subst e'
   obtain ⟨its, r, pl, hz⟩ := I.list hx
   have hlen := r.length
   exact wpAny_truthy_list pl.isList (by simp only [List.size_toArray]; omega) ⟨H, I.tok _, by rw [a3H r]; exact q⟩
  ·subst e'
   obtain ⟨its, r, pl, hz⟩ := I.tuple hx
   have hlen := r.length
   exact truthy_tuple pl (by simp only [List.size_toArray]; omega) ⟨H, I.tok _, by rw [a3H r]; exact q⟩
  ·subst e'
   obtain ⟨hz, hS, vs, r, m⟩ : kvs.length ≤ sizeLine ∧ (p == sysModules) = false ∧ ∃ vs, KV kvs vs ∧ s.heap.DictOf (A0 X.prog X.w) p vs := I.hok p _ hx
   have hlen : kvs.length = vs.length := Paired.length r
   exact wpAny_truthy_dict hS m (by omega) ⟨H, I.tok _, by rw [a8l r]; exact q⟩
 | _ => exact (show False from e).elim
theorem a9w (ha : PE X a ta) (he : ∀ whole, isTrue a X.env whole = (do let v ← whole; standAt a.pos; holding [v] (truthy v))) :
  PT X a (fun σ H Q => ta σ H fun x H' => ∃ k, a3r X.K x H' k ∧ Q k H') := by
 intro pins s σ H Q I h
 exact isTrue_plain (thn (ha pins s σ H _ I h) fun v s1 ⟨x, H1, I1, r1, q1⟩ => b0p pins s1 σ H1 x v Q I1 r1 q1) (he _)
theorem b0n : OpR X (binaryOp .Add) (fun x y H Q => ∃ i j, x = .str i ∧ y = .str j ∧ i.length + j.length ≤ sizeLine ∧ Q (.str (i ++ j)) H) := by
 intro pins s σ H x y v u Q I rx ry h
 obtain ⟨i, j, rfl, rfl, hz, q⟩ := h
 obtain ⟨t, rfl⟩ := rx
 obtain ⟨t', rfl⟩ := ry
 exact add_str (fun t' tk => ⟨.str (i ++ j), H, I.tok _, ⟨_, rfl⟩, q⟩) hz
theorem Q6 {x : V} {us : List Value} (r : Vals [x] us) : ∃ u, us = [u] ∧ RelV x u := by
 cases r with
 | cons r1 r2 => cases r2; exact ⟨_, rfl, r1⟩
theorem Z9 : CallR X (.builtin "abs") (fun xs H Q => ∃ i, xs = [.int i] ∧ Q (.int (if i < 0 then -i else i)) H) := by
 intro pins s σ H xs us Q I r h
 obtain ⟨i, rfl, q⟩ := h
 obtain ⟨u, rfl, t, rfl⟩ := Q6 r
 exact call_abs_int fun u tk => ⟨.int (if i < 0 then -i else i), H, I.tok _, ⟨_, rfl⟩, q⟩
end
theorem RelO.some_of {v : V} {o : Option Value} (r : RelO (some v) o) : ∃ u, o = some u ∧ RelV v u := by
 cases o with
 | none => exact (show False from r).elim
 | some u => exact ⟨u, rfl, r⟩
structure Room (k : Nat) (A : Around) : Prop where
 hd : A.handled = none
 dp : A.depth + 3 * k + 5 < recursionLimit
 un : A.units + 16 * k + 200 < cLine
 gd : A.guards = some []
theorem Room.mono {j k : Nat} {A : Around} (r : Room k A) (h : j ≤ k) : Room j A := ⟨r.hd, by have := r.dp; omega, by have := r.un; omega, r.gd⟩
theorem Room.deeper {k : Nat} {A : Around} (r : Room (k + 1) A) (env : Env) : Room k (A.deeper env) :=
 ⟨r.hd, by have := r.dp; show A.depth + 1 + 3 * k + 5 < _; omega, by have := r.un; show A.units + 3 + 16 * k + 200 < _; omega, r.gd⟩
theorem Room.depth {k : Nat} {A : Around} (r : Room k A) : A.depth < recursionLimit := by have := r.dp; omega
theorem Room.units {k : Nat} {A : Around} (r : Room k A) : A.units + 64 < cLine := by have := r.un; omega
noncomputable def a5K : TA := fun _ H Q => Q [] H
noncomputable def a6p (ta : TE) (tr : TA) : TA := fun σ H Q => ta σ H fun x H1 => tr σ H1 fun xs H2 => Q (x :: xs) H2
section
variable {X : Cx} {e : Expr} {es : List Expr} {te : TE} {t : TA} {pos : Pos}
theorem a0a : PA X [] a5K := fun _ _ _ _ H Q I h => Calls.spliced_nil ⟨[], H, I, .nil, h⟩
theorem Q4 (ha : PE X e te) (hr : PA X es t) (hs : starEach (e :: es) X.env = (false, eval e X.env) :: starEach es X.env := by rfl) : PA X (e :: es) (a6p te t) := by
 intro pos pins s σ H Q I h
 rw [hs]
 show wpAny _ _ (spliced ((false, eval e X.env) :: backTo pos (starEach es X.env))) _ _ s
 refine Calls.spliced_cons (thn (ha pins s σ H _ I h) fun u s1 ⟨x, H1, I1, r1, q1⟩ => ?_)
 exact thn (hr pos pins s1 σ H1 _ I1 q1) fun us s2 ⟨xs, H2, I2, r2, q2⟩ => ⟨x :: xs, H2, I2, .cons r1 r2, q2⟩
noncomputable def a9U (t : TA) : TE := fun σ H Q => t σ H fun xs H1 => xs.length ≤ sizeLine ∧ ∀ p, H1 p = none → Q (.ref p) (upd H1 p (.tup xs))
noncomputable def a62 (t : TA) : TE := fun σ H Q => t σ H fun xs H1 => xs.length ≤ sizeLine ∧ ∀ p, H1 p = none → Q (.ref p) (upd H1 p (.lst xs))
theorem a60 {x1} (h : PA X es t) : PE X (.Tuple es x1 pos) (a9U t) := by
 intro pins s σ H Q I hq
 refine wpAny_Tuple_spliced (thn (h pos pins s σ H _ I hq) fun us s1 ⟨xs, H1, I1, r, z, q⟩ => ⟨by rw [← r.length]; exact z, ?_⟩)
 have hf : H1 s1.heap.objs.size = none := I1.hok.fresh (Nat.le_refl _)
 refine ⟨.ref s1.heap.objs.size, upd H1 s1.heap.objs.size (.tup xs), I1.laid (t' := s1.toks) (fun b u e => Heap.get?_push_of_some _ e) (Nat.le_refl _) ?_, rfl, q _ hf⟩
 exact ⟨z, us, r, ⟨_, Heap.get?_push_size _ rfl, rfl, _, rfl⟩⟩
theorem a4I (h : PA X es t) : PE X (.List es pos) (a62 t) := by
 intro pins s σ H Q I hq
 refine wpAny_List_spliced (thn (h pos pins s σ H _ I hq) fun us s1 ⟨xs, H1, I1, r, z, q⟩ => ⟨by rw [← r.length]; exact z, ?_⟩)
 have hf : H1 s1.heap.objs.size = none := I1.hok.fresh (Nat.le_refl _)
 refine ⟨.ref s1.heap.objs.size, upd H1 s1.heap.objs.size (.lst xs), I1.laid (t' := s1.toks) (fun b u e => Heap.get?_push_of_some _ e) (Nat.le_refl _) ?_, rfl, q _ hf⟩
 exact ⟨z, us, 0, r, Heap.get?_push_size _ rfl⟩
end
noncomputable abbrev Sp := List V → Hp → VK → XK → Prop
noncomputable abbrev CXT := List Env → Hp → Shared → XK → Value → Shared → Prop
structure Env0 (P : Program) (w : World) (K : PySem.W.Frag) (mg : Str → Option Value) (base : Heap) (A : Around) (outer : List Env) (s : Shared) (H : Hp) : Prop where
 frames : A.frames = some outer
 mod : Mod K mg base
 bs : ∀ b o, base.get? b = some o → s.heap.get? b = some o ∧ H b = none
 bsz : base.objs.size ≤ s.heap.objs.size
 funs : s.heap.FunFrames base outer
 frf : ∀ b ∈ frs outer, H b = none
 hok : HOk P w H s.heap
 bare : AllBare s.gens
noncomputable def CE (outer : List Env) (P : Program) (w : World) (H : Hp) (s : Shared) (Q : VK) (u : Value) (s' : Shared) : Prop :=
 ∃ v H', s'.os = s.os ∧ AllBare s'.gens ∧ Un (frs outer) [] H H' s.heap s'.heap ∧ HOk P w H' s'.heap ∧ RelV v u ∧ Q v H'
noncomputable def CR (CX : CXT) (outer : List Env) (P : Program) (w : World) (H : Hp) (s : Shared) (Q : VK) (E : XK) (r : Result) (s' : Shared) : Prop :=
 match r with
 | .ok (.ret u) => CE outer P w H s Q u s'
 | .ok _ => False
 | .error e => CX outer H s E e s'
structure FnOk (P : Program) (w : World) (K : PySem.W.Frag) (mg : Str → Option Value) (base : Heap) (CX : CXT) (k : Nat) (f : Addr) (fd : FuncData) (ps : List Str) (sp : Sp) : Prop where
 len : ∀ vs H Q E, sp vs H Q E → vs.length = ps.length
 run : ∀ (A : Around) (outer : List Env) (s : Shared) (H : Hp) (args : Args) (us : List Value) (vs : List V) (Q : VK) (E : XK), Room k A → Env0 P w K mg base A outer s H → BindsTo s fd args (ps.zip us) → Vals vs us → sp vs H Q E →
  codeAny (model P w) A (.call (.ref f) args) (CR CX outer P w H s Q E) s
section
variable {X : Cx} {pins : List (Addr × Obj)} {σ : St} {H : Hp} {s s' : Shared}
theorem Inv.env0 (I : Inv X pins σ H s) : Env0 X.prog X.w X.K X.mg X.base X.A X.stack s H :=
 ⟨I.ok.frames, I.ok.mod, I.bs, Nat.le_trans I.ok.bsz I.sz, I.stack, I.stkFree, I.hok, I.bare⟩
theorem Inv.after {Q : VK} {u : Value} (I : Inv X pins σ H s) (h : CE X.stack X.prog X.w H s Q u s') : EP X pins σ Q u s' := by
 obtain ⟨v, H', os, bare, un, hok, r, q⟩ := h
 obtain ⟨hh, g, d, t, os'⟩ := s'
 obtain rfl : os' = s.os := os
 exact ⟨v, H', I.call (h' := hh) (g' := g) (d' := d) (t' := t) (ch := []) un hok bare (fun b z => absurd z (by simp)), r, q⟩
end
noncomputable def a3M (sp : Sp) (dvs : List V) (E : XK) (t : TA) : TE := fun σ H Q => t σ H fun vs H1 => sp (vs ++ dvs) H1 Q E
noncomputable def Binds (K : PySem.W.Frag) (fd : FuncData) (ps : List Str) (ds : List Value) : Prop :=
 ∀ (s : Shared) (us : List Value), K.In s.heap → (us ++ ds).length = ps.length → BindsTo s fd ⟨us, []⟩ (ps.zip (us ++ ds))
theorem Binds.all {K : PySem.W.Frag} {fd : FuncData} {ps : List Str} (h : ∀ us : List Value, us.length = ps.length → bindArgs fd ⟨us, []⟩ = pure (ps.zip us)) : Binds K fd ps [] := fun s us _ hl => by
 rw [List.append_nil] at hl ⊢
 exact .of_eq (h us hl)
noncomputable def a1R (CX : CXT) (X : Cx) (E : XK) : Prop := ∀ (pins : List (Addr × Obj)) (σ : St) (H : Hp) (s : Shared) (e : Value) (s' : Shared), Inv X pins σ H s → CX X.stack H s E e s' → X.xe e s'
section
variable {X : Cx} {CX : CXT} {k : Nat} {f C : Addr} {fd : FuncData} {ps : List Str} {sp : Sp} {dvs : List V} {ds : List Value} {E : XK} {x m : Str} {p pos apos : Pos} {e o : Expr} {es : List Expr} {ta : TE} {t : TA}
theorem a8t {pins : List (Addr × Obj)} {σ : St} {H : Hp} {s : Shared} {Q : VK} {us : List Value} {vs : List V} (F : FnOk X.prog X.w X.K X.mg X.base CX k f fd ps sp) (hr : Room k X.A) (hb : Binds X.K fd ps ds) (hd : Vals dvs ds) (hx : a1R CX X E)
  (I : Inv X pins σ H s) (r : Vals vs us) (h : sp (vs ++ dvs) H Q E) : wpAny (model X.prog X.w) X.A (call (.ref f) us) (EP X pins σ Q) X.xe s := by
 have r2 : Vals (vs ++ dvs) (us ++ ds) := r.append hd
 have hl : (us ++ ds).length = ps.length := by rw [← r2.length]; exact F.len _ _ _ _ h
 refine wpAny_call (codeAny_mono (F.run X.A X.stack s H ⟨us, []⟩ (us ++ ds) (vs ++ dvs) Q E hr I.env0 (hb s us I.kIn hl) r2 h) fun r s' hq => ?_)
 cases r with
 | error e => exact hx pins σ H s e s' I hq
 | ok fl =>
  cases fl with
  | ret u => exact I.after hq
  | next => exact False.elim hq
  | brk => exact False.elim hq
  | cont => exact False.elim hq
theorem a8P (F : FnOk X.prog X.w X.K X.mg X.base CX k f fd ps sp) (hr : Room k X.A) (hg : Gl X x) (hm : X.mg x = some (.ref f)) (hk : PySem.W.keepIn X.K (.ref f) = true) (hb : Binds X.K fd ps ds) (hd : Vals dvs ds) (hx : a1R CX X E)
  (ha : PA X (e :: es) t) (hdb : (x == ("__debug__" : Str)) = false := by decide) (he : starEach (e :: es) X.env = (false, eval e X.env) :: starEach es X.env := by rfl) (hpl : (backTo pos (starEach es X.env)).any (·.1) = false := by rfl) :
  PE X (.Call (.Name x p) (e :: es) [] pos) (a3M sp dvs E t) := by
 intro pins s σ H Q I h
 refine wpAny_Call_Name_kw (a5e I hg hm ?_ hdb)
 refine PySem.W.callWith_K (h₀ := X.base) I.ok.mod.kin hk (thn (ha pos pins s σ H _ I h) fun us s1 ⟨vs, H1, I1, r, q⟩ => ⟨I1.kIn, ?_⟩) he hpl
 exact a8t F hr hb hd hx I1 r q
end
structure FnScope (N P : List Str) (sc : Scope) : Prop where
 kind : sc.kind = .function
 co : sc.isCoroutine = false
 gen : sc.isGenerator = false
 nd : N.Nodup
 pre : N.take P.length = P
 par : ∀ x ∈ P, sc.names.lookup x = some .local ∨ sc.names.lookup x = some .cell
 nofree : ∀ y ∈ sc.names, y.2 ≠ .free
theorem a2N {kindOf : Str → Option NameKind} {x : Str} : ∀ {binds : List (Str × Value)} {m : Str → Option Value}, (∀ v, (x, v) ∉ binds) → bindL kindOf binds m x = m x
 | [], _, _ => rfl
 | (n, v) :: r, m, h => by
  unfold bindL
  rw [a2N fun w hw => h w (List.mem_cons_of_mem _ hw)]
  split
  ·have : x ≠ n := by rintro rfl; exact h v List.mem_cons_self
   simp [this]
  ·rfl
theorem a5i {kindOf : Str → Option NameKind} {x : Str} : ∀ {binds : List (Str × Value)} {m : Str → Option Value}, (∀ v, (x, v) ∉ binds) → bindC kindOf binds m x = m x
 | [], _, _ => rfl
 | (n, v) :: r, m, h => by
  unfold bindC
  rw [a5i fun w hw => h w (List.mem_cons_of_mem _ hw)]
  split
  ·rfl
  ·have : x ≠ n := by rintro rfl; exact h v List.mem_cons_self
   simp [this]
theorem a3u {kindOf : Str → Option NameKind} {x : Str} {v : Value} : ∀ {P : List Str} {vs : List Value} {i : Nat} {m : Str → Option Value}, P.Nodup → P[i]? = some x → vs[i]? = some v → kindOf x = some .local →
  bindL kindOf (P.zip vs) m x = some v
 | [], _, _, _, _, h, _, _ => by simp at h
 | _ :: _, [], _, _, _, _, h, _ => by simp at h
 | p :: P, w :: vs, 0, m, nd, h1, h2, hk => by
  simp at h1 h2; subst h1; subst h2
  show bindL kindOf ((p, w) :: P.zip vs) m p = _
  unfold bindL
  rw [a2N fun v hv => (List.nodup_cons.mp nd).1 (List.of_mem_zip hv).1, if_pos hk]
  simp
 | p :: P, w :: vs, i + 1, m, nd, h1, h2, hk => by
  show bindL kindOf ((p, w) :: P.zip vs) m x = _
  unfold bindL
  exact a3u (i := i) (List.nodup_cons.mp nd).2 (by simpa using h1) (by simpa using h2) hk
theorem a48 {kindOf : Str → Option NameKind} {x : Str} {v : Value} : ∀ {P : List Str} {vs : List Value} {i : Nat} {m : Str → Option Value}, P.Nodup → P[i]? = some x → vs[i]? = some v → kindOf x ≠ some .local →
  bindC kindOf (P.zip vs) m x = some v
 | [], _, _, _, _, h, _, _ => by simp at h
 | _ :: _, [], _, _, _, _, h, _ => by simp at h
 | p :: P, w :: vs, 0, m, nd, h1, h2, hk => by
  simp at h1 h2; subst h1; subst h2
  show bindC kindOf ((p, w) :: P.zip vs) m p = _
  unfold bindC
  rw [a5i fun v hv => (List.nodup_cons.mp nd).1 (List.of_mem_zip hv).1, if_neg hk]
  simp
 | p :: P, w :: vs, i + 1, m, nd, h1, h2, hk => by
  show bindC kindOf ((p, w) :: P.zip vs) m x = _
  unfold bindC
  exact a48 (i := i) (List.nodup_cons.mp nd).2 (by simpa using h1) (by simpa using h2) hk
noncomputable def start (N : List Str) (vs : List V) : St := vs.map some ++ List.replicate (N.length - vs.length) none
noncomputable def J9 (CX : CXT) (P : Program) (w : World) (K : PySem.W.Frag) (mg : Str → Option Value) (base : Heap) (N : List Str) (qual : Str) (scope : Scope) (f : Addr) (cd : Value) (A : Around) (outer : List Env) (s : Shared) (H : Hp) (E : XK) : Cx where
 prog := P
 w := w
 K := K
 mg := mg
 base := base
 A := A.deeper (envOfC qual scope s.heap.objs.size f cd)
 N := N
 s₀ := s
 H₀ := H
 env := envOfC qual scope s.heap.objs.size f cd
 outer := outer
 stack := envOfC qual scope s.heap.objs.size f cd :: outer
 ex := []
 calm := true
 fn := fun _ => true
 pn := []
 xe := fun e s' => wpAny (model P w) (A.deeper (envOfC qual scope s.heap.objs.size f cd)) (leaving (envOfC qual scope s.heap.objs.size f cd) e) (fun _ s'' => CX outer H s E e s'') (fun e' s'' => CX outer H s E e' s'') s'
theorem a25 {sc : Scope} {n : Nat} {x : Str} (h : sc.names.lookup x = some .cell) : ∃ c, (cellsFrom n sc.names []).lookup x = some c := by
 have q := PySem.W.cellsFrom_some sc.names n [] (.inl h)
 exact Option.isSome_iff_exists.mp q
theorem a8e {CX : CXT} {P : Program} {w : World} {K : PySem.W.Frag} {mg : Str → Option Value} {base : Heap} {N ps : List Str} {qual : Str} {scope : Scope} {f : Addr} {cd : Value} {A : Around} {outer : List Env} {s s1 : Shared} {H : Hp} {E : XK} {us : List Value} {vs : List V}
  (S : FnScope N ps scope) (hd : A.handled = none) (e0 : Env0 P w K mg base A outer s H) (hl : vs.length = ps.length) (r : Vals vs us)
  (x : InCallC s s.heap.objs.size (bindL (envOfC qual scope s.heap.objs.size f cd).kindOf (ps.zip us) fun _ => none) (cellsFrom (s.heap.objs.size + 1) scope.names []) (bindC (envOfC qual scope s.heap.objs.size f cd).kindOf (ps.zip us) fun _ => none) s1) :
  Inv (J9 CX P w K mg base N qual scope f cd A outer s H E) [] (start N vs) H s1 := by
 have hpl : ps.length ≤ N.length := by have := congrArg List.length S.pre; rw [List.length_take] at this; omega
 obtain ⟨h1, tk, rfl, hk⟩ := x.done
 have noA : ∀ b : Addr, b ∉ (J9 CX P w K mg base N qual scope f cd A outer s H E).ex := fun b z => absurd (show b ∈ ([] : List Addr) from z) (by simp)
 refine ⟨⟨e0.mod, S.kind, rfl, rfl, Nat.le_refl _, fun y z c h1 h2 => ?_, fun y hy => ?_, fun y c _ h => ?_, fun _ => hd, Around.frames_deeper e0.frames, .inr ⟨rfl, rfl⟩, fun b z => absurd z (noA b), e0.bs, e0.bsz, fun b _ _ => noA b, fun b z => absurd z (noA b), e0.funs, e0.frf⟩,
  rfl, e0.bare, Un.kept hk, ⟨_, x.toInCall.ns, fun i y v h1 h2 h3 => ?_⟩, fun y c h => ⟨_, x.cell y c h⟩, e0.hok.fresh (Nat.le_refl _), fun y c h => ?_, fun p hp => absurd (show p ∈ ([] : List (Addr × Obj)) from hp) (by simp), e0.hok.kept hk, ?_⟩
 ·exact name_of_addr x.apart (PySem.mem_of_lookup h1) (PySem.mem_of_lookup h2)
 ·have hy : scope.names.lookup y = some .cell ∨ scope.names.lookup y = some .free := hy
  rcases hy with hy | hy
  ·exact a25 hy
  ·exact absurd rfl (S.nofree _ (PySem.mem_of_lookup hy))
 ·exact Nat.le_of_lt (x.above y c (PySem.mem_of_lookup h))
 ·have hi : i < vs.length := by
   unfold start at h2
   by_cases hi : i < vs.length
   ·exact hi
   ·rw [List.getElem?_append_right (by simpa using hi)] at h2
    rw [List.getElem?_replicate] at h2
    split at h2 <;> cases h2
  have ha : vs[i]? = some v := by
   unfold start at h2
   rw [List.getElem?_append_left (by simpa using hi), List.getElem?_map] at h2
   cases e : vs[i]? with
   | none => rw [e] at h2; cases h2
   | some a => rw [e] at h2; cases h2; rfl
  obtain ⟨u, hu, rv⟩ := r.get ha
  have hp : ps[i]? = some y := by
   rw [← S.pre, List.getElem?_take_of_lt (by omega)]; exact h1
  have ndP : ps.Nodup := by rw [← S.pre]; exact S.nd.sublist (List.take_sublist _ _)
  refine ⟨u, rv, ?_⟩
  rcases S.par y (List.mem_of_getElem? hp) with k | k
  ·exact .inl ⟨k, a3u ndP hp hu k⟩
  ·obtain ⟨c, e⟩ := a25 (n := s.heap.objs.size + 1) k
   refine .inr ⟨.inl k, c, e, ?_⟩
   have q := x.cell y c e
   rw [a48 ndP hp hu (by show scope.names.lookup y ≠ _; rw [k]; decide)] at q
   exact q
 ·exact e0.hok.fresh (Nat.le_of_lt (x.above y c (PySem.mem_of_lookup h)))
 ·unfold start
  show _ = N.length
  rw [List.length_append, List.length_map, List.length_replicate]
  omega
theorem a8X {CX : CXT} {P : Program} {w : World} {K : PySem.W.Frag} {mg : Str → Option Value} {base : Heap} {k : Nat} {f : Addr} {name qual : Str} {params : Arguments} {body : List Stmt} {scope : Scope} {dV kV doc pm cdv ct oc : Value} {an od : Option Addr}
  {osl : Array (Option Value)} {N ps : List Str} {sp : Sp} (lk : K.lookup f = some ⟨oc, od, .func (PySem.W.fnOf name qual params body scope dV kV doc pm an cdv ct), osl⟩) (hcd : PySem.W.codeIn K cdv qual = true) (S : FnScope N ps scope)
  (len : ∀ vs H Q E, sp vs H Q E → vs.length = ps.length)
  (hbody : ∀ (A : Around) (outer : List Env) (s : Shared) (H : Hp) (vs : List V) (Q : VK) (E : XK), Room k (A.deeper (envOfC qual scope s.heap.objs.size f cdv)) → sp vs H Q E →
   ∃ t, PSs (J9 CX P w K mg base N qual scope f cdv A outer s H E) body t ∧ t { nx := fun _ H' => Q .non H', rt := Q } (start N vs) H) :
  FnOk P w K mg base CX (k + 1) f (PySem.W.fnOf name qual params body scope dV kV doc pm an cdv ct) ps sp := by
 refine ⟨len, fun A outer s H args us vs Q E hr e0 hb r hsp => ?_⟩
 have hl := len _ _ _ _ hsp
 have KX : K.In s.heap := e0.mod.kin.keeps fun b o e => (e0.bs b o e).1
 have lim : s.heap.NoLimit := e0.mod.nolimit.keeps fun b o e => (e0.bs b o e).1
 have hkind : ∀ y ∈ ps.zip us, scope.names.lookup y.1 = some .local ∨ (scope.names.lookup y.1 = some .cell ∧ ((cellsFrom (s.heap.objs.size + 1) scope.names []).lookup y.1).isSome = true) := fun ⟨n, v⟩ hy => by
  rcases S.par n (List.of_mem_zip hy).1 with q | q
  ·exact .inl q
  ·exact .inr ⟨q, PySem.W.cellsFrom_some _ _ _ (.inl q)⟩
 refine codeAny_call_function hr.depth (KX _ _ lk) rfl S.co S.gen rfl (PySem.W.codeRec_of KX hcd) (hb _ _ _ _ ?_)
 refine wpAny_newFunctionEnv_cells S.kind hkind fun env he s1 x => ?_
 subst he
 refine ⟨lim.keeps x.toInCall.keep, codeAny_func ?_⟩
 obtain ⟨t, ht, hq⟩ := hbody A outer s H vs Q E (hr.deeper _) hsp
 have I : Inv (J9 CX P w K mg base N qual scope f cdv A outer s H E) [] (start N vs) H s1 := a8e S hr.hd e0 hl r x
 refine wpAny_mono (ht [] s1 (start N vs) H _ I hq) (fun fl s' hs => ?_) fun e s' hs => hs
 have fin : ∀ {σ' : St} {H' : Hp} {v : V} {u : Value}, Inv (J9 CX P w K mg base N qual scope f cdv A outer s H E) [] σ' H' s' → RelV v u → Q v H' → CE outer P w H s Q u s' :=
  fun {σ' H' v u} J rv q => ⟨v, H', J.os, J.bare, J.base, J.hok, rv, q⟩
 cases fl with
 | ret u =>
  obtain ⟨v, σ', H', J, rv, q⟩ := hs
  exact fin J rv q
 | next =>
  obtain ⟨σ', H', J, q⟩ := hs
  exact fin (v := V.non) (u := Value.none) J rfl q
 | brk =>
  obtain ⟨_, _, _, q⟩ := hs
  exact False.elim q
 | cont =>
  obtain ⟨_, _, _, q⟩ := hs
  exact False.elim q
section
variable {X : Cx} {x : Str} {p pos : Pos} {e : Expr} {es : List Expr} {t : TA} {id T : String} {r : List V → Hp → VK → Prop}
noncomputable def tCB (r : List V → Hp → VK → Prop) (t : TA) : TE := fun σ H Q => t σ H fun vs H1 => r vs H1 Q
theorem a6P (hc : CallR X (.builtin id) r) (hg : Gl X x) (hm : X.mg x = none) (hv : bootBuiltins x = some (.builtin id)) (ha : PA X (e :: es) t) (hn : x ≠ "__name__" := by decide) (hdb : (x == ("__debug__" : Str)) = false := by decide)
  (he : starEach (e :: es) X.env = (false, eval e X.env) :: starEach es X.env := by rfl) (hpl : (backTo pos (starEach es X.env)).any (·.1) = false := by rfl) : PE X (.Call (.Name x p) (e :: es) [] pos) (tCB r t) := by
 intro pins s σ H Q I h
 refine wpAny_Call_Name_kw (a2B I hg hm hv ?_ hn hdb)
 exact PyProof.Rows.callWith_builtin1 (thn (ha pos pins s σ H _ I h) fun us s1 ⟨vs, H1, I1, r1, q1⟩ => hc pins s1 σ H1 vs us Q I1 r1 q1) he hpl
theorem a4Q (hc : CallR X (.type T) r) (hg : Gl X x) (hm : X.mg x = none) (hv : bootBuiltins x = some (.type T)) (ha : PA X (e :: es) t) (hn : x ≠ "__name__" := by decide) (hdb : (x == ("__debug__" : Str)) = false := by decide)
  (he : starEach (e :: es) X.env = (false, eval e X.env) :: starEach es X.env := by rfl) (hpl : (backTo pos (starEach es X.env)).any (·.1) = false := by rfl) : PE X (.Call (.Name x p) (e :: es) [] pos) (tCB r t) := by
 intro pins s σ H Q I h
 refine wpAny_Call_Name_kw (a2B I hg hm hv ?_ hn hdb)
 exact PyProof.Rows.callWith_type1 (thn (ha pos pins s σ H _ I h) fun us s1 ⟨vs, H1, I1, r1, q1⟩ => hc pins s1 σ H1 vs us Q I1 r1 q1) he hpl
end
end L2
namespace HT
open PySem PyProof.Rows
section
variable {prog : Program} {w : World} {A : Around} {E : Value → Shared → Prop} {s : Shared}
theorem cat_tup {t b : Addr} {vs ws : List Value} {Q : Value → Shared → Prop} (ht : IsTup s.heap t vs.toArray) (hb : IsTup s.heap b ws.toArray) (hv : vs ≠ [])
  (h1 : ws = [] → Q (.ref t) s) (h2 : ws ≠ [] → Q (.ref s.heap.objs.size) { s with heap := s.heap.push { cls := .type "tuple", data := .seq (vs ++ ws).toArray } })
  (hsz : vs.length + ws.length ≤ sizeLine) : wpAny (model prog w) A (binaryOp .Add (.ref t) (.ref b)) Q E s := by
 obtain ⟨⟨cls, dd, data, sl⟩, ho, hc, n, hd⟩ := id ht
 obtain ⟨⟨cls2, dd2, data2, sl2⟩, ho2, hc2, n2, hd2⟩ := id hb
 simp only at hc hd hc2 hd2
 subst hc hd hc2 hd2
 have e : vs.toArray ++ ws.toArray = (vs ++ ws).toArray := by simp
 by_cases hw : ws = []
 ·exact concat_meets ⟨_, ho, rfl⟩ ⟨_, ho2, rfl⟩ noFill_tuple_add seq_tuple_add PySem.F.slot_tuple_add PySem.F.entry_tuple_add (PySem.F.args_tuple_add_2 _ _)
   (tuple_addW1 t b vs.toArray ws.toArray n n2 dd dd2 sl sl2 (by simpa using hv) (by simp [hw])) ⟨ho, ho2, h1 hw⟩
 ·refine concat_meets ⟨_, ho, rfl⟩ ⟨_, ho2, rfl⟩ noFill_tuple_add seq_tuple_add PySem.F.slot_tuple_add PySem.F.entry_tuple_add (PySem.F.args_tuple_add_2 _ _)
   (tuple_addW2 t b vs.toArray ws.toArray n n2 dd dd2 sl sl2 (by simpa using hv) (by simpa using hw) (by rw [List.size_toArray, List.size_toArray]; exact hsz)) ⟨ho, ho2, ?_⟩
  rw [e]
  exact h2 hw
noncomputable def sIx (n d : Nat) : Option Int → Nat
 | none => d
 | some v => if v < 0 then (v + (n : Int)).toNat else min v.toNat n
theorem sIx_nat (n d k : Nat) : sIx n d (some (k : Int)) = min k n := by
 show (if (k : Int) < 0 then ((k : Int) + (n : Int)).toNat else min (k : Int).toNat n) = min k n
 rw [if_neg (by omega), Int.toNat_natCast]
theorem a6F (n d : Nat) (hd : d ≤ n) (o : Option Int) : sIx n d o ≤ n := by
 cases o with
 | none => exact hd
 | some v =>
  show (if v < 0 then (v + (n : Int)).toNat else min v.toNat n) ≤ n
  by_cases hv : v < 0
  ·rw [if_pos hv]; omega
  ·rw [if_neg hv]; exact Nat.min_le_right _ _
theorem a2O (v : Int) (n d : Nat) : (if v < 0 then max (v + (n : Int)) 0 else min v (n : Int)) = ((sIx n d (some v) : Nat) : Int) := by
 show (if v < 0 then max (v + (n : Int)) 0 else min v (n : Int)) = (((if v < 0 then (v + (n : Int)).toNat else min v.toNat n) : Nat) : Int)
 by_cases hv : v < 0
 ·simp only [if_pos hv]; omega
 ·simp only [if_neg hv]; omega
theorem a41 (lo hi : Option Int) (n : Nat) : Builtin.Slice.sliceAdjust lo hi 1 (n : Int) = (((sIx n 0 lo : Nat) : Int), ((sIx n n hi : Nat) : Int)) := by
 have h1 : ¬ ((1 : Int) < 0) := by omega
 unfold Builtin.Slice.sliceAdjust
 simp only [h1, if_false]
 refine Prod.ext ?_ ?_
 ·cases lo with
  | none => rfl
  | some v => exact a2O v n 0
 ·cases hi with
  | none => rfl
  | some v => exact a2O v n n
theorem a3I (i j : Nat) : Builtin.Slice.slicePlaces (i : Int) (j : Int) 1 = j - i := by
 unfold Builtin.Slice.slicePlaces
 have h1 : (1 : Int) > 0 := by omega
 simp only [h1, if_true, Int.ediv_one]
 split <;> omega
theorem a2P {v : Value} {o : Option Int} {Q : Option Int → Shared → Prop} (p : IsPart v o) (h : Q o s) : wpAny (model prog w) A (Builtin.Slice.slicePartIndex v) Q E s := by
 cases p with
 | none => exact slicePart_none h
 | int i t => exact slicePart_int h
theorem a32 {sl : Addr} {vl vu : Value} {lo hi : Option Int} {n : Nat} {Q : Int × Int × Nat → Shared → Prop} (hs : s.heap.IsSliceOf sl vl vu .none) (pl : IsPart vl lo) (pu : IsPart vu hi)
  (h : Q (((sIx n 0 lo : Nat) : Int), 1, sIx n n hi - sIx n 0 lo) s) : wpAny (model prog w) A (Builtin.Slice.sliceApplied (.ref sl) (pure (n : Int))) Q E s := by
 obtain ⟨os, hos, hcs, hds⟩ := id hs
 unfold Builtin.Slice.sliceApplied Builtin.Slice.sliceFields
 refine wpAny_bind (wpAny_bind (wpAny_field hos hds (x := vl) rfl (wpAny_bind (wpAny_field hos hds (x := vu) rfl (wpAny_bind (wpAny_field hos hds (x := .none) rfl (wpAny_pure ?_)))))))
 refine wpAny_bind (slicePart_none ?_)
 show wpAny _ _ (if ((1 : Int) == 0) = true then _ else _) _ _ s
 rw [if_neg (by decide)]
 refine wpAny_bind (a2P pl (wpAny_bind (a2P pu (wpAny_bind (wpAny_pure ?_)))))
 show wpAny _ _ (match Builtin.Slice.sliceAdjust lo hi 1 (n : Int) with | (lo, hi) => pure (lo, (1 : Int), Builtin.Slice.slicePlaces lo hi 1)) _ _ s
 rw [a41 lo hi n]
 show wpAny _ _ (pure (((sIx n 0 lo : Nat) : Int), (1 : Int), Builtin.Slice.slicePlaces ((sIx n 0 lo : Nat) : Int) ((sIx n n hi : Nat) : Int) 1)) _ _ s
 rw [a3I]
 exact wpAny_pure h
theorem a7c (xs : Array Value) (i k : Nat) : ((List.range k).filterMap fun (m : Nat) => xs[((i : Int) + (m : Int) * 1).toNat]?).toArray = ((xs.toList.drop i).take k).toArray := by
 have e : (fun (m : Nat) => xs[((i : Int) + (m : Int) * 1).toNat]?) = fun m => xs[i + m]? := by
  funext m
  have : ((i : Int) + (m : Int) * 1).toNat = i + m := by omega
  rw [this]
 rw [e]
 have := pick_run xs i k
 rw [List.filterMap_map] at this
 have e2 : ((fun x => xs[x]?) ∘ fun x => i + x) = fun m => xs[i + m]? := rfl
 rw [e2] at this
 rw [this]
theorem getItem_tuple_cut {t sl : Addr} {items : Array Value} {vl vu : Value} {lo hi : Option Int} {Q : Value → Shared → Prop} (ht : IsTup s.heap t items) (hs : s.heap.IsSliceOf sl vl vu .none) (pl : IsPart vl lo) (pu : IsPart vu hi)
  (hw : ¬ (sIx items.size 0 lo = 0 ∧ sIx items.size items.size hi = items.size))
  (h : Q (.ref s.heap.objs.size) { s with heap := s.heap.push { cls := .type "tuple", data := .seq ((items.toList.drop (sIx items.size 0 lo)).take (sIx items.size items.size hi - sIx items.size 0 lo)).toArray } })
  (hsz : items.size ≤ sizeLine) : wpAny (model prog w) A (getItem (.ref t) (.ref sl)) Q E s := by
 have htake : sizeOk (.seq ((items.toList.drop (sIx items.size 0 lo)).take (sIx items.size items.size hi - sIx items.size 0 lo)).toArray) := by
  show ((items.toList.drop (sIx items.size 0 lo)).take (sIx items.size items.size hi - sIx items.size 0 lo)).toArray.size ≤ sizeLine
  rw [List.size_toArray, List.length_take, List.length_drop, Array.length_toList]
  omega
 have hj : sIx items.size items.size hi ≤ items.size := a6F _ _ (Nat.le_refl _) hi
 obtain ⟨os, hos, hcs, hds⟩ := id hs
 have hTs : s.TypeIs (.ref sl) "slice" := ⟨os, hos, hcs⟩
 unfold getItem
 try with_reducible refine wpAny_holding ?_
 first | refine wpAny_bind (wpAny_pure ?_) | skip
 refine wpAny_bind (wpAny_sequenceKey ht.typeIs (by decide) ?_)
 refine wpAny_bind (wpAny_callSpecial?_slot (name := Str.ofString "__getitem__") ht.typeIs PyProof.Rows.slot_tuple_getitem
  (wpAny_call_entry PyProof.Rows.slot_tuple_getitem ht.typeIs entry_tuple_getitem ?_ (args_tuple_getitem _ _)))
 show wpAny _ _ (Builtin.Tuple.tupleItemsOf (.ref t) >>= _) _ _ s
 refine wpAny_bind (tupleItemsOf_ ht ?_)
 refine wpAny_bind (wpAny_typeOf hTs ?_)
 rw [if_pos (by decide)]
 refine wpAny_bind (a32 hs pl pu ?_)
 have hno : ¬ ((((sIx items.size 0 lo : Nat) : Int) == 0 && (1 : Int) == 1 && (sIx items.size items.size hi - sIx items.size 0 lo) == items.size) = true) := by
  intro q
  rw [Bool.and_eq_true, Bool.and_eq_true] at q
  have q1 : ((sIx items.size 0 lo : Nat) : Int) = 0 := eq_of_beq q.1.1
  have q2 : sIx items.size items.size hi - sIx items.size 0 lo = items.size := eq_of_beq q.2
  exact hw ⟨by omega, by omega⟩
 show wpAny _ _ (if (((sIx items.size 0 lo : Nat) : Int) == 0 && (1 : Int) == 1 && (sIx items.size items.size hi - sIx items.size 0 lo) == items.size) = true then _ else _) _ _ s
 rw [if_neg hno, a7c]
 first
  | exact wpAny_bind (m := Builtin.Tuple.tupleExact _) (wpAny_newObj_type (wpAny_pure ⟨_, rfl, wpAny_pure h⟩) htake)
  | exact wpAny_bind (m := Builtin.Tuple.tupleExact _) (wpAny_newObj_type (wpAny_bind (wpAny_pure (wpAny_pure ⟨_, rfl, wpAny_pure h⟩))) htake)
  | exact wpAny_bind (wpAny_bind (m := Builtin.Tuple.tupleExact _) (wpAny_newObj_type (wpAny_pure (wpAny_pure ⟨_, rfl, wpAny_pure h⟩)) htake))
  | exact wpAny_bind (wpAny_bind (m := Builtin.Tuple.tupleExact _) (wpAny_newObj_type (wpAny_pure ⟨_, rfl, wpAny_pure h⟩) htake))
end
end HT
namespace L2
open PySem PySem.Spec PyProof.Rows
noncomputable abbrev TO := St → Hp → (Option Int → Hp → Prop) → Prop
noncomputable def PO (X : Cx) (e : Option Expr) (t : TO) : Prop :=
 ∀ (pins : List (Addr × Obj)) (s : Shared) (σ : St) (H : Hp) (Q : Option Int → Hp → Prop), Inv X pins σ H s → t σ H Q →
  wpAny (model X.prog X.w) X.A (evalPart e X.env) (fun u s' => ∃ o H', Inv X pins σ H' s' ∧ IsPart u o ∧ Q o H') X.xe s
noncomputable def a7P : TO := fun _ H Q => Q none H
noncomputable def b0u (t : TE) : TO := fun σ H Q => t σ H fun x H1 => ∃ i, x = .int i ∧ Q (some i) H1
section
variable {X : Cx} {e : Expr} {te : TE} {lo hi : Option Expr} {tl th : TO} {pos p2 : Pos}
theorem a4V : PO X none a7P := by
 intro pins s σ H Q I h
 rw [evalPart_none]
 exact wpAny_pure ⟨none, H, I, .none, h⟩
theorem a3i (h : PE X e te) : PO X (some e) (b0u te) := by
 intro pins s σ H Q I hw
 rw [evalPart_some]
 refine thn (h pins s σ H _ I hw) fun u s1 ⟨x, H1, I1, r1, q1⟩ => ?_
 obtain ⟨i, rfl, q⟩ := q1
 obtain ⟨t, rfl⟩ := r1
 exact ⟨some i, H1, I1, .int i t, q⟩
noncomputable def SlR (X : Cx) (r : V → Option Int → Option Int → Hp → VK → Prop) : Prop :=
 ∀ (pins : List (Addr × Obj)) (s : Shared) (σ : St) (H : Hp) (x : V) (v vl vu : Value) (lo hi : Option Int) (sl : Addr) (Q : VK), Inv X pins σ H s → RelV x v → s.heap.IsSliceOf sl vl vu .none → IsPart vl lo → IsPart vu hi → r x lo hi H Q →
  ∃ T id, typeLookup (.type T) "__getitem__" = pure (some (.builtin id)) ∧ s.TypeIs v T ∧ wpAny (model X.prog X.w) X.A (getItem v (.ref sl)) (EP X pins σ Q) X.xe s
theorem SlR.or {r r' : V → Option Int → Option Int → Hp → VK → Prop} (h : SlR X r) (h' : SlR X r') : SlR X (fun x lo hi H Q => r x lo hi H Q ∨ r' x lo hi H Q) := by
 intro pins s σ H x v vl vu lo hi sl Q I rx hs pl pu q
 rcases q with q | q
 ·exact h pins s σ H x v vl vu lo hi sl Q I rx hs pl pu q
 ·exact h' pins s σ H x v vl vu lo hi sl Q I rx hs pl pu q
noncomputable def tSl (r : V → Option Int → Option Int → Hp → VK → Prop) (te : TE) (tl th : TO) : TE := fun σ H Q => te σ H fun x H1 => tl σ H1 fun l H2 => th σ H2 fun u H3 => r x l u H3 Q
theorem a34 {r : V → Option Int → Option Int → Hp → VK → Prop} (hr : SlR X r) (he : PE X e te) (hl : PO X lo tl) (hu : PO X hi th) : PE X (.Subscript e (.Slice lo hi none p2) pos) (tSl r te tl th) := by
 intro pins s σ H Q I h
 refine Subscript_ (thn (he pins s σ H _ I h) fun v s1 ⟨x, H1, I1, r1, q1⟩ => ?_)
 refine wpAny_Slice (thn (hl pins s1 σ H1 _ I1 q1) fun vl s2 ⟨l, H2, I2, pl, q2⟩ => thn (hu pins s2 σ H2 _ I2 q2) fun vu s3 ⟨u, H3, I3, pu, q3⟩ => ?_)
 rw [evalPart_none]
 refine wpAny_pure ?_
 have I4 : Inv X pins σ H3 { s3 with heap := s3.heap.push { cls := .type "slice", data := .fields #[vl, vu, .none] } } := I3.kept (t' := s3.toks) fun b ob q => Heap.get?_push_of_some _ q
 obtain ⟨T, id, hT, ht, hg⟩ := hr pins { s3 with heap := s3.heap.push { cls := .type "slice", data := .fields #[vl, vu, .none] } } σ H3 x v vl vu l u s3.heap.objs.size Q I4 r1 (Heap.IsSliceOf.new ..) pl pu q3
 show wpAny (model X.prog X.w) X.A (subscriptTail e (.Slice lo hi none p2) v (.ref s3.heap.objs.size)) (EP X pins σ Q) X.xe { s3 with heap := s3.heap.push { cls := .type "slice", data := .fields #[vl, vu, .none] } }
 exact tail_any (ops := [.ref s3.heap.objs.size, v]) ht hT hg (by with_unfolding_all rfl)
noncomputable def D6 (xs : List V) (lo hi : Option Int) : List V := (xs.drop (HT.sIx xs.length 0 lo)).take (HT.sIx xs.length xs.length hi - HT.sIx xs.length 0 lo)
theorem a49 (xs : List V) (lo hi : Option Int) : (D6 xs lo hi).length ≤ xs.length := by
 unfold D6
 rw [List.length_take, List.length_drop]
 omega
noncomputable def b0D (K : PySem.W.Frag) : V → Option Int → Option Int → Hp → VK → Prop := fun x lo hi H Q => ∃ a xs, x = .ref a ∧ SqT K H a xs ∧
 ¬ (HT.sIx xs.length 0 lo = 0 ∧ HT.sIx xs.length xs.length hi = xs.length) ∧ ∀ p, H p = none → Q (.ref p) (upd H p (.tup (D6 xs lo hi)))
theorem a9x : SlR X (b0D X.K) := by
 intro pins s σ H x v vl vu lo hi sl Q I rx hs pl pu h
 obtain ⟨a, xs, rfl, hx, hw, q⟩ := h
 cases rx
 obtain ⟨its, r, ht, hz⟩ := I.tuple hx
 have hlen : its.toArray.size = xs.length := by rw [List.size_toArray]; exact r.length.symm
 refine ⟨"tuple", _, PyProof.Rows.slot_tuple_getitem.lookup, ht.typeIs, ?_⟩
 refine HT.getItem_tuple_cut ht hs pl pu (by rw [hlen]; exact hw) ?_ (by rw [hlen]; exact hz)
 rw [hlen]
 refine ⟨.ref s.heap.objs.size, _, I.laid (t' := s.toks) (o := .tup (D6 xs lo hi)) (fun b ob q => Heap.get?_push_of_some _ q) (Nat.le_refl _) ?_, rfl, q _ (I.hok.fresh (Nat.le_refl _))⟩
 exact ⟨Nat.le_trans (a49 xs lo hi) hz, _, (r.drop (HT.sIx xs.length 0 lo)).take (HT.sIx xs.length xs.length hi - HT.sIx xs.length 0 lo), IsTup.new _ _⟩
noncomputable def a3T (K : PySem.W.Frag) : R2 := fun x y H Q => ∃ a b xs ys, x = .ref a ∧ y = .ref b ∧ SqT K H a xs ∧ SqT K H b ys ∧ xs ≠ [] ∧ xs.length + ys.length ≤ sizeLine ∧
 (ys = [] → Q (.ref a) H) ∧ (ys ≠ [] → ∀ p, H p = none → Q (.ref p) (upd H p (.tup (xs ++ ys))))
theorem Vals.nil_iff {xs : List V} {us : List Value} (r : Vals xs us) : us = [] ↔ xs = [] := by
 cases r with
 | nil => simp
 | cons _ _ => simp
theorem a84 : OpR X (binaryOp .Add) (a3T X.K) := by
 intro pins s σ H x y v u Q I rx ry h
 obtain ⟨a, b, xs, ys, rfl, rfl, ha, hb, hx, hz, q1, q2⟩ := h
 cases rx
 cases ry
 obtain ⟨its, r1, p1, _⟩ := I.tuple ha
 obtain ⟨its2, r2, p2, _⟩ := I.tuple hb
 refine HT.cat_tup p1 p2 (fun z => hx (r1.nil_iff.mp z)) (fun z => ⟨.ref a, H, I, rfl, q1 (r2.nil_iff.mp z)⟩) (fun z => ?_) (by rw [← r1.length, ← r2.length]; exact hz)
 refine ⟨.ref s.heap.objs.size, _, I.laid (t' := s.toks) (o := .tup (xs ++ ys)) (fun b ob q => Heap.get?_push_of_some _ q) (Nat.le_refl _) ?_, rfl, q2 (fun w => z (r2.nil_iff.mpr w)) _ (I.hok.fresh (Nat.le_refl _))⟩
 exact ⟨by rw [List.length_append]; exact hz, _, r1.append r2, IsTup.new _ _⟩
end
noncomputable def ixN (n : Nat) (i : Int) : Option Nat := if 0 ≤ i then (if i < n then some i.toNat else none) else if -(n : Int) ≤ i then some (i + n).toNat else none
noncomputable def atI {α : Type} (xs : List α) (i : Int) : Option α := (ixN xs.length i).bind fun j => xs[j]?
theorem a23 {n : Nat} {i : Int} {j : Nat} (h : ixN n i = some j) : seqIndex? i n = some j ∧ j < n ∧ -(n : Int) ≤ i ∧ i < n := by
 unfold ixN at h
 by_cases h0 : 0 ≤ i
 ·rw [if_pos h0] at h
  by_cases h1 : i < n
  ·rw [if_pos h1] at h
   have e : i.toNat = j := Option.some.inj h
   exact ⟨by rw [seqIndex_of h0 h1, e], by omega, by omega, h1⟩
  ·rw [if_neg h1] at h; cases h
 ·rw [if_neg h0] at h
  by_cases h1 : -(n : Int) ≤ i
  ·rw [if_pos h1] at h
   have e : (i + n).toNat = j := Option.some.inj h
   exact ⟨by rw [seqIndex_neg (by omega) h1, e], by omega, h1, by omega⟩
  ·rw [if_neg h1] at h; cases h
theorem a5k {α : Type} {xs : List α} {i : Int} {v : α} (h : atI xs i = some v) : ∃ j, seqIndex? i xs.length = some j ∧ xs[j]? = some v ∧ j < xs.length ∧ -(xs.length : Int) ≤ i ∧ i < xs.length := by
 unfold atI at h
 cases e : ixN xs.length i with
 | none => rw [e] at h; cases h
 | some j =>
  rw [e] at h
  obtain ⟨h1, h2, h3, h4⟩ := a23 e
  exact ⟨j, h1, h, h2, h3, h4⟩
theorem W0 {α : Type} (xs : List α) (v : α) : atI (xs ++ [v]) (-1) = some v := by
 have hl : (xs ++ [v]).length = xs.length + 1 := by simp
 have e : ixN (xs ++ [v]).length (-1) = some xs.length := by
  unfold ixN
  rw [hl, if_neg (by decide), if_pos (by omega)]
  congr 1
  omega
 unfold atI
 rw [e]
 show (xs ++ [v])[xs.length]? = some v
 simp
noncomputable def a2Y (b : Expr) : Prop := ∀ o i, subscripted b false o i = operate [o, i] (getItem o i)
noncomputable def IxR (X : Cx) (r : R2) : Prop :=
 ∀ (value slice : Expr) (pins : List (Addr × Obj)) (s : Shared) (σ : St) (H : Hp) (x y : V) (v u : Value) (Q : VK), Inv X pins σ H s → RelV x v → RelV y u → r x y H Q →
  subscripted slice false v u = operate [v, u] (getItem v u) → wpAny (model X.prog X.w) X.A (subscriptTail value slice v u) (EP X pins σ Q) X.xe s
noncomputable def MtR (X : Cx) (id : String) (r : V → List V → Hp → VK → Prop) : Prop :=
 ∀ (pins : List (Addr × Obj)) (s : Shared) (σ : St) (H : Hp) (x : V) (xs : List V) (v : Value) (us : List Value) (Q : VK), Inv X pins σ H s → RelV x v → Vals xs us → r x xs H Q →
  wpAny (model X.prog X.w) X.A (call (.builtin id) (v :: us)) (EP X pins σ Q) X.xe s
section
variable {X : Cx} {a b : Expr} {ta tb : TE} {pos : Pos}
theorem IxR.or {r r' : R2} (h : IxR X r) (h' : IxR X r') : IxR X (fun x y H Q => r x y H Q ∨ r' x y H Q) := by
 intro value slice pins s σ H x y v u Q I rx ry q hs
 rcases q with q | q
 ·exact h value slice pins s σ H x y v u Q I rx ry q hs
 ·exact h' value slice pins s σ H x y v u Q I rx ry q hs
theorem a4N {r : R2} (hr : IxR X r) (ha : PE X a ta) (hb : PE X b tb) (hs : a2Y b) : PE X (.Subscript a b pos) (tOp r ta tb) := by
 intro pins s σ H Q I h
 exact Subscript_ (a1w ha hb I h fun v u s2 x y H2 I2 rx ry q => hr a b pins s2 σ H2 x y v u Q I2 rx ry q (hs _ _))
noncomputable def a0O (K : PySem.W.Frag) : R2 := fun x y H Q => ∃ p xs i v, x = .ref p ∧ y = .int i ∧ SqL K H p xs ∧ atI xs i = some v ∧ Q v H
noncomputable def a2v (K : PySem.W.Frag) : R2 := fun x y H Q => ∃ p xs i v, x = .ref p ∧ y = .int i ∧ SqT K H p xs ∧ atI xs i = some v ∧ Q v H
theorem ix_list : IxR X (a0O X.K) := by
 intro value slice pins s σ H x y v u Q I rx ry h hs
 obtain ⟨p, xs, i, z, rfl, rfl, hq, he, q⟩ := h
 cases rx
 obtain ⟨t, rfl⟩ := ry
 obtain ⟨its, r, pl, hz⟩ := I.list hq
 obtain ⟨j, h1, h2, h3, h4, h5⟩ := a5k he
 obtain ⟨w, ew, rw'⟩ := r.get h2
 have hl := r.length
 have hn := Q9
 have fin : EP X pins σ Q w s := ⟨z, H, I, rw', q⟩
 by_cases h0 : 0 ≤ i
 ·have hj : i.toNat = j := by
   rw [seqIndex_of h0 h5] at h1
   exact Option.some.inj h1
  exact item_listR pl.isList h0 (by omega) (by rw [hj]; simpa using ew) fin hs
 ·have hj : (i + (its.toArray.size : Int)).toNat = j := by
   rw [seqIndex_neg (by omega) h4] at h1
   rw [List.size_toArray, ← hl]
   exact Option.some.inj h1
  exact subscriptTail_builtinR (x := w) pl.isList.typeIs slot_list_getitem.lookup
   (wpAny_getItem_list_neg (Q := fun r s' => r = w ∧ EP X pins σ Q r s') pl.isList (by omega) (by rw [List.size_toArray] <;> omega) (by omega) (by rw [hj]; simpa using ew) ⟨rfl, fin⟩) hs
theorem b0q : IxR X (a2v X.K) := by
 intro value slice pins s σ H x y v u Q I rx ry h hs
 obtain ⟨p, xs, i, z, rfl, rfl, hq, he, q⟩ := h
 cases rx
 obtain ⟨t, rfl⟩ := ry
 obtain ⟨its, r, pl, hz⟩ := I.tuple hq
 obtain ⟨j, h1, h2, h3, h4, h5⟩ := a5k he
 obtain ⟨w, ew, rw'⟩ := r.get h2
 have hl := r.length
 have hn := Q9
 have fin : EP X pins σ Q w s := ⟨z, H, I, rw', q⟩
 exact subscriptTail_builtinR (x := w) pl.typeIs slot_tuple_getitem.lookup
  (getItem_tuple (j := j) (Q := fun r s' => r = w ∧ EP X pins σ Q r s') pl (by omega) (by omega) (by rw [List.size_toArray, ← hl]; exact h1) (by simpa using ew) ⟨rfl, fin⟩) hs
theorem b0b (its : List Value) (n j : Nat) (u : Value) : Obj.mapSeq (·.setIfInBounds j u) { cls := .type "list", data := .seq its.toArray n } = { cls := .type "list", data := .seq (its.set j u).toArray n } := by
 simp [Obj.mapSeq]
theorem Inv.lst {pins : List (Addr × Obj)} {σ : St} {H : Hp} {s : Shared} {p : Addr} {xs : List V} (I : Inv X pins σ H s) (h : H p = some (.lst xs)) :
  ∃ (its : List Value) (n : Nat), Vals xs its ∧ s.heap.get? p = some { cls := .type "list", data := .seq its.toArray n } ∧ xs.length ≤ sizeLine := by
 obtain ⟨z, its, n, r, e⟩ := I.hok p _ h
 exact ⟨its, n, r, e, z⟩
theorem Inv.lstUpd {pins : List (Addr × Obj)} {σ : St} {H : Hp} {s : Shared} {p : Addr} {xs ys : List V} {its its' : List Value} {n n' : Nat} {f : Obj → Obj} (I : Inv X pins σ H s) (h : H p = some (.lst xs))
  (ho : s.heap.get? p = some { cls := .type "list", data := .seq its.toArray n }) (hf : f { cls := .type "list", data := .seq its.toArray n } = { cls := .type "list", data := .seq its'.toArray n' }) (r : Vals ys its') (hz : ys.length ≤ sizeLine) (t : Nat) :
  Inv X pins σ (upd H p (.lst ys)) { s with heap := s.heap.update p f, toks := t } := by
 have e : (s.heap.update p f).get? p = some { cls := .type "list", data := .seq its'.toArray n' } := by
  rw [Heap.get?_update_self f ho (by rw [hf] <;> rfl), hf]
 refine I.write (x := p) (e := p) (by rw [h]; trivial) (.inl rfl) (fun b u hb q => (Heap.get?_update_other _ _ (Ne.symm hb)).trans q) ⟨_, e⟩ ?_
 exact ⟨hz, its', n', r, e⟩
noncomputable def a5G : V → V → V → Hp → (Hp → Prop) → Prop := fun o i v H Q => ∃ p xs k j, o = .ref p ∧ i = .int k ∧ H p = some (.lst xs) ∧ ixN xs.length k = some j ∧ Q (upd H p (.lst (xs.set j v)))
theorem a7H : a45 X a5G := by
 intro pins s σ H o i v ov iv u Q I ro ri rv h
 obtain ⟨p, xs, k, j, rfl, rfl, hp, hj, q⟩ := h
 cases ro
 obtain ⟨t, rfl⟩ := ri
 obtain ⟨its, n, r, ho, hz⟩ := I.lst hp
 obtain ⟨h1, h2, h3, h4⟩ := a23 hj
 have hl := r.length
 have hn := Q9
 have I' : Inv X pins σ (upd H p (.lst (xs.set j v))) { s with heap := s.heap.update p (Obj.mapSeq (·.setIfInBounds j u)) } :=
  I.lstUpd hp ho (b0b its n j u) (r.set rv j) (by rw [List.length_set]; exact hz) s.toks
 by_cases h0 : 0 ≤ k
 ·have hk : k.toNat = j := by
   rw [seqIndex_of h0 h4] at h1
   exact Option.some.inj h1
  exact PySem.W.ki_setAt ho h0 (by omega) (by rw [List.size_toArray, ← hl]; exact h4) (by rw [hk]; exact ⟨_, I', q⟩)
 ·have hk : (k + (its.toArray.size : Int)).toNat = j := by
   rw [seqIndex_neg (by omega) h3] at h1
   rw [List.size_toArray, ← hl]
   exact Option.some.inj h1
  exact PySem.W.ki_setBack ho (by omega) (by rw [List.size_toArray, ← hl]; exact h3) (by omega) (by rw [hk]; exact ⟨_, I', q⟩)
theorem a5R (lo hi : Option Int) (n : Nat) : (sliceBounds lo hi none n).1 = ((HT.sIx n 0 lo : Nat) : Int) ∧ (sliceBounds lo hi none n).2.1 = ((HT.sIx n n hi : Nat) : Int) ∧ (sliceBounds lo hi none n).2.2 = 1 := by
 have key : ∀ i : Int, (sliceBounds (some i) none none n).1 = ((HT.sIx n 0 (some i) : Nat) : Int) := fun i => by
  simp only [sliceBounds, HT.sIx, Option.getD_none, show (1 : Int) > 0 by decide, if_true]
  by_cases h : i < 0
  ·simp only [h, if_true] <;> omega
  ·simp only [h, if_false] <;> omega
 refine ⟨?_, ?_, rfl⟩
 ·cases lo with
  | none => simp [sliceBounds, HT.sIx]
  | some i => exact key i
 ·cases hi with
  | none => simp [sliceBounds, HT.sIx]
  | some i => exact key i
theorem a9z (its : List Value) (lo hi : Option Int) : slicePick its.toArray lo hi none = ((its.drop (HT.sIx its.length 0 lo)).take (HT.sIx its.length its.length hi - HT.sIx its.length 0 lo)).toArray := by
 obtain ⟨h1, h2, h3⟩ := a5R lo hi its.toArray.size
 unfold slicePick
 rw [h1, h2, h3]
 simp only [sliceRange_one, pick_run, List.size_toArray] <;> rfl
noncomputable def a8B (K : PySem.W.Frag) : V → Option Int → Option Int → Hp → VK → Prop := fun x lo hi H Q => ∃ a xs, x = .ref a ∧ SqL K H a xs ∧ ∀ p, H p = none → Q (.ref p) (upd H p (.lst (D6 xs lo hi)))
theorem a36 : SlR X (a8B X.K) := by
 intro pins s σ H x v vl vu lo hi sl Q I rx hs pl pu h
 obtain ⟨a, xs, rfl, hx, q⟩ := h
 cases rx
 obtain ⟨its, r, ht, hz⟩ := I.list hx
 have hlen := r.length
 refine ⟨"list", _, slot_list_getitem.lookup, ht.isList.typeIs, ?_⟩
 refine wpAny_getItem_list_slice ht.isList hs pl pu .none (by simp) ?_ (by rw [List.size_toArray] <;> omega)
 rw [a9z, ← hlen]
 refine ⟨.ref s.heap.objs.size, _, I.laid (t' := s.toks) (o := .lst (D6 xs lo hi)) (fun b ob q => Heap.get?_push_of_some _ q) (Nat.le_refl _) ?_, rfl, q _ (I.hok.fresh (Nat.le_refl _))⟩
 exact ⟨Nat.le_trans (a49 xs lo hi) hz, _, 0, (r.drop (HT.sIx xs.length 0 lo)).take (HT.sIx xs.length xs.length hi - HT.sIx xs.length 0 lo), Heap.get?_push_size _ rfl⟩
theorem call_len_seq : CallR X (.builtin "len") (fun xs H Q => ∃ p ys, xs = [.ref p] ∧ (SqL X.K H p ys ∨ SqT X.K H p ys) ∧ Q (.int ys.length) H) := by
 intro pins s σ H xs us Q I r h
 obtain ⟨p, ys, rfl, hq, q⟩ := h
 obtain ⟨u, rfl, rx⟩ := Q6 r
 cases rx
 have hn := Q9
 rcases hq with hq | hq
 ·obtain ⟨its, r', pl, hz⟩ := I.list hq
  have hlen := r'.length
  exact Calls.call_len_list pl.isList (by simp only [List.size_toArray] <;> omega) ⟨.int ys.length, H, I.tok _, ⟨s.toks + 1, by rw [List.size_toArray, hlen]⟩, q⟩
 ·obtain ⟨its, r', pl, hz⟩ := I.tuple hq
  have hlen := r'.length
  exact len_tuple pl (by simp only [List.size_toArray] <;> omega) ⟨.int ys.length, H, I.tok _, ⟨s.toks + 1, by rw [List.size_toArray, hlen]⟩, q⟩
theorem a5W : CallR X (.builtin "len") (fun xs H Q => ∃ z, xs = [.str z] ∧ z.length ≤ sizeLine ∧ Q (.int z.length) H) := by
 intro pins s σ H xs us Q I r h
 obtain ⟨z, rfl, hz, q⟩ := h
 obtain ⟨u, rfl, t, rfl⟩ := Q6 r
 have hn := Q9
 exact len_str (by omega) ⟨.int z.length, H, I.tok _, ⟨_, rfl⟩, q⟩
theorem CallR.or {f : Value} {r r' : List V → Hp → VK → Prop} (h : CallR X f r) (h' : CallR X f r') : CallR X f (fun xs H Q => r xs H Q ∨ r' xs H Q) := by
 intro pins s σ H xs us Q I rs q
 rcases q with q | q
 ·exact h pins s σ H xs us Q I rs q
 ·exact h' pins s σ H xs us Q I rs q
theorem a30 : CallR X (.type "list") (fun xs H Q => ∃ p ys, xs = [.ref p] ∧ (SqL X.K H p ys ∨ SqT X.K H p ys) ∧ ∀ l, H l = none → Q (.ref l) (upd H l (.lst ys))) := by
 intro pins s σ H xs us Q I r h
 obtain ⟨p, ys, rfl, hq, q⟩ := h
 obtain ⟨u, rfl, rx⟩ := Q6 r
 cases rx
 have fin : ∀ (its : List Value), Vals ys its → ys.length ≤ sizeLine → ∀ (h' : Heap) (c' : Nat), (∀ b o', s.heap.get? b = some o' → h'.get? b = some o') →
   h'.get? s.heap.objs.size = some { cls := .type "list", dict := none, data := .seq its.toArray c', slots := #[] } → EP X pins σ Q (.ref s.heap.objs.size) { s with heap := h' } := fun its r' hz h' c' kp e =>
  ⟨.ref s.heap.objs.size, _, I.laid (t' := s.toks) kp (Nat.le_refl _) (show ObjOk X.prog X.w _ h' _ (.lst ys) from ⟨hz, its, c', r', e⟩), rfl, q _ (I.hok.fresh (Nat.le_refl _))⟩
 rcases hq with hq | hq
 ·obtain ⟨its, r', pl, hz⟩ := I.list hq
  have hlen := r'.length
  obtain ⟨o, ho, hc, n, hd⟩ := pl.isList
  exact call_list_seq p (.inl rfl) ho hc hd (fun h' c' kp e => fin its r' hz h' c' kp e) (by simp only [List.size_toArray] <;> omega)
 ·obtain ⟨its, r', pl, hz⟩ := I.tuple hq
  have hlen := r'.length
  obtain ⟨o, ho, hc, n, hd⟩ := pl
  exact call_list_seq p (.inr rfl) ho hc hd (fun h' c' kp e => fin its r' hz h' c' kp e) (by simp only [List.size_toArray] <;> omega)
theorem O7 : CallR X (.type "tuple") (fun xs H Q => ∃ p ys, xs = [.ref p] ∧ ((SqL X.K H p ys ∧ ∀ l, H l = none → Q (.ref l) (upd H l (.tup ys))) ∨ (SqT X.K H p ys ∧ Q (.ref p) H))) := by
 intro pins s σ H xs us Q I r h
 obtain ⟨p, ys, rfl, h⟩ := h
 obtain ⟨u, rfl, rx⟩ := Q6 r
 cases rx
 rcases h with ⟨hq, q⟩ | ⟨hq, q⟩
 ·obtain ⟨its, r', pl, hz⟩ := I.list hq
  have hlen := r'.length
  refine call_tuple_list pl.isList (fun h' kp => ?_) (by simp only [List.size_toArray] <;> omega)
  have I1 : Inv X pins σ H { s with heap := h' } := I.kept (t' := s.toks) kp
  have I2 : Inv X pins σ (upd H h'.objs.size (.tup ys)) { s with heap := h'.push { cls := .type "tuple", data := .seq its.toArray } } :=
   I1.laid (t' := s.toks) (fun b o e => Heap.get?_push_of_some _ e) (Nat.le_refl _) (show ObjOk X.prog X.w _ _ _ (.tup ys) from ⟨hz, its, r', IsTup.new _ _⟩)
  exact ⟨.ref h'.objs.size, _, I2, rfl, q _ (I1.hok.fresh (Nat.le_refl _))⟩
 ·obtain ⟨its, r', pl, hz⟩ := I.tuple hq
  exact call_tuple_same pl ⟨.ref p, H, I, rfl, q⟩
noncomputable def tyV (K : PySem.W.Frag) (T : String) (x : V) (H : Hp) : Prop := match x with
 | .str _ => T = "str"
 | .int _ => T = "int"
 | .ref p => (T = "list" ∧ ∃ xs, SqL K H p xs) ∨ (T = "tuple" ∧ ∃ o, K.lookup p = some o ∧ o.cls = .type "tuple" ∧ o.dict = none) ∨
   (T = "dict" ∧ ((∃ kvs, H p = some (.dK kvs)) ∨ ∃ kvs, H p = some (.dT kvs))) ∨ (T = "set" ∧ ∃ S n, H p = some (.set S n))
 | _ => False
theorem a8g {pins : List (Addr × Obj)} {σ : St} {H : Hp} {s : Shared} {T : String} {x : V} {v : Value} (I : Inv X pins σ H s) (r : RelV x v) (ty : tyV X.K T x H) :
  s.TypeIs v T ∧ ∀ a, v = .ref a → ∃ ob, s.heap.get? a = some ob ∧ ob.dict = none := by
 cases x with
 | str z =>
  obtain ⟨t, rfl⟩ := r
  cases (show T = "str" from ty)
  exact ⟨typeIs_str s z t, fun _ e => nomatch e⟩
 | int i =>
  obtain ⟨t, rfl⟩ := r
  cases (show T = "int" from ty)
  exact ⟨typeIs_int s i t, fun _ e => nomatch e⟩
 | ref p =>
  cases r
  rcases ty with ⟨rfl, xs, hq⟩ | ⟨rfl, o, hk, hc, hd⟩ | ⟨rfl, hk⟩ | ⟨rfl, S, n, hk⟩
  ·obtain ⟨its, _, pl, _⟩ := I.list hq
   refine ⟨pl.isList.typeIs, fun a e => ?_⟩
   cases e
   obtain ⟨o, n, e, c, hd, _⟩ := pl
   exact ⟨o, e, hd⟩
  ·refine ⟨⟨o, I.kIn p o hk, hc⟩, fun a e => ?_⟩
   cases e
   exact ⟨o, I.kIn _ o hk, hd⟩
  ·have z : ∃ o, s.heap.get? p = some o ∧ o.ExactDict := by
    rcases hk with ⟨kvs, hk⟩ | ⟨kvs, hk⟩
    ·obtain ⟨_, _, _, _, o, _, _, e, ex, _⟩ := I.hok p _ hk
     exact ⟨o, e, ex⟩
    ·obtain ⟨_, _, _, _, o, _, _, e, ex, _⟩ := I.hok p _ hk
     exact ⟨o, e, ex⟩
   obtain ⟨o, e, ex⟩ := z
   refine ⟨⟨o, e, ex.1⟩, fun a e2 => ?_⟩
   cases e2
   exact ⟨o, e, ex.2.1⟩
  ·obtain ⟨o, _, _, _, e, ex, _⟩ := I.hok p _ hk
   refine ⟨⟨o, e, ex.1⟩, fun a e2 => ?_⟩
   cases e2
   exact ⟨o, e, ex.2.1⟩
 | _ => exact False.elim ty
noncomputable def tBM (K : PySem.W.Frag) (T : String) (r : V → List V → Hp → VK → Prop) (to : TE) (t : TA) : TE := fun σ H Q => to σ H fun x H1 => tyV K T x H1 ∧ t σ H1 fun xs H2 => r x xs H2 Q
variable {o e : Expr} {es : List Expr} {to : TE} {t : TA} {name : Str} {apos cpos : Pos} {T id : String} {r : V → List V → Hp → VK → Prop}
theorem a6a (pa : PlainAttrs T) (slot : Slot T name id) (hty : typeOf (.builtin id) = pure (.type "method_descriptor")) (hm : MtR X id r) (ho : PE X o to) (ha : PA X (e :: es) t)
  (hbase : attributeBase o name X.env (eval o X.env) = eval o X.env := by rfl)
  (hfew : ((backTo cpos (starEach (e :: es) X.env)).all (fun x => !x.1) && (backToKw cpos (keywordEach [] X.env)).all (fun x => x.1.isSome)
   && decide ((e :: es).length + ([] : List Keyword).length + (if ([] : List Keyword).isEmpty then 0 else 1) < 30)) = true := by rfl)
  (hline : (apos.endLine == cpos.line) = true := by rfl) (hs : starEach (e :: es) X.env = (false, eval e X.env) :: starEach es X.env := by rfl) (hplain : (backTo cpos (starEach es X.env)).any (·.1) = false := by rfl) :
  PE X (.Call (.Attribute o name apos) (e :: es) [] cpos) (tBM X.K T r to t) := by
 intro pins s σ H Q I h
 refine wpAny_Call_method_late hbase hfew hline rfl (thn (ho pins s σ H _ I h) fun v s1 ⟨x, H1, I1, r1, ty, q1⟩ => ?_)
 obtain ⟨h1, h2⟩ := a8g I1 r1 ty
 refine ⟨T, id, pa, slot, hty, h1, h2, ?_⟩
 have hA := ha cpos pins s1 σ H1 _ I1 q1
 rw [hs] at hA ⊢
 refine Calls.callWith_builtin (by show (false || (backTo cpos (starEach es X.env)).any (·.1)) = false; rw [hplain] <;> rfl) (Calls.evalArgs_plain ?_)
 exact thn hA fun us s2 ⟨vs, H2, I2, r2, q2⟩ => hm pins s2 σ H2 x vs v us Q I2 r1 r2 q2
end
noncomputable def MtM (X : Cx) (id : String) (r : V → List V → Hp → VK → Prop) : Prop :=
 ∀ (pins : List (Addr × Obj)) (s : Shared) (σ : St) (H : Hp) (x : V) (xs : List V) (v : Value) (us : List Value) (Q : VK), Inv X pins σ H s → RelV x v → Vals xs us → r x xs H Q →
  wpAny (model X.prog X.w) X.A (call (.builtin id) (v :: us)) (EP X pins σ Q) X.xe s
theorem Vals.one : ∀ {x : V} {us : List Value}, Vals [x] us → ∃ u, us = [u] ∧ RelV x u := by
 intro x us h
 cases h with
 | cons r t =>
  cases t
  exact ⟨_, rfl, r⟩
theorem Vals.reverse {xs : List V} {us : List Value} (h : Vals xs us) : Vals xs.reverse us.reverse := by
 induction h with
 | nil => exact .nil
 | cons r t ih => rw [List.reverse_cons, List.reverse_cons]; exact Vals.append ih (.cons r .nil)
theorem Vals.rep {xs : List V} {us : List Value} (h : Vals xs us) : ∀ k : Nat, Vals (List.replicate k xs).flatten (List.replicate k us).flatten
 | 0 => .nil
 | k + 1 => by
  rw [List.replicate_succ, List.replicate_succ, List.flatten_cons, List.flatten_cons]
  exact Vals.append h (Vals.rep h k)
theorem a4U (its : List Value) : ∀ (k : Nat) (acc : List Value),
  List.foldl (fun x1 x2 => x1 ++ x2) acc.toArray (List.replicate k its.toArray) = (acc ++ (List.replicate k its).flatten).toArray
 | 0, acc => by simp
 | k + 1, acc => by
  have e : acc.toArray ++ its.toArray = (acc ++ its).toArray := by simp
  have e2 : (acc ++ its) ++ (List.replicate k its).flatten = acc ++ (List.replicate (k + 1) its).flatten := by
   rw [List.replicate_succ, List.flatten_cons, List.append_assoc]
  rw [← e2, ← a4U its k (acc ++ its), ← e, List.replicate_succ, List.foldl_cons]
section
variable {X : Cx} {pins : List (Addr × Obj)} {σ : St} {H : Hp} {s : Shared} {l b : Addr} {xs ys zs : List V}
theorem Inv.lset {its its' : List Value} {n : Nat} {f : Array Value → Array Value} {t' : Nat} (I : Inv X pins σ H s) (hH : H l = some (.lst xs))
  (e : s.heap.get? l = some { cls := .type "list", data := .seq its.toArray n }) (hf : f its.toArray = its'.toArray) (hv : Vals ys its') (hz : ys.length ≤ sizeLine) :
  Inv X pins σ (upd H l (.lst ys)) { s with heap := s.heap.update l (Obj.mapSeq f), toks := t' } := by
 have q := PySem.IsL.update e f
 rw [hf] at q
 refine I.write (x := l) (e := l) (by rw [hH]; exact trivial) (.inl rfl) (fun b' u hb hu => (Heap.get?_update_other s.heap (Obj.mapSeq f) (Ne.symm hb)).trans hu) ⟨_, q⟩ ?_
 exact ⟨hz, its', _, hv, q⟩
theorem Inv.lnew {its : List Value} {t' : Nat} (I : Inv X pins σ H s) (hv : Vals ys its) (hz : ys.length ≤ sizeLine) :
  Inv X pins σ (upd H s.heap.objs.size (.lst ys)) { s with heap := s.heap.push { cls := .type "list", data := .seq its.toArray }, toks := t' } :=
 I.laid (fun _ _ q => Heap.get?_push_of_some _ q) (Nat.le_refl _) ⟨hz, its, 0, hv, Heap.get?_push_size _ rfl⟩
theorem Inv.fresh (I : Inv X pins σ H s) : H s.heap.objs.size = none := I.hok.fresh (Nat.le_refl _)
theorem Inv.lstM (I : Inv X pins σ H s) (hH : H l = some (.lst xs)) : xs.length ≤ sizeLine ∧ ∃ (its : List Value) (n : Nat), Vals xs its ∧ xs.length = its.length ∧ s.heap.get? l = some { cls := .type "list", data := .seq its.toArray n } := by
 obtain ⟨z, its, n, r, e⟩ := I.hok l _ hH
 exact ⟨z, its, n, r, r.length, e⟩
theorem a51 {n : Nat} (h : n ≤ sizeLine) : Builtin.List.listTooLong n = false := by
 unfold Builtin.List.listTooLong
 exact decide_eq_false (by omega)
end
section
variable {X : Cx}
noncomputable def a63 : V → List V → Hp → VK → Prop := fun x vs H Q => ∃ l xs y, x = .ref l ∧ vs = [y] ∧ H l = some (.lst xs) ∧ xs.length < sizeLine ∧ Q .non (upd H l (.lst (xs ++ [y])))
theorem a27 : MtM X "list.append" a63 := by
 intro pins s σ H x vs v us Q I rx rv h
 obtain ⟨l, xs, y, rfl, rfl, hH, hz, q⟩ := h
 cases rx
 obtain ⟨u, rfl, ru⟩ := rv.one
 obtain ⟨z, its, n, r, hl, e⟩ := I.lstM hH
 refine call_meets F.slot_list_append ⟨_, e, rfl⟩ F.entry_list_append (F.args_list_append_2 _ _) (PySem.list_append l its.toArray n u (by rw [List.size_toArray]; omega)) ⟨e, ?_⟩
 refine ⟨.non, _, I.lset (its' := its ++ [u]) hH e (by simp) (r.append (.cons ru .nil)) ?_, rfl, q⟩
 rw [List.length_append, List.length_singleton]
 omega
noncomputable def a2x : R2 := fun x y H Q => ∃ l b xs zs, x = .ref l ∧ y = .ref b ∧ H l = some (.lst xs) ∧ H b = some (.lst zs) ∧ xs.length + zs.length ≤ sizeLine ∧ ∀ p, H p = none → Q (.ref p) (upd H p (.lst (xs ++ zs)))
theorem U6 : OpR X (binaryOp .Add) a2x := by
 intro pins s σ H x y v u Q I rx ry h
 obtain ⟨l, b, xs, zs, rfl, rfl, hH, hB, hz, q⟩ := h
 cases rx
 cases ry
 obtain ⟨z, its, n, r, hl, e⟩ := I.lstM hH
 obtain ⟨z2, its2, n2, r2, hl2, e2⟩ := I.lstM hB
 refine PySem.P.add_list e e2 ?_ (by rw [List.size_toArray, List.size_toArray]; omega)
 have ea : its.toArray ++ its2.toArray = (its ++ its2).toArray := by simp
 rw [ea]
 exact ⟨.ref _, _, I.lnew (t' := s.toks) (r.append r2) (by rw [List.length_append]; omega), rfl, q _ I.fresh⟩
noncomputable def a4B : R2 := fun x y H Q => ∃ l k xs, x = .ref l ∧ y = .int k ∧ H l = some (.lst xs) ∧ -(2 ^ 63) ≤ k ∧ k < 2 ^ 63 ∧ xs.length * k.toNat ≤ sizeLine ∧
 ∀ p, H p = none → Q (.ref p) (upd H p (.lst (List.replicate k.toNat xs).flatten))
theorem a6z {α : Type} (xs : List α) (k : Nat) : (List.replicate k xs).flatten.length = k * xs.length := by
 induction k with
 | zero => simp
 | succ k ih => rw [List.replicate_succ, List.flatten_cons, List.length_append, ih, Nat.succ_mul, Nat.add_comm]
theorem b0o : OpR X (binaryOp .Mult) a4B := by
 intro pins s σ H x y v u Q I rx ry h
 obtain ⟨l, k, xs, rfl, rfl, hH, h1, h2, hz, q⟩ := h
 cases rx
 obtain ⟨t, rfl⟩ := ry
 obtain ⟨z, its, n, r, hl, e⟩ := I.lstM hH
 have hlen : its.toArray.size * k.toNat ≤ sizeLine := by rw [List.size_toArray, ← hl]; exact hz
 have hcap : ¬ its.toArray.size * k.toNat > (2 ^ 63 - 1) / 8 := by
  have : (sizeLine : Nat) ≤ (2 ^ 63 - 1) / 8 := by decide
  omega
 have hfit : ¬ (!Builtin.List.listFitsIndex k) = true := by
  rw [fitsIndex_both h1 h2]
  exact Bool.false_ne_true
 have hlong : ¬ Builtin.List.listTooLong (its.toArray.size * k.toNat) = true := by
  rw [a51 hlen]
  exact Bool.false_ne_true
 have hnew : List.foldl (fun x1 x2 => x1 ++ x2) #[] (List.replicate (if its.toArray.isEmpty = true then 0 else k.toNat) its.toArray) = (List.replicate k.toNat its).flatten.toArray := by
  have f0 : ∀ m : Nat, List.foldl (fun x1 x2 => x1 ++ x2) #[] (List.replicate m its.toArray) = (List.replicate m its).flatten.toArray := fun m => by
   have := a4U its m []
   rw [List.nil_append] at this
   exact this
  rw [f0]
  cases its with
  | nil => simp
  | cons a r' => rw [if_neg (by simp)]
 refine wpAny_binaryOp_repeat_ref (T := "list") (U := "int") (by decide) ⟨_, e, rfl⟩ (fun s' => typeIs_int s' k t) noFill_list_mul F.fills_int_mul F.slot_int_rmul repeat_list F.slot_int_index.lookup
  (call_meets F.slot_int_rmul (typeIs_int s k t) F.entry_int_rmul (F.args_int_rmul_2 _ _) (int___rmul___int_list k t l its.toArray n)
   ⟨e, rfl, ⟨_, e, rfl⟩, call_meets F.slot_list_mul ⟨_, e, rfl⟩ F.entry_list_mul (F.args_list_mul_2 _ _) (AutoListH.list___mul___list_int_3 l its.toArray n k t hfit hcap hlong) ⟨e, ?_⟩⟩)
 rw [hnew]
 exact ⟨.ref _, _, I.lnew (t' := s.toks) (r.rep k.toNat) (by rw [a6z, Nat.mul_comm]; exact hz), rfl, q _ I.fresh⟩
end
section
variable {κ : Type} [DecidableEq κ]
noncomputable def t6 (kvs : List (κ × V)) (k : κ) : Option V := (kvs.find? fun kv => decide (kv.1 = k)).map (·.2)
noncomputable def F1 (kvs : List (κ × V)) (k : κ) (v : V) : List (κ × V) :=
 if (kvs.any fun kv => decide (kv.1 = k)) = true then kvs.map (fun kv => if kv.1 = k then (kv.1, v) else kv) else kvs ++ [(k, v)]
theorem C9 {p : κ × V} {r : List (κ × V)} {k : κ} (e : p.1 = k) : t6 (p :: r) k = some p.2 := by simp [t6, List.find?_cons, e]
theorem D1 {p : κ × V} {r : List (κ × V)} {k : κ} (e : ¬ p.1 = k) : t6 (p :: r) k = t6 r k := by simp [t6, List.find?_cons, e]
theorem a2j (k : κ) : ∀ kvs : List (κ × V), (kvs.any fun kv => decide (kv.1 = k)) = (t6 kvs k).isSome
 | [] => rfl
 | p :: r => by
  rw [List.any_cons]
  by_cases e : p.1 = k
  ·simp only [C9 e, decide_eq_true e, Bool.true_or, Option.isSome_some]
  ·rw [D1 e, decide_eq_false e, Bool.false_or]; exact a2j k r
theorem a5b (k j : κ) (y : V) : ∀ kvs : List (κ × V), t6 (kvs.map fun kv => if kv.1 = k then (kv.1, y) else kv) j = (t6 kvs j).map fun x => if j = k then y else x
 | [] => rfl
 | p :: r => by
  have ih := a5b k j y r
  rw [List.map_cons]
  by_cases h : p.1 = k
  ·rw [if_pos h]
   by_cases e : p.1 = j
   ·rw [C9 (p := (p.1, y)) e, C9 e, Option.map_some, if_pos (e.symm.trans h)]
   ·rw [D1 (p := (p.1, y)) e, D1 e, ih]
  ·rw [if_neg h]
   by_cases e : p.1 = j
   ·rw [C9 (p := p) e, C9 e, Option.map_some, if_neg (fun z => h (e.trans z))]
   ·rw [D1 (p := p) e, D1 e, ih]
theorem a5c (k j : κ) (y : V) : ∀ kvs : List (κ × V), t6 kvs k = none → t6 (kvs ++ [(k, y)]) j = if j = k then some y else t6 kvs j
 | [], _ => by
  by_cases e : k = j
  ·rw [if_pos e.symm]; exact C9 (p := (k, y)) e
  ·rw [if_neg (fun z => e z.symm)]; exact D1 (p := (k, y)) e
 | p :: r, hn => by
  rw [List.cons_append]
  have hk : ¬ p.1 = k := fun z => by rw [C9 z] at hn; cases hn
  rw [D1 hk] at hn
  have ih := a5c k j y r hn
  by_cases e : p.1 = j
  ·rw [C9 e, C9 e, if_neg (fun z => hk (e.trans z))]
  ·rw [D1 e, D1 e, ih]
theorem a91 (kvs : List (κ × V)) (k j : κ) (y : V) : t6 (F1 kvs k y) j = if j = k then some y else t6 kvs j := by
 unfold F1
 by_cases a : (kvs.any fun kv => decide (kv.1 = k)) = true
 ·rw [if_pos a, a5b]
  rw [a2j] at a
  by_cases e : j = k
  ·obtain ⟨x, hx⟩ := Option.isSome_iff_exists.mp a
   rw [if_pos e, e, hx, Option.map_some, if_pos rfl]
  ·rw [if_neg e]
   cases t6 kvs j with
   | none => rfl
   | some x => rw [Option.map_some, if_neg e]
 ·rw [if_neg a]
  refine a5c k j y kvs ?_
  rw [a2j] at a
  cases q : t6 kvs k with
  | none => rfl
  | some x => rw [q] at a; exact (a rfl).elim
theorem a5A (kvs : List (κ × V)) (k : κ) (v : V) : (F1 kvs k v).length ≤ kvs.length + 1 := by
 unfold F1
 split
 ·rw [List.length_map]; omega
 ·rw [List.length_append, List.length_cons, List.length_nil]; omega
theorem KV.val {kvs : List (κ × V)} {vs : List (κ × Value)} (r : KV kvs vs) (k : κ) : RelO (t6 kvs k) (valueAt vs k) := by
 unfold KV at r
 induction r with
 | nil => exact True.intro
 | @cons p q ps qs h t ih =>
  obtain ⟨h1, h2⟩ := h
  by_cases e : p.1 = k
  ·have e' : q.1 = k := h1.symm.trans e
   have b : valueAt (q :: qs) k = some q.2 := by simp [valueAt, List.find?_cons, e']
   rw [C9 e, b]; exact h2
  ·have e' : ¬ q.1 = k := fun z => e (h1.trans z)
   have b : valueAt (q :: qs) k = valueAt qs k := by simp [valueAt, List.find?_cons, e']
   rw [D1 e, b]; exact ih
theorem KV.any {kvs : List (κ × V)} {vs : List (κ × Value)} (r : KV kvs vs) (k : κ) : (kvs.any fun kv => decide (kv.1 = k)) = vs.any fun kv => decide (kv.1 = k) := by
 unfold KV at r
 induction r with
 | nil => rfl
 | cons h t ih => rw [List.any_cons, List.any_cons, ih, h.1]
theorem KV.repl {kvs : List (κ × V)} {vs : List (κ × Value)} (r : KV kvs vs) (k : κ) {y : V} {u : Value} (ry : RelV y u) :
  KV (kvs.map fun kv => if kv.1 = k then (kv.1, y) else kv) (vs.map fun kv => if kv.1 = k then (kv.1, u) else kv) := by
 unfold KV at r ⊢
 induction r with
 | nil => exact .nil
 | @cons p q ps qs h t ih =>
  rw [List.map_cons, List.map_cons]
  refine .cons ?_ ih
  obtain ⟨h1, h2⟩ := h
  by_cases e : p.1 = k
  ·rw [if_pos e, if_pos (h1.symm.trans e)]; exact ⟨h1, ry⟩
  ·rw [if_neg e, if_neg (fun z => e (h1.trans z))]; exact ⟨h1, h2⟩
theorem KV.put {kvs : List (κ × V)} {vs : List (κ × Value)} (r : KV kvs vs) (k : κ) {y : V} {u : Value} (ry : RelV y u) : KV (F1 kvs k y) (stored vs k u) := by
 unfold F1 stored
 rw [r.any k]
 by_cases e : (vs.any fun kv => decide (kv.1 = k)) = true
 ·rw [if_pos e, if_pos e]; exact r.repl k ry
 ·rw [if_neg e, if_neg e]; exact Paired.snoc r ⟨rfl, ry⟩
end
theorem W7 {P : Program} {w : World} {k : Key} {u : Value} (r : RelV (kV k) u) : (A0 P w).is k u = true := by
 cases k with
 | inl i => obtain ⟨t, e⟩ := (show ∃ t, u = Value.int i t from r); subst e; exact a8u P w i t
 | inr x => obtain ⟨t, e⟩ := (show ∃ t, u = Value.str x t from r); subst e; exact a92 P w x t
theorem a47 {P : Program} {w : World} : ∀ {ks : List Key} {us : List Value}, Vals (ks.map kV) us → ItemsAre (A0 P w) ks us
 | [], _, r => by rw [List.map_nil] at r; cases r; exact .nil
 | k :: ks, _, r => by
  rw [List.map_cons] at r
  cases r with
  | cons h t => exact .cons (W7 h) (a47 t)
noncomputable abbrev KT (H : Hp) : List (List Key × V) → List (List Key × Addr × Value) → Prop := Paired fun p q => p.1 = q.1 ∧ H q.2.1 = some (.tup (p.1.map kV)) ∧ RelV p.2 q.2.2
theorem KT.val {H : Hp} {kvs : List (List Key × V)} {xs : List (List Key × Addr × Value)} (r : KT H kvs xs) (k : List Key) : RelO (t6 kvs k) ((atKey xs k).map (·.2)) := by
 induction r with
 | nil => exact True.intro
 | @cons p q ps qs h t ih =>
  obtain ⟨h1, _, h2⟩ := h
  by_cases e : p.1 = k
  ·have e' : q.1 = k := h1.symm.trans e
   have b : atKey (q :: qs) k = some q.2 := by simp [atKey, List.find?_cons, e']
   rw [C9 e, b]; exact h2
  ·have e' : ¬ q.1 = k := fun z => e (h1.trans z)
   have b : atKey (q :: qs) k = atKey qs k := by simp [atKey, List.find?_cons, e']
   rw [D1 e, b]; exact ih
section
variable {P : Program} {w : World} {H : Hp} {h : Heap} {a : Addr}
theorem a3Q {u : HO} (ok : HOk P w H h) (e : Rd H a u) : ObjOk P w H h a u := e.ok ok
theorem a2d {kvs : List (Key × V)} (ok : HOk P w H h) (e : Rd H a (.dK kvs)) : kvs.length ≤ sizeLine ∧ (a == sysModules) = false ∧ ∃ vs, KV kvs vs ∧ h.DictOf (A0 P w) a vs :=
 show ObjOk P w H h a (.dK kvs) from a3Q ok e
theorem a8D {kvs : List (Key × V)} (ok : HOk P w H h) (e : H a = some (.dK kvs)) : kvs.length ≤ sizeLine ∧ (a == sysModules) = false ∧ ∃ vs, KV kvs vs ∧ h.DictOf (A0 P w) a vs := a2d ok (.inl e)
theorem a3E {ks : List Key} (ok : HOk P w H h) (e : H a = some (.tup (ks.map kV))) : (tupleKind (A0 P w)).is h ks a := by
 obtain ⟨_, its, r, o, h1, h2, n, h3⟩ := (show ObjOk P w H h a (.tup (ks.map kV)) from ok a _ e)
 exact ⟨o, its.toArray, n, h1, h2, h3, by simpa using a47 r⟩
theorem a3n {kvs : List (List Key × V)} (ok : HOk P w H h) (e : Rd H a (.dT kvs)) : kvs.length ≤ sizeLine ∧ (a == sysModules) = false ∧
  ∃ xs, KT H kvs xs ∧ h.DictOfH (tupleKind (A0 P w)) a xs := by
 obtain ⟨z, y, xs, r, o, es, ep, h1, h2, h3, h4, h5⟩ := (show ObjOk P w H h a (.dT kvs) from a3Q ok e)
 refine ⟨z, y, xs, r, o, es, ep, h1, h2, h3, h4, fun x hx => ?_, h5⟩
 have all : ∀ {l : List (List Key × V)} {m : List (List Key × Addr × Value)}, KT H l m → ∀ x ∈ m, (tupleKind (A0 P w)).is h x.1 x.2.1 := by
  intro l m q
  induction q with
  | nil => intro x hx; exact nomatch hx
  | @cons p q ps qs hq t ih =>
   intro x hx
   rcases List.mem_cons.mp hx with e | hx
   ·subst e
    exact a3E ok (by rw [← hq.1]; exact hq.2.1)
   ·exact ih x hx
 exact all r x hx
end
noncomputable def DGet (H : Hp) (a : Addr) (y : V) (r : Option V) : Prop :=
 (∃ kvs k, Rd H a (.dK kvs) ∧ y = kV k ∧ r = t6 kvs k) ∨ ∃ kvs k b, Rd H a (.dT kvs) ∧ y = .ref b ∧ H b = some (.tup (k.map kV)) ∧ r = t6 kvs k
theorem DGet.k {H : Hp} {a : Addr} {kvs : List (Key × V)} {k : Key} (e : H a = some (.dK kvs)) : DGet H a (kV k) (t6 kvs k) := .inl ⟨kvs, k, .inl e, rfl, rfl⟩
section
variable {X : Cx} {pins : List (Addr × Obj)} {σ : St} {H : Hp} {s : Shared} {a : Addr} {y v : V} {u r : Value} {o : Option V} {A : Around} {E : Value → Shared → Prop}
theorem Inv.big (I : Inv X pins σ H s) : sysModules < s.heap.objs.size := by
 have h : mainGlobals < s.heap.objs.size := (I.mod.glob.keeps I.bk).lt
 exact Nat.lt_trans (by decide) h
theorem a7i {Q : Value → Shared → Prop} (hu : A.units + 1 < cLine) (I : Inv X pins σ H s) (g : DGet H a y (some v)) (ry : RelV y u) (h : ∀ w' s', Inv X pins σ H s' → RelV v w' → Q w' s') :
  wpAny (model X.prog X.w) A (getItem (.ref a) u) Q E s := by
 rcases g with ⟨kvs, k, e, ey, l⟩ | ⟨kvs, k, b, e, ey, eb, l⟩
 ·subst ey
  obtain ⟨z, hd, vs, rel, dd⟩ := a2d I.hok e
  obtain ⟨w', hw, rw'⟩ := RelO.some_of (v := v) (o := valueAt vs k) (by rw [l]; exact rel.val k)
  exact wpAny_getItem_of (W7 ry) dd.mapOf hw (h w' _ (I.tok _) rw')
 ·subst ey
  cases (show u = Value.ref b from ry)
  obtain ⟨z, hd, xs, rel, dd⟩ := a3n I.hok e
  obtain ⟨w', hw, rw'⟩ := RelO.some_of (v := v) (o := (atKey xs k).map (·.2)) (by rw [l]; exact rel.val k)
  obtain ⟨p, hp, hp2⟩ := Option.map_eq_some_iff.mp hw
  refine wpAny_getItem_heap (tupleKind_room_in1 hu) (a3E I.hok eb) dd hp ?_
  rw [hp2]
  exact h w' _ (I.tok _) rw'
theorem a6D {h' : Heap} {t' : Nat} {ob : HO} (I : Inv X pins σ H s) (mu : Mut (H a)) (hs : Heap.SameBut a s.heap h') (he : ∃ q, h'.get? a = some q) (new : ObjOk X.prog X.w (upd H a ob) h' a ob) :
  Inv X pins σ (upd H a ob) { s with heap := h', toks := t' } :=
 I.write (x := a) (e := a) mu (.inl rfl) (fun b q hb z => (hs.2 b hb).trans z) he new
theorem b0e {P : Program} {w : World} {H' : Hp} {h' : Heap} {kvs : List (Key × V)} {vs : List (Key × Value)} (z : kvs.length ≤ sizeLine) (hd : (a == sysModules) = false) (rel : KV kvs vs) (dd : h'.DictOf (A0 P w) a vs) :
  ObjOk P w H' h' a (.dK kvs) := ⟨z, hd, vs, rel, dd⟩
end
noncomputable def Z8 (i : Expr) : Prop := ∀ ov iv, subscripted i false ov iv = operate [ov, iv] (getItem ov iv)
theorem a3f {prog : Program} {w : World} {A : Around} {E : Value → Shared → Prop} {s : Shared} {env : Env} {value slice : Expr} {pos : Pos} {T id : String} {Q : Value → Shared → Prop}
  (hl : typeLookup (.type T) "__getitem__" = pure (some (.builtin id))) (hs : Z8 slice)
  (h : wpAny (model prog w) A (eval value env) (fun o s₁ => wpAny (model prog w) A (eval slice env) (fun i s₂ => s₂.TypeIs o T ∧ wpAny (model prog w) A (getItem o i) Q E s₂) E s₁) E s) :
  wpAny (model prog w) A (eval (.Subscript value slice pos) env) Q E s := by
 refine Subscript_ (wpAny_mono h (fun o s₁ h₁ => wpAny_mono h₁ (fun i s₂ h₂ => ?_) fun _ _ x => x) fun _ _ x => x)
 obtain ⟨hT, h₂⟩ := h₂
 unfold subscriptTail
 refine wpAny_bind ?_
 rw [getitemInPython_of_ne hT.not_modules]
 refine wpAny_bind (wpAny_specialOf hT hl ?_)
 have fin : wpAny (model prog w) A (subscripted slice false o i) (fun r s₃ => wpAny (model prog w) A (letTemporaryGo value o r >>= fun _ => pure r) Q E s₃) E s₂ := by
  rw [hs o i]
  exact wpAny_operating (wpAny_mono h₂ (fun r s₃ h₃ => wpAny_bind (wpAny_letTemporaryGo (wpAny_pure h₃))) fun _ _ x => x)
 first
  | exact wpAny_pure (wpAny_bind fin)
  | exact wpAny_bind (wpAny_pure (wpAny_bind fin))
  | exact wpAny_bind fin
theorem a6q {X : Cx} {pins : List (Addr × Obj)} {σ : St} {H : Hp} {s : Shared} {a : Addr} {y : V} {o : Option V} (I : Inv X pins σ H s) (g : DGet H a y o) : s.TypeIs (.ref a) "dict" := by
 rcases g with ⟨kvs, k, e, _, _⟩ | ⟨kvs, k, b, e, _, _, _⟩
 ·obtain ⟨_, _, vs, _, dd⟩ := a2d I.hok e
  exact dd.typeIs
 ·obtain ⟨_, _, xs, _, dd⟩ := a3n I.hok e
  exact dd.typeIs
noncomputable def a9T (td ty : TE) : TE := fun σ H Q => td σ H fun x H1 => ty σ H1 fun y H2 => ∃ a v, x = .ref a ∧ DGet H2 a y (some v) ∧ Q v H2
section
variable {X : Cx} {o i e value : Expr} {pos pos' tpos : Pos} {td ty tv : TE}
theorem a69 (hu : X.A.units + 1 < cLine) (ho : PE X o td) (hi : PE X i ty) (hs : Z8 i) : PE X (.Subscript o i pos) (a9T td ty) := by
 intro pins s σ H Q I h
 refine a3f PySem.F.slot_dict_getitem.lookup hs (thn (ho pins s σ H _ I h) fun u s1 ⟨x, H1, I1, rx, q1⟩ => thn (hi pins s1 σ H1 _ I1 q1) fun iv s2 ⟨y, H2, I2, ry, a, v, ex, g, q2⟩ => ?_)
 subst ex
 obtain rfl : u = Value.ref a := rx
 exact ⟨a6q I2 g, a7i hu I2 g ry fun w' s3 I3 rw' => ⟨v, H2, I3, rw', q2⟩⟩
end
theorem a55 {P : Program} {w : World} {H : Hp} (h : Heap) (hb : sysModules < h.objs.size) : ObjOk P w H (h.push { cls := .type "dict", data := .dict #[] }) h.objs.size (.dK []) :=
 ⟨Nat.zero_le _, beq_eq_false_iff_ne.mpr (Ne.symm (Nat.ne_of_lt hb)), [], .nil, Heap.DictOf.new h⟩
noncomputable def Y9 : List (TE × TE) → St → Hp → (List (V × V) → Hp → Prop) → Prop
 | [], _, H, Q => Q [] H
 | (tk, tv) :: r, σ, H, Q => tk σ H fun x H1 => tv σ H1 fun y H2 => Y9 r σ H2 fun ps H3 => Q ((x, y) :: ps) H3
noncomputable abbrev VV : List (V × V) → List (Value × Value) → Prop := Paired fun p q => RelV p.1 q.1 ∧ RelV p.2 q.2
noncomputable def PPs (X : Cx) (pos : Pos) (keys : List (Option Expr)) (values : List Expr) (trs : List (TE × TE)) : Prop :=
 ∀ (pins : List (Addr × Obj)) (s : Shared) (σ : St) (H : Hp) (Q : List (V × V) → Hp → Prop), Inv X pins σ H s → Y9 trs σ H Q →
  wpAny (model X.prog X.w) X.A (evalPairs (pairTrees keys values X.env pos)) (fun vs s' => ∃ ps H', Inv X pins σ H' s' ∧ VV ps vs ∧ Q ps H') X.xe s
theorem a96 {X : Cx} {pos : Pos} : PPs X pos [] [] [] := fun pins s σ H Q I h => pairTrees_nil_walk ⟨[], H, I, .nil, h⟩
theorem a0f {X : Cx} {pos : Pos} {k v : Expr} {ks : List (Option Expr)} {vs : List Expr} {tk tv : TE} {trs : List (TE × TE)} (hk : PE X k tk) (hv : PE X v tv) (hr : PPs X pos ks vs trs) :
  PPs X pos (some k :: ks) (v :: vs) ((tk, tv) :: trs) := fun pins s σ H Q I h =>
 pairTrees_cons_walk (thn (hk pins s σ H _ I h) fun u s1 ⟨x, H1, I1, rx, q1⟩ => thn (hv pins s1 σ H1 _ I1 q1) fun w2 s2 ⟨y, H2, I2, ry, q2⟩ =>
  thn (hr pins s2 σ H2 _ I2 q2) fun ws s3 ⟨ps, H3, I3, rel, q3⟩ => ⟨(x, y) :: ps, H3, I3, .cons ⟨rx, ry⟩ rel, q3⟩)
noncomputable def F8 (kvs more : List (Key × V)) : List (Key × V) := more.foldl (fun acc kv => F1 acc kv.1 kv.2) kvs
theorem KV.merge : ∀ {more : List (Key × V)} {rs : List (Key × Value)} {kvs : List (Key × V)} {vs : List (Key × Value)}, KV more rs → KV kvs vs → KV (F8 kvs more) (merged vs rs) := by
 intro more rs kvs vs r
 unfold KV at r
 induction r generalizing kvs vs with
 | nil => intro q; exact q
 | @cons p q ps qs h t ih =>
  intro r0
  have e : KV (F1 kvs p.1 p.2) (stored vs q.1 q.2) := by
   have := r0.put p.1 h.2
   rw [← h.1]; exact this
  exact ih e
theorem a3G : ∀ (more kvs : List (Key × V)), (F8 kvs more).length ≤ kvs.length + more.length
 | [], kvs => by show kvs.length ≤ kvs.length + 0; omega
 | p :: r, kvs => by
  have h1 := a3G r (F1 kvs p.1 p.2)
  have h2 := a5A kvs p.1 p.2
  show (F8 (F1 kvs p.1 p.2) r).length ≤ _
  rw [List.length_cons]; omega
theorem a3U {P : Program} {w : World} : ∀ {kvs : List (Key × V)} {ws : List (Value × Value)}, VV (kvs.map fun kv => (kV kv.1, kv.2)) ws → ∃ rs, Carries (A0 P w) ws rs ∧ KV kvs rs
 | [], _, r => by rw [List.map_nil] at r; cases r; exact ⟨[], True.intro, .nil⟩
 | p :: kvs, _, r => by
  rw [List.map_cons] at r
  cases r with
  | @cons a b as bs h t =>
   obtain ⟨rs, c, q⟩ := a3U (P := P) (w := w) t
   obtain ⟨b1, b2⟩ := b
   exact ⟨(p.1, b2) :: rs, ⟨W7 h.1, rfl, c⟩, .cons ⟨rfl, h.2⟩ q⟩
noncomputable def a73 (trs : List (TE × TE)) : TE := fun σ H Q => ∀ p, H p = none → Y9 trs σ (upd H p (.dK [])) fun ps H2 => H2 p = some (.dK []) ∧ ∃ kvs : List (Key × V), ps = kvs.map (fun kv => (kV kv.1, kv.2)) ∧ kvs.length ≤ 15 ∧ Q (.ref p) (upd H2 p (.dK (F8 [] kvs)))
theorem a6e {X : Cx} {pos : Pos} {keys : List (Option Expr)} {values : List Expr} {trs : List (TE × TE)} (h : PPs X pos keys values trs) (hall : keys.all (·.isSome) = true) (hl : keys.length = values.length) (h0 : keys ≠ [])
  (h15 : keys.length ≤ 15) : PE X (.Dict keys values pos) (a73 trs) := by
 intro pins s σ H Q I q
 have hn := I.hok.fresh (Nat.le_refl s.heap.objs.size)
 have I1 := I.laid (a := s.heap.objs.size) (o := .dK []) (h' := s.heap.push { cls := .type "dict", data := .dict #[] }) (t' := s.toks) (fun _ _ q => Heap.get?_push_of_some _ q) (Nat.le_refl _) (a55 s.heap I.big)
 refine wpAny_Dict_walk (knd := A0 X.prog X.w) hall hl h0 h15 (thn (h pins _ σ _ _ I1 (q _ hn)) fun ws s2 ⟨ps, H2, I2, rel, e, kvs, ep, lk, q2⟩ => ?_)
 subst ep
 obtain ⟨rs, c, rk⟩ := a3U (P := X.prog) (w := X.w) rel
 obtain ⟨z, hd, vs0, r0, dd⟩ := a8D I2.hok e
 cases r0
 refine ⟨rs, c, dd, fun h' dd' hs => ⟨.ref s.heap.objs.size, _, ?_, rfl, q2⟩⟩
 have hz : (F8 [] kvs).length ≤ sizeLine := by
  have h1 := a3G kvs []
  rw [List.length_nil] at h1
  rw [sizeLine_eq]; omega
 have he : ∃ q, h'.get? s.heap.objs.size = some q := let ⟨q, _, _, hq, _⟩ := dd'; ⟨q, hq⟩
 exact a6D I2 (by rw [e]; exact True.intro) hs he (b0e hz hd (rk.merge .nil) dd')
end L2
namespace Att
open PySem PySem.W PySem.Calls PyProof.Rows
theorem a9S {P : Params} {h : Heap} : ∀ (ns : List Int) (vs : List Value), WellAll P h vs (ns.map WData.int) → IntsAre vs ns := by
 intro ns
 induction ns with
 | nil =>
  intro vs w
  rw [List.map_nil] at w
  cases w
  exact .nil
 | cons n ns ih =>
  intro vs w
  rw [List.map_cons] at w
  cases w with
  | cons a b =>
   cases a
   exact .cons _ _ (ih _ b)
theorem a7f {l : OpenLaw} {n : Nat} (hn : l.most = some n) {P : Params} {h : Heap} {args : List WData} {vals : List Value}
  (hpre : l.row.toRowW.claim.pre args = true) (hwl : WellAll P h vals args) :
  ∃ a vs ns, vals = [Value.ref a] ∧ args = [WData.list (ns.map WData.int)] ∧ h.get? a = some { cls := .type "list", data := .seq vs.toArray } ∧ IntsAre vs ns ∧ ns.length ≤ n := by
 have hsh : WShape.hasAll [] args [.list .int] = true := (pre_splitW hpre).1
 have hc : l.pre.holds [] { args := args } = true := (pre_splitW hpre).2
 obtain ⟨d, r, rfl, h1, h2⟩ := hasAllW_cons hsh
 obtain rfl := hasAllW_nil h2
 obtain ⟨xs, rfl, h3⟩ := hasW_list h1
 obtain ⟨ns, rfl⟩ := items_int h3
 have hlen : ns.length ≤ n := by
  unfold OpenLaw.pre at hc
  have h4 : (WTm.not (.lt (.lit (.int (n : Int))) (.len (.arg 0)))).holds [] { args := [.list (ns.map .int)] } = true := by
   have h4 := (holds_andW hc).1
   rw [hn] at h4
   exact h4
  have h5 := condW_of h4 (w_not (w_lt w_lit (w_len_list (w_arg rfl))))
  rw [List.length_map] at h5
  refine Nat.le_of_not_lt fun q => ?_
  have q' : (n : Int) < ((ns.length : Nat) : Int) := by omega
  first
   | (rw [decide_eq_true q'] at h5; exact absurd h5 (by decide))
   | (simp at h5; omega)
 cases hwl with
 | cons w1 w2 =>
  cases w2
  cases w1 with
  | list ho hall => exact ⟨_, _, ns, rfl, rfl, ho, a9S ns _ hall, hlen⟩
theorem a71 (l : OpenLaw) (args : List WData) : l.row.toRowW.claim.post args (.bool true) args = true :=
 postW_of (r := l.row.toRowW) (X := (true == true))
  (show WShape.has [] (.bool true) .bool = true by first | rfl | decide | simp [WShape.has, WShape.arms, WShape.armsAll])
  (show (WTm.eq .res (.lit (.bool true))).value [] { args := args, res := some (.bool true), after := args } = some (.bool (true == true)) from w_eq_bool (w_res rfl) w_lit) rfl
theorem attach_call {l : OpenLaw} {n : Nat} {q : Program} {loose : List Str} {XP : (Str → Option Value) → Heap → Prop} {YP : World → Heap → Prop} {d : DefRec}
  (hn : l.most = some n) (hdf : d.params.defaults = [])
  (call : ∀ (w : World) (s₀ s₁ : Shared) (mg mb : Str → Option Value) (fa : Addr) (o : Obj) (pm cd doc : Value) (a : Addr) (vs : List Value) (ns : List Int),
   Ground q loose [] XP w s₀ mg mb s₁.heap → YP w s₁.heap →
   s₁.heap.get? fa = some o → o.data = .func (docDef d.name d.params d.body d.scope pm cd doc) → s₁.heap.CodeRec cd d.name → mg d.name = some (.ref fa) →
   s₁.heap.get? a = some { cls := .type "list", data := .seq vs.toArray } → IntsAre vs ns → ns.length ≤ n → s₁.gens = #[] →
   codeAny (model l.prog w) callerA (.call (.ref fa) ⟨[.ref a], []⟩) (fun r s' => r = .ok (.ret (.bool true)) ∧ OldK s₁.heap s'.heap ∧ s'.os = s₁.os ∧ AllBare s'.gens) s₁) :
  WalkO q loose XP YP l.row.toRowW d [] (fun f vs => PySem.call f vs) := by
 intro w s₀ s₁ mg mb G Y fa o pm cd doc dV kV ho hd hcd hD hmg hg args vals as hpre hlay hrd hwl hlo
 obtain rfl : dV = .none := Dflts.none hD hdf
 obtain rfl : kV = .none := Dflts.noKw hD
 obtain ⟨a, vs, ns, rfl, rfl, hobj, hints, hlen⟩ := a7f hn hpre hwl
 refine enter_call (codeAny_mono (call w s₀ s₁ mg mb fa o pm cd doc a vs ns G Y ho (fd_plain hd) hcd hmg hobj hints hlen hg) fun r s' hq => ?_)
 obtain ⟨rfl, h2, h3, h4⟩ := hq
 exact ⟨.inl ⟨.bool true, .bool true, [], rfl, fun _ => rfl, .bool true, a71 l _, fun _ => ⟨List.Pairwise.nil, fun _ hm => (nomatch hm)⟩⟩, h2, h3, h4⟩
end Att
namespace L2
open PySem PySem.Spec PyProof.Rows
theorem a4A : ∀ {vs : List Value} {ns : List Int}, IntsAre vs ns → Vals (ns.map V.int) vs
 | _, _, .nil => .nil
 | _, _, .cons n t h => .cons ⟨t, rfl⟩ (a4A h)
noncomputable def a0D (H : Hp) : Prop := ∀ b, H b = none ∨ ∃ o xs, H b = some (.frz o (.lst xs))
theorem a9a {P : Program} {w : World} {K : PySem.W.Frag} {mg mb : Str → Option Value} {CX : CXT} {k : Nat} {fa a : Addr} {fd : FuncData} {x : Str} {sp : Sp} {s₁ : Shared} {vs : List Value} {ns : List Int}
  (KX : K.In s₁.heap) (hns : s₁.heap.Ns mainGlobals mg) (hb : s₁.heap.Ns builtinsNs mb) (hbb : ∀ x : Str, x ≠ "__name__" → mb x = bootBuiltins x) (hlim : s₁.heap.NoLimit) (hg : s₁.gens = #[])
  (ha : s₁.heap.get? a = some { cls := .type "list", data := .seq vs.toArray }) (hi : IntsAre vs ns) (hl : ns.length ≤ sizeLine) (hr : Room k callerA)
  (F : ∀ base : Heap, K.In base → base.Ns mainGlobals mg → FnOk P w K mg base CX k fa fd [x] sp) (hbind : ∀ (s : Shared) (u : Value), BindsTo s fd ⟨[u], []⟩ [(x, u)])
  (hsp : ∀ H : Hp, a0D H → SqL K H a (ns.map V.int) → sp [.ref a] H (fun v _ => v = .bl true) fun _ _ _ => False)
  (hCX : ∀ H e s', CX [] H s₁ (fun _ _ _ => False) e s' → False) :
  codeAny (model P w) callerA (.call (.ref fa) ⟨[.ref a], []⟩) (fun r s' => r = .ok (.ret (.bool true)) ∧ OldK s₁.heap s'.heap ∧ s'.os = s₁.os ∧ AllBare s'.gens) s₁ := by
 have rv := a4A hi
 have lenV := hi.length
 have core : ∀ H : Hp, a0D H → SqL K H a (ns.map V.int) → HOk P w H s₁.heap → (∀ b, H b ≠ none → b = a) → (H a ≠ none → K.lookup a = none) →
   codeAny (model P w) callerA (.call (.ref fa) ⟨[.ref a], []⟩) (fun r s' => r = .ok (.ret (.bool true)) ∧ OldK s₁.heap s'.heap ∧ s'.os = s₁.os ∧ AllBare s'.gens) s₁ := by
  intro H hO hS hok hA hK
  have base_of : ∀ {b : Addr} {o : Obj}, s₁.heap.get? b = some o → H b = none → (G6 s₁.heap H).get? b = some o := fun e n => a7N e n
  have noA : ∀ {b : Addr} {o : Obj} {es : Array DictEntry} {ep : Nat}, s₁.heap.get? b = some o → o.data = .dict es ep → H b = none := fun {b o es ep} e d => by
   cases q : H b with
   | none => rfl
   | some u =>
    have e' : b = a := hA b (by rw [q]; simp)
    subst e'
    rw [ha] at e; cases e
    have d' : Data.seq vs.toArray _ = Data.dict es ep := d
    cases d'
  have nsK : ∀ {b : Addr} {m : Str → Option Value}, s₁.heap.Ns b m → (G6 s₁.heap H).Ns b m := fun {b m} ⟨o, es, ep, e, d, r⟩ => ⟨o, es, ep, base_of e (noA e d), d, r⟩
  have hKb : K.In (G6 s₁.heap H) := fun b o e => base_of (KX b o e) (by
   cases q : H b with
   | none => rfl
   | some u =>
    have e' : b = a := hA b (by rw [q]; simp)
    subst e'
    rw [hK (by rw [q]; simp)] at e; cases e)
  have hM : Mod K mg (G6 s₁.heap H) := ⟨hKb, nsK hns, ⟨mb, nsK hb, hbb⟩, let ⟨mc, h1, h2⟩ := hlim; ⟨mc, nsK h1, h2⟩⟩
  have e0 : Env0 P w K mg (G6 s₁.heap H) callerA [] s₁ H := ⟨rfl, hM, fun b o e => a8T e, Nat.le_of_eq (a76 _ _), trivial, fun b hb => absurd (show b ∈ ([] : List Addr) from hb) (by simp), hok, .of_eq hg⟩
  refine codeAny_mono ((F _ hKb (nsK hns)).run callerA [] s₁ H ⟨[.ref a], []⟩ [.ref a] [.ref a] _ _ hr e0 (hbind s₁ (.ref a)) (.cons rfl .nil) (hsp H hO hS)) fun r s' h => ?_
  cases r with
  | error e => exact (hCX H e s' h).elim
  | ok fl =>
   cases fl with
   | next => exact False.elim h
   | brk => exact False.elim h
   | cont => exact False.elim h
   | ret u =>
    obtain ⟨v, H', os, bare, un, hok', r', q⟩ := h
    have q' : v = .bl true := q
    subst q'
    obtain rfl : u = Value.bool true := r'
    refine ⟨rfl, OldK.of_keep fun b o e => ?_, os, bare⟩
    cases q : H b with
    | none => exact un.keep b o e q (by intro z; exact absurd (show b ∈ ([] : List Addr) from z) (by simp)) (by simp)
    | some u =>
     rcases hO b with z | ⟨ob, xs, z⟩
     ·rw [q] at z; cases z
     ·have z2 := un.frzs b ob _ z
      obtain ⟨e1, _⟩ := hok b _ z
      obtain ⟨e2, _⟩ := hok' b _ z2
      rw [e] at e1; cases e1
      exact e2
 cases hk : K.lookup a with
 | some o =>
  have e := KX a o hk
  rw [ha] at e
  cases e
  refine core (fun _ => none) (fun _ => .inl rfl) (.inr ⟨_, vs.toArray, _, hk, rfl, rfl, rfl, by rw [List.size_toArray, lenV]; exact hl, by simpa using rv⟩) (fun b u z => by have z' : (none : Option HO) = some u := z; cases z') (fun b z => absurd rfl z) fun z => absurd rfl z
 | none =>
  refine core (fun b => if b = a then some (.frz { cls := .type "list", data := .seq vs.toArray } (.lst (ns.map V.int))) else none) (fun b => ?_) (.inl (.inr ⟨{ cls := .type "list", data := .seq vs.toArray }, if_pos rfl⟩)) (fun b u z => ?_) (fun b z => ?_) fun _ => hk
  ·by_cases hb : b = a
   ·exact .inr ⟨_, _, if_pos hb⟩
   ·exact .inl (if_neg hb)
  ·by_cases hb : b = a
   ·have z' := (if_pos hb).symm.trans z
    cases z'
    subst hb
    exact ⟨ha, by rw [List.length_map]; exact hl, vs, _, rv, ha⟩
   ·have z' := (if_neg hb).symm.trans z
    cases z'
  ·by_cases hb : b = a
   ·exact hb
   ·exact absurd (if_neg hb) z
theorem walk_of {l : PySem.W.OpenLaw} {n k : Nat} {q : Program} {loose : List Str} {XP : (Str → Option Value) → Heap → Prop} {YP : World → Heap → Prop} {d : DefRec} {K : Params → PySem.W.Frag} {CX : World → CXT} {sp : World → Sp} {x : Str}
  (hn : l.most = some n) (hn2 : n ≤ sizeLine) (hdf : d.params.defaults = []) (hr : Room k callerA)
  (hY : ∀ (w : World) (h : Heap), YP w h → (K w.params).In h)
  (F : ∀ (w : World) (mg : Str → Option Value) (fa : Addr) (h : Heap), (K w.params).In h → h.Ns mainGlobals mg → mg d.name = some (.ref fa) →
   ∃ fd : FuncData, (∀ (s : Shared) (u : Value), BindsTo s fd ⟨[u], []⟩ [(x, u)]) ∧
    ∀ base : Heap, (K w.params).In base → base.Ns mainGlobals mg → FnOk l.prog w (K w.params) mg base (CX w) k fa fd [x] (sp w))
  (hsp : ∀ (w : World) (H : Hp) (a : Addr) (ns : List Int), ns.length ≤ n → a0D H → SqL (K w.params) H a (ns.map V.int) → sp w [.ref a] H (fun v _ => v = .bl true) fun _ _ _ => False)
  (hCX : ∀ (w : World) (H : Hp) (s : Shared) (e : Value) (s' : Shared), CX w [] H s (fun _ _ _ => False) e s' → False) :
  PySem.W.WalkO q loose XP YP l.row.toRowW d [] (fun f vs => PySem.call f vs) := by
 refine Att.attach_call hn hdf fun w s₀ s₁ mg mb fa o pm cd doc a vs ns G Y ho hd hcd hmg hobj hints hlen hg => ?_
 have KX := hY w _ Y
 obtain ⟨fd, hb, hF⟩ := F w mg fa _ KX G.T.g hmg
 exact a9a KX G.T.g G.T.b G.T.builtins G.T.nolimit hg hobj hints (Nat.le_trans hlen hn2) hr hF hb (fun H hO hS => hsp w H a ns hlen hO hS) fun H e s' => hCX w H s₁ e s'
noncomputable def L5 (s : Stmt) : Arguments := match s with
 | .FunctionDef _ a _ _ _ _ _ _ _ _ => a
 | _ => { posonlyargs := [], args := [], vararg := none, kwonlyargs := [], kw_defaults := [], kwarg := none, defaults := [] }
noncomputable def D4 (s : Stmt) : List Stmt := match s with
 | .FunctionDef _ _ b _ _ _ _ _ _ _ => b
 | _ => []
noncomputable def k3 (s : Stmt) : Scope := match s with
 | .FunctionDef _ _ _ _ _ _ sc _ _ _ => sc
 | _ => { kind := .function, names := [], isGenerator := false, isCoroutine := false }
noncomputable abbrev CX0 : CXT := fun _ _ _ _ _ _ => False
noncomputable abbrev E0 : XK := fun _ _ _ => False
theorem a5J {X : Cx} : a1R CX0 X E0 := fun _ _ _ _ _ _ _ h => h.elim
structure Fun (K : PySem.W.Frag) (x qual : Str) (st : Stmt) (f : Addr) (fd : FuncData) : Prop where
 ex : ∃ (oc : Value) (od : Option Addr) (kV doc pm : Value) (an : Option Addr) (cdv ct : Value) (osl : Array (Option Value)),
  fd = PySem.W.fnOf x qual (L5 st) (D4 st) (k3 st) .none kV doc pm an cdv ct ∧ K.lookup f = some ⟨oc, od, .func fd, osl⟩ ∧ PySem.W.codeIn K cdv qual = true
 kp : PySem.W.keepIn K (.ref f) = true
section
variable {P : Program} {w : World} {K : PySem.W.Frag} {mg : Str → Option Value} {base : Heap}
theorem Fun.ok {x qual : Str} {st : Stmt} {f : Addr} {fd : FuncData} {N ps : List Str} {k : Nat} {sp : Sp} (F : Fun K x qual st f fd) (S : FnScope N ps (k3 st)) (len : ∀ vs H Q E, sp vs H Q E → vs.length = ps.length)
  (hbody : ∀ (cdv : Value) (A : Around) (outer : List Env) (s : Shared) (H : Hp) (vs : List V) (Q : VK) (E : XK), Room k (A.deeper (envOfC qual (k3 st) s.heap.objs.size f cdv)) → sp vs H Q E →
   ∃ t, PSs (J9 CX0 P w K mg base N qual (k3 st) f cdv A outer s H E).nox (D4 st) t ∧ t { nx := fun _ H' => Q .non H', rt := Q } (start N vs) H) : FnOk P w K mg base CX0 (k + 1) f fd ps sp := by
 obtain ⟨oc, od, kV, doc, pm, an, cdv, ct, osl, rfl, lk, hcd⟩ := F.ex
 refine a8X lk hcd S len fun A outer s H vs Q E hr hsp => ?_
 obtain ⟨t, h, q⟩ := hbody cdv A outer s H vs Q E hr hsp
 exact ⟨t, h.nox, q⟩
theorem Fun.binds {x qual : Str} {st : Stmt} {f : Addr} {fd : FuncData} {ps : List Str} (F : Fun K x qual st f fd)
  (h : ∀ (kV doc pm : Value) (an : Option Addr) (cdv ct : Value) (us : List Value), us.length = ps.length → bindArgs (PySem.W.fnOf x qual (L5 st) (D4 st) (k3 st) .none kV doc pm an cdv ct) ⟨us, []⟩ = pure (ps.zip us)) : Binds K fd ps [] := by
 obtain ⟨oc, od, kV, doc, pm, an, cdv, ct, osl, rfl, lk, hcd⟩ := F.ex
 exact .all (h kV doc pm an cdv ct)
theorem a7t {x qual : Str} {st : Stmt} {f : Addr} {oc : Value} {od an : Option Addr} {osl : Array (Option Value)} {kV doc pm cdv ct : Value} (l : K.lookup f = some ⟨oc, od, .func (PySem.W.fnOf x qual (L5 st) (D4 st) (k3 st) .none kV doc pm an cdv ct), osl⟩)
  (c : PySem.W.codeIn K cdv qual = true) (k : PySem.W.keepIn K (.ref f) = true) : Fun K x qual st f (PySem.W.fnOf x qual (L5 st) (D4 st) (k3 st) .none kV doc pm an cdv ct) := ⟨⟨oc, od, kV, doc, pm, an, cdv, ct, osl, rfl, l, c⟩, k⟩
end
theorem a8w {A : Around} {k : Nat} (hr : Room k A) : A.units + 1 < cLine := Nat.lt_of_le_of_lt (Nat.add_le_add_left (by decide : 1 ≤ 64) _) hr.units
section
variable {X : Cx}
theorem pv (i : Nat) {x : Str} {pos : Pos} (hN : X.N[i]? = some x := by rfl) (hv : Vis X.env.scope x := by first | exact Or.inl rfl | exact Or.inr (Or.inl rfl) | exact Or.inr (Or.inr rfl)) (hd : (x == ("__debug__" : Str)) = false := by decide)
  (hcd : (x == ("__classdict__" : Str)) = false := by decide) : PE X (.Name x pos) (L0 i) := a6v hN hv hd hcd
end
theorem a3g {A B : Prop} (h : B) : if false = true then A else B := by
 rw [if_neg Bool.false_ne_true]
 exact h
theorem a2L {A B : Prop} (h : A) : if true = true then A else B := by
 rw [if_pos rfl]
 exact h
noncomputable def blk (X : Cx) (N' : List Str) (scope : Scope) (cl : List (Str × Addr)) (C : Addr) (s0 : Shared) (H0 : Hp) (ex : List Addr) : Cx :=
 { X with N := N', env := compEnvC scope cl C X.env, s₀ := s0, H₀ := H0, outer := X.stack, stack := X.stack, ex := ex, fn := fun _ => false, pn := [], xe := fun _ _ => False }
noncomputable def Q3 (X : Cx) (ifs : List Expr) (t : TT) : Prop :=
 ∀ (pins : List (Addr × Obj)) (s : Shared) (σ : St) (H : Hp) (Q : Bool → Hp → Prop), Inv X pins σ H s → t σ H Q →
  wpAny (model X.prog X.w) X.A (forIn ifs true fun c r => if r = true then do let ok ← isTrue c X.env (eval c X.env); pure (ForInStep.yield ok) else pure (ForInStep.yield r)) (TP X pins σ Q) X.xe s
noncomputable def a8z : TT := fun _ H Q => Q true H
theorem a8o {X : Cx} : Q3 X [] a8z := fun pins s σ H Q I h => wpAny_tests_nil ⟨H, I, h⟩
theorem a7F {X : Cx} {c : Expr} {t : TT} (h : PT X c t) : Q3 X [c] t := fun pins s σ H Q I q => wpAny_tests_one (h pins s σ H Q I q)
noncomputable def u7 (n : Nat) (idx : List Nat) (σ : St) : St := List.replicate n none ++ idx.map fun i => (σ[i]?).join
noncomputable def S3 (n : Nat) (idx : List Nat) (wi : TI) (g : TG) (tc : TT) (te : TE) : TE := fun σ H Q => wi σ H fun J H1 => ∀ D, H1 D = none →
 ∃ W : Nat → Nat → Hp → Prop, (∃ m, W 0 m (upd H1 D (.lst []))) ∧ ∀ i m H, W i m H →
  (J.stop i H ∧ Q (.ref D) H) ∨ (J.go i H ∧ ∀ x H', J.yld i H x H' → g x (u7 n idx σ) H' fun σ2 H2 => (σ2.length = (u7 n idx σ).length ∧ ∀ (j : Nat) (v : V), (u7 n idx σ)[j]? = some (some v) → σ2[j]? = some (some v)) ∧ tc σ2 H2 fun b H3 =>
   if b = true then te σ2 H3 fun v H4 => ∃ ys, H4 D = some (.lst ys) ∧ ys.length < sizeLine ∧ ∃ m', m' < m ∧ W (i + 1) m' (upd H4 D (.lst (ys ++ [v]))) else ∃ m', m' < m ∧ W (i + 1) m' H3)
structure CompOk (X : Cx) (scope : Scope) (cl : List (Str × Addr)) (N' : List Str) (n : Nat) (idx : List Nat) : Prop where
 clos : closureFor scope X.env = pure cl
 sub : ∀ x c, cl.lookup x = some c → X.env.cells.lookup x = some c
 cell : ∀ y ∈ scope.names, y.2 ≠ .cell
 kind : scope.kind = .function
 names : ∀ y ∈ scope.names, y.2 = .local → scope.names.lookup y.1 = some .local
 has : ∀ x, ((relabel scope X.env).names.lookup x = some .cell ∨ (relabel scope X.env).names.lookup x = some .free) → ∃ c, cl.lookup x = some c
 len : N'.length = n + idx.length
 cap : ∀ (j i : Nat) (y : Str), idx[j]? = some i → N'[n + j]? = some y → X.N[i]? = some y ∧ (X.env.scope.names.lookup y = some .cell ∨ X.env.scope.names.lookup y = some .free) ∧ ((relabel scope X.env).names.lookup y = some .cell ∨ (relabel scope X.env).names.lookup y = some .free)
section
variable {X : Cx} {scope : Scope} {cl : List (Str × Addr)} {N' : List Str} {n : Nat} {idx : List Nat} {tg iter elt : Expr} {ifs : List Expr} {pos : Pos} {wi : TI} {g : TG} {tc : TT} {te : TE}
theorem a67 (σ : St) : (u7 n idx σ).length = n + idx.length := by simp [u7]
theorem b0r {σ : St} {j : Nat} {v : V} (h : (u7 n idx σ)[j]? = some (some v)) : ∃ k i, j = n + k ∧ idx[k]? = some i ∧ σ[i]? = some (some v) := by
 unfold u7 at h
 by_cases hj : j < n
 ·rw [List.getElem?_append_left (by simpa using hj)] at h
  simp [hj] at h
 ·rw [List.getElem?_append_right (by simpa using Nat.le_of_not_lt hj)] at h
  simp only [List.length_replicate, List.getElem?_map] at h
  refine ⟨j - n, ?_⟩
  cases e : idx[j - n]? with
  | none => rw [e] at h; simp at h
  | some i =>
   rw [e] at h
   simp only [Option.map_some, Option.some.injEq] at h
   exact ⟨i, by omega, rfl, by simpa using Option.join_eq_some_iff.mp h⟩
theorem a7m (k : CompOk X scope cl N' n idx) {pins : List (Addr × Obj)} {s2 : Shared} {σ : St} {H2 : Hp} {fp : List Addr} {C : Addr} {h4 : Heap} {t4 : Nat} {m : Str → Option Value} (I : Inv X pins σ H2 s2) (f : ∀ b ∈ fp, G7 X pins H2 b) (fo : ∀ b ∈ fp, b < s2.heap.objs.size)
  (hC : s2.heap.objs.size + 1 ≤ C) (ns : h4.Ns C m) (keep : ∀ b o, s2.heap.get? b = some o → h4.get? b = some o) (hD : h4.get? s2.heap.objs.size = some { cls := .type "list", data := .seq ([] : List Value).toArray }) :
  Inv (blk X N' scope cl C s2 H2 fp) [] (u7 n idx σ) (upd H2 s2.heap.objs.size (.lst [])) { s2 with heap := h4, toks := t4 } := by
 have fresh : H2 s2.heap.objs.size = none := I.hok.fresh (Nat.le_refl _)
 have fC : H2 C = none := I.hok.fresh (by omega)
 have cellsub : ∀ x c, (blk X N' scope cl C s2 H2 fp).env.cells.lookup x = some c → X.env.cells.lookup x = some c := fun x c e => k.sub x c e
 have cellLt : ∀ x c, X.env.cells.lookup x = some c → c < s2.heap.objs.size := fun x c e => by
  obtain ⟨v, q⟩ := I.cell x c e
  exact q.lt
 have ok : (blk X N' scope cl C s2 H2 fp).Ok := {
  mod := I.ok.mod
  kind := k.kind
  glob := I.ok.glob
  blt := I.ok.blt
  above := by show s2.heap.objs.size ≤ C; omega
  inj := fun x y c e1 e2 => I.ok.inj x y c (cellsub x c e1) (cellsub y c e2)
  has := fun x h => k.has x h
  cab := fun x c h _ => by cases h
  hd := I.ok.hd
  frames := I.ok.frames
  stk := .inl rfl
  exf := fun b hb => ⟨Nat.ne_of_lt (Nat.lt_of_lt_of_le (fo b hb) (by show s2.heap.objs.size ≤ C; omega)), fun x c e z => (f b hb).2.2.2.2.1 x c (cellsub x c e) z⟩
  bs := fun b o e => I.bs b o e
  bsz := Nat.le_trans I.ok.bsz I.sz
  noex := fun b o e hb => by
   rcases (f b hb).2.2.2.1 with z | z
   ·exact I.ok.noex b o e z
   ·exact absurd (Nat.lt_of_lt_of_le (Heap.lt_size e) (Nat.le_trans I.ok.bsz z)) (Nat.lt_irrefl _)
  exfs := fun b hb z => by
   rcases List.mem_cons.mp (I.stkSub b z) with y | y
   ·exact (f b hb).2.1 y
   ·exact (f b hb).2.2.1 y
  funs := I.stack
  frf := I.stkFree }
 refine ⟨ok, rfl, I.bare, Un.laid keep (Nat.le_refl _) fresh, ⟨m, ns, fun j y v e1 e2 e3 => ?_⟩, fun x c e => ?_, ?_, fun x c e => ?_, fun p hp => (by cases hp), I.hok.laid keep (Nat.le_refl _) ⟨Nat.zero_le _, [], _, .nil, hD⟩, ?_⟩
 ·obtain ⟨kk, i, rfl, hk, hv⟩ := b0r e2
  obtain ⟨hN, ok, hkind⟩ := k.cap kk i y hk e1
  obtain ⟨c, hc⟩ := k.has y hkind
  obtain ⟨m0, _, hl⟩ := I.loc
  have hc' := k.sub y c hc
  obtain ⟨u, r, l⟩ := hl i y v hN hv (by rcases ok with z | z; exact .inr (.inl z); exact .inr (.inr z))
  refine ⟨u, r, .inr ⟨hkind, c, hc, ?_⟩⟩
  rcases l with ⟨z, _⟩ | ⟨_, c', e', q⟩
  ·have z' : X.env.scope.names.lookup y = some .local := z
   rcases ok with w | w <;> · rw [w] at z'; cases z'
  ·rw [hc'] at e'; cases e'
   obtain ⟨o, ho, hd⟩ := q
   exact ⟨o, keep _ o ho, hd⟩
 ·obtain ⟨v, q⟩ := I.cell x c (cellsub x c e)
  obtain ⟨o, ho, hd⟩ := q
  exact ⟨v, o, keep c o ho, hd⟩
 ·show upd H2 s2.heap.objs.size (.lst []) C = none
  rw [l8 (Nat.ne_of_gt hC)]; exact fC
 ·have := cellLt x c (cellsub x c e)
  rw [l8 (Nat.ne_of_lt this)]
  exact I.freeC x c (cellsub x c e)
 ·rw [a67, ← k.len]; rfl
theorem a6w {prog : Program} {w : World} {A : Around} {R : Result → Shared → Prop} {s : Shared} {elt target iter : Expr} {ifs : List Expr} {scope : Scope} {pos : Pos} {it acc : Value} {env : Env} (I : Nat → Shared → Prop)
  (turn : ∀ n s, I n s → wpAny (model prog w) A (pyNext it) (fun r s1 => match r with
   | none => R (.ok .next) s1
   | some v => wpAny (model prog w) A (letOwnedTupleGo target it v) (fun _ s1' => wpAny (model prog w) A (assign target env v) (fun _ s2 =>
     wpAny (model prog w) A (forIn ifs true fun c r => if r = true then do let ok ← isTrue c env (eval c env); pure (ForInStep.yield ok) else pure (ForInStep.yield r)) (fun ok s3 =>
      if ok = true then wpAny (model prog w) A (eval elt env) (fun x s4 =>
       wpAny (model prog w) A (call (.builtin "list.append") [acc, x]) (fun _ s5 => ∃ m, m < n ∧ I m s5) (notedBy (model prog w) A env fun e s' => R (.error e) s') s4) (notedBy (model prog w) A env fun e s' => R (.error e) s') s3
      else ∃ m, m < n ∧ I m s3) (notedBy (model prog w) A env fun e s' => R (.error e) s') s2) (notedBy (model prog w) A env fun e s' => R (.error e) s') s1') (notedBy (model prog w) A env fun e s' => R (.error e) s') s1) (notedBy (model prog w) A env fun e s' => R (.error e) s') s)
  (n : Nat) (h : I n s) :
  codeAny (model prog w) A (.compLoop (.ListComp elt [⟨target, iter, ifs, 0⟩] scope pos) 0 it acc env) R s := by
 refine codeAny_loop rfl I (fun n s hI => ?_) n h
 show wpAny _ A ((compTurn (.ListComp elt [⟨target, iter, ifs, 0⟩] scope pos) 0 it acc env).onRaise (fun x => do noteFrame x env; theTreesLotGoes x)) _ _ s
 refine wpAny_noted ?_
 rw [compTurn_list]
 refine wpAny_bind (wpAny_standAt (wpAny_bind (wpAny_mono (turn n s hI) (fun r s₁ h₁ => ?_) fun _ _ h' => h')))
 cases r with
 | none => exact wpAny_pure h₁
 | some v =>
  refine wpAny_bind (wpAny_mono h₁ (fun _ s1' h1' => ?_) fun _ _ h' => h')
  refine wpAny_bind (wpAny_mono h1' (fun _ s₂ h₂ => wpAny_bind (wpAny_mono h₂ (fun ok s₃ h₃ => ?_) fun _ _ h' => h')) fun _ _ h' => h')
  cases ok with
  | false => exact wpAny_pure ⟨rfl, h₃⟩
  | true =>
   exact wpAny_bind (wpAny_bind (wpAny_mono h₃ (fun x s₄ h₄ => wpAny_bind (wpAny_mono h₄ (fun _ s₅ h₅ => wpAny_pure (wpAny_pure ⟨rfl, h₅⟩)) fun _ _ h' => h')) fun _ _ h' => h'))
end
section
variable {X : Cx} {scope : Scope} {cl : List (Str × Addr)} {N' : List Str} {n : Nat} {idx : List Nat} {tg iter elt : Expr} {ifs : List Expr} {pos : Pos} {wi : TI} {g : TG} {tc : TT} {te : TE}
theorem a3j {use : Option (Value → Sem Unit)} {Q' : Value → Shared → Prop} {pos2 : Pos} (hc : X.calm = true) (k : CompOk X scope cl N' n idx) (hi : PI X tg iter wi)
  (hg : ∀ C s0 H0 ex, PG (blk X N' scope cl C s0 H0 ex) tg g) (ht : ∀ C s0 H0 ex, Q3 (blk X N' scope cl C s0 H0 ex) ifs tc) (he : ∀ C s0 H0 ex, PE (blk X N' scope cl C s0 H0 ex) elt te)
  (hs : ∀ x, foldedSetIterable iter X.env x = pure x) {pins : List (Addr × Obj)} {s : Shared} {σ : St} {H : Hp} {Q : VK} (I0 : Inv X pins σ H s) (h : S3 n idx wi g tc te σ H Q)
  (last : ∀ (C D : Addr) (s' : Shared) (H' : Hp) (m : Str → Option Value), Inv X pins σ H' s' → G7 X pins H' C → s'.heap.Ns C m → Q (.ref D) H' → compPost (model X.prog X.w) X.A X.xe use Q' (.ref D) C (.ok .next) s') :
  wpAny (model X.prog X.w) X.A (comprehension (.ListComp elt [⟨tg, iter, ifs, 0⟩] scope pos) scope X.env pos2 (newList []) false (eval iter X.env) use) Q' X.xe s := by
 refine wpAny_comprehension_free (use := use) rfl hs k.clos k.kind k.names (thn (hi pins s σ H _ I0 h) fun v s1 h1 => thn h1 fun itv s2 h2 => ?_)
 obtain ⟨it, fp, tn, J, H2, e, I2, T, st2, f2, hW⟩ := h2
 subst e
 have fo2 : ∀ b ∈ fp, b < s2.heap.objs.size := fun b hb => by
  obtain ⟨o, e, _⟩ := T.obj _ _ st2 b hb
  exact Heap.lt_size e
 obtain ⟨W, ⟨m0, w0⟩, turn⟩ := hW s2.heap.objs.size (I2.hok.fresh (Nat.le_refl _))
 refine wpAny_newObj_type (wpAny_newFunctionEnv k.cell (by intro y hy; simp at hy) (fun h4 hns4 hsb4 => ?_) k.kind)
 dsimp only at hns4 hsb4 ⊢
 generalize hH3 : s2.heap.push { cls := .type "list", dict := none, data := .seq ([] : List Value).toArray } = h3 at hns4 hsb4 ⊢
 have hCe : h3.objs.size = s2.heap.objs.size + 1 := by rw [← hH3, Heap.size_push]
 have k34 : ∀ b o, b ≠ h3.objs.size → h3.get? b = some o → h4.get? b = some o := fun b o nb e => hsb4.extBut b o nb (Heap.get?_push_of_some _ e)
 have keep : ∀ b o, s2.heap.get? b = some o → h4.get? b = some o := fun b o e => k34 b o (Nat.ne_of_lt (by rw [hCe]; exact Nat.lt_succ_of_lt (Heap.lt_size e))) (by rw [← hH3]; exact Heap.get?_push_of_some _ e)
 have hD : h4.get? s2.heap.objs.size = some { cls := .type "list", data := .seq ([] : List Value).toArray } := k34 _ _ (Nat.ne_of_lt (by rw [hCe]; exact Nat.lt_succ_self _)) (by rw [← hH3]; exact Heap.get?_push_size _ rfl)
 have I4 := a7m k I2 f2 fo2 (Nat.le_of_eq hCe.symm) hns4 keep hD (t4 := s2.toks + ([] : List (Str × Value)).length)
 have stat : ∀ {H' : Hp}, (∀ b ∈ fp, H' b = none) → ∀ b ∈ fp, G7 (blk X N' scope cl h3.objs.size s2 H2 fp) [] H' b := fun hn b hb =>
  ⟨hn b hb, Nat.ne_of_lt (by rw [hCe]; exact Nat.lt_succ_of_lt (fo2 b hb)), fun z => (List.mem_cons.mp (I2.stkSub b z)).elim (f2 b hb).2.1 (f2 b hb).2.2.1, .inl hb, fun x c e => (f2 b hb).2.2.2.2.1 x c (k.sub x c e), fun p hp => (by cases hp)⟩
 have fr4 : ∀ b ∈ fp, upd H2 s2.heap.objs.size (.lst []) b = none := fun b hb => by rw [l8 (Nat.ne_of_lt (fo2 b hb))]; exact (f2 b hb).1
 have fin : ∀ (s' : Shared) (H' : Hp), Inv (blk X N' scope cl h3.objs.size s2 H2 fp) [] (u7 n idx σ) H' s' → Q (.ref s2.heap.objs.size) H' →
   compPost (model X.prog X.w) X.A X.xe use Q' (.ref s2.heap.objs.size) h3.objs.size (.ok .next) s' := fun s' H' I' q => by
  obtain ⟨m', hn', _⟩ := I'.loc
  have B := I'.base
  refine last _ _ s' H' m' ?_ (I2.fpOk (by rw [hCe]; exact Nat.le_succ _) I'.free) hn' q
  refine I2.call' (s' := s') (ch := fp) (show s'.os = s2.os from I'.os) ⟨fun b o e nn hb hx => B.keep b o e nn hb hx, fun b o e nn hb hx => B.slot b o e nn hb hx, B.free, fun b o e hx => B.there b o e hx, B.tups, B.frzs, B.tbls⟩ I'.hok I'.bare fun b hb => ?_
  obtain ⟨p1, p2, p3, p4, p5, p6⟩ := f2 b hb
  exact ⟨p4, p2, p5, p6⟩
 have loop : ∀ s4 : Shared, s4 = { s2 with heap := h4, toks := s2.toks + ([] : List (Str × Value)).length } →
   codeAny (model X.prog X.w) X.A (.compLoop (.ListComp elt [⟨tg, iter, ifs, 0⟩] scope pos) 0 (.ref it) (.ref s2.heap.objs.size) (compEnvC scope cl h3.objs.size X.env)) (compPost (model X.prog X.w) X.A X.xe use Q' (.ref s2.heap.objs.size) h3.objs.size) s4 := by
  rintro s4 rfl
  refine a6w (fun m s' => ∃ i H', Inv (blk X N' scope cl h3.objs.size s2 H2 fp) [] (u7 n idx σ) H' s' ∧ tn i s'.heap ∧ (∀ b ∈ fp, H' b = none) ∧ W i m H') ?_ m0 ⟨0, _, I4, T.keep _ _ _ st2 (fun b _ o e => keep b o e), fr4, w0⟩
  rintro m s3 ⟨i, H3, I3, st3, fr3, w3⟩
  rcases turn i m H3 w3 with ⟨stop, q⟩ | ⟨go, step⟩
  ·refine wpAny_mono (T.done (blk X N' scope cl h3.objs.size s2 H2 fp) rfl rfl rfl hc i [] s3 _ H3 (fun _ _ => False) I3 (stat fr3) st3 stop) (fun r s5 ⟨hr, I5⟩ => ?_) fun _ _ z => z.elim
   subst hr
   exact fin s5 H3 I5 q
  ·refine wpAny_mono (T.item (blk X N' scope cl h3.objs.size s2 H2 fp) rfl rfl rfl hc i [] s3 _ H3 (fun _ _ => False) I3 (stat fr3) st3 go) (fun r s5 ⟨u, hr, h5⟩ => ?_) fun _ _ z => z.elim
   subst hr
   refine wpAny_mono h5 (fun _ s6 ⟨x, H6, I6, r6, y6, st6, fr6⟩ => ?_) fun _ _ z => z.elim
   have I6' := I6.pinned (stat fr6) (T.obj _ _ st6)
   have again : ∀ {σ7 : St} {H7 : Hp} {s7 : Shared}, Inv (blk X N' scope cl h3.objs.size s2 H2 fp) ([] ++ T5 fp s6.heap) σ7 H7 s7 → σ7.length = (u7 n idx σ).length → (∀ (j : Nat) v, (u7 n idx σ)[j]? = some (some v) → σ7[j]? = some (some v)) → (∃ m', m' < m ∧ W (i + 1) m' H7) →
     ∃ m', m' < m ∧ ∃ i H', Inv (blk X N' scope cl h3.objs.size s2 H2 fp) [] (u7 n idx σ) H' s7 ∧ tn i s7.heap ∧ (∀ b ∈ fp, H' b = none) ∧ W i m' H' := fun {σ7 H7 s7} I7 hl hw ⟨m', hm, w7⟩ => by
    refine ⟨m', hm, i + 1, H7, (I7.unpinned).weak hl.symm hw, T.keep _ _ _ st6 fun b hb o e => (I7.pin (b, o) (List.mem_append_right _ (List.mem_append_right _ (T3 hb e)))).1, fun b hb => ?_, w7⟩
    obtain ⟨o, e, d⟩ := T.obj _ _ st6 b hb
    exact (I7.pin (b, o) (List.mem_append_right _ (List.mem_append_right _ (T3 hb e)))).2.1
   refine wpAny_mono (hg _ _ _ _ _ s6 _ H6 x u _ I6' r6 (step x H6 y6)) (fun _ s7 ⟨σ7, H7, I7, ⟨hl, hw⟩, q7⟩ => ?_) fun _ _ z => z.elim
   refine wpAny_mono (ht _ _ _ _ _ s7 σ7 H7 _ I7 q7) (fun ok s8 ⟨H8, I8, q8⟩ => ?_) fun _ _ z => z.elim
   cases ok with
   | false =>
    rw [if_neg Bool.false_ne_true] at q8 ⊢
    exact again I8 hl hw q8
   | true =>
    rw [if_pos rfl] at q8 ⊢
    refine wpAny_mono (he _ _ _ _ _ s8 σ7 H8 _ I8 q8) (fun v9 s9 ⟨x9, H9, I9, r9, ys, e9, l9, q9⟩ => ?_) fun _ _ z => z.elim
    refine wpAny_mono (a27 (X := blk X N' scope cl h3.objs.size s2 H2 fp) _ s9 σ7 H9 (.ref s2.heap.objs.size) [x9] (.ref s2.heap.objs.size) [v9] (fun _ H' => H' = upd H9 s2.heap.objs.size (.lst (ys ++ [x9]))) I9 rfl (.cons r9 .nil) ⟨s2.heap.objs.size, ys, x9, rfl, rfl, e9, l9, rfl⟩) (fun _ s10 ⟨_, H10, I10, _, e10⟩ => ?_) fun _ _ z => z.elim
    subst e10
    exact again I10 hl hw q9
 exact codeAny_compStart_list (loop _ rfl) (T.self _ 0 _ _ _ (T.keep _ _ _ st2 (fun b _ o e => keep b o e)) (loop _ rfl))
theorem a3K (hc : X.calm = true) (k : CompOk X scope cl N' n idx) (hi : PI X tg iter wi)
  (hg : ∀ C s0 H0 ex, PG (blk X N' scope cl C s0 H0 ex) tg g) (ht : ∀ C s0 H0 ex, Q3 (blk X N' scope cl C s0 H0 ex) ifs tc) (he : ∀ C s0 H0 ex, PE (blk X N' scope cl C s0 H0 ex) elt te)
  (hs : ∀ x, foldedSetIterable iter X.env x = pure x := by intro _; rfl) : PE X (.ListComp elt [⟨tg, iter, ifs, 0⟩] scope pos) (S3 n idx wi g tc te) := by
 intro pins s σ H Q I0 h
 rw [eval_ListComp]
 refine a3j (use := none) (Q' := EP X pins σ Q) hc k hi hg ht he hs I0 h ?_
 intro C D' s' H' m IX fC hn q
 exact ⟨m, hn, fun h' hsb => ⟨.ref D', H', IX.turned (t' := s'.toks) (it := C) (h' := h') (fun b o nb e => (hsb.2 b nb).trans e) fC.1 fC.2.1 fC.2.2.2.1 fC.2.2.2.2.1 fC.2.2.2.2.2, rfl, q⟩⟩
theorem a9i {i : Nat} {y : Str} {py spos : Pos} (hN : X.N.Nodup) (hi' : X.N[i]? = some y) (hx : Loc X.env.scope y) (hc : X.calm = true) (k : CompOk X scope cl N' n idx) (hi : PI X tg iter wi)
  (hg : ∀ C s0 H0 ex, PG (blk X N' scope cl C s0 H0 ex) tg g) (ht : ∀ C s0 H0 ex, Q3 (blk X N' scope cl C s0 H0 ex) ifs tc) (he : ∀ C s0 H0 ex, PE (blk X N' scope cl C s0 H0 ex) elt te)
  (hs : ∀ x, foldedSetIterable iter X.env x = pure x := by intro _; rfl) (hsw : swapsWith (.ListComp elt [⟨tg, iter, ifs, 0⟩] scope pos) (some (.Name y py)) spos.line X.env = pure true := by rfl)
  (hf : X.fn y = true ∨ X.env.scope.names.lookup y = some .local := by first | exact .inl rfl | exact .inr rfl | assumption) :
  PS X (.Assign [.Name y py] (.ListComp elt [⟨tg, iter, ifs, 0⟩] scope pos) spos) (V0 (S3 n idx wi g tc te) (F5 i)) := by
 intro pins s σ H D I h
 rw [exec_Assign_Name_used _ _ _ _ hsw]
 refine wpAny_bind (wpAny_standAt (wpAny_bind ?_))
 show wpAny _ X.A (do let _ ← comprehension (.ListComp elt [⟨tg, iter, ifs, 0⟩] scope pos) scope X.env _ (newList []) false (eval iter X.env) (some (assign (.Name y py) X.env))) _ _ s
 refine wpAny_bind (wpAny_mono (a3j (use := some (assign (.Name y py) X.env)) (Q' := fun _ s' => SP X pins D .next s') hc k hi hg ht he hs I h ?_) (fun _ s' hq => wpAny_pure (wpAny_pure hq)) fun _ _ e => e)
 intro C D' s' H' m IX fC hn q
 show wpAny _ X.A (assign (.Name y py) X.env (.ref D')) _ _ _
 obtain ⟨o, es, ep, ho, hd, hr⟩ := hn
 have IP := IX.pinned (fp := [C]) (fun b hb => by rw [List.mem_singleton.mp hb]; exact fC) (fun b hb => by rw [List.mem_singleton.mp hb]; exact ⟨o, ho, fun v z => by rw [hd] at z; cases z⟩)
 refine wpAny_mono (n6 hN hi' hx hf _ s' σ H' (.ref D') (.ref D') D.nx IP rfl q) (fun _ s'' ⟨σ2, H2, I2, q2⟩ => ?_) fun _ _ e => e
 have pn := I2.pin (C, o) (List.mem_append_right _ (List.mem_append_right _ (T3 (List.mem_singleton.mpr rfl) ho)))
 refine ⟨m, ⟨o, es, ep, pn.1, hd, hr⟩, fun h' hsb => ⟨σ2, H2, ?_, q2⟩⟩
 have It := I2.unpinned.turned (t' := s''.toks) (it := C) (h' := h') (fun b o nb e => (hsb.2 b nb).trans e) pn.2.1 fC.2.1 fC.2.2.2.1 fC.2.2.2.2.1 fC.2.2.2.2.2
 exact It
end
end L2
namespace DL
open PySem PySem.Spec L2
theorem m6 {α β γ : Type} {o : Option (α × β)} {f : α × β → Option γ} {r : γ} {G : Prop} (h : o.bind f = some r) (k : ∀ x y, o = some (x, y) → f (x, y) = some r → G) : G := by
 obtain ⟨⟨x, y⟩, a, b⟩ := Option.bind_eq_some_iff.mp h
 exact k x y a b
theorem J0 {α γ : Type} {o : Option α} {f : α → Option γ} {r : γ} {G : Prop} (h : o.bind f = some r) (k : ∀ x, o = some x → f x = some r → G) : G := by
 obtain ⟨x, a, b⟩ := Option.bind_eq_some_iff.mp h
 exact k x a b
theorem mapP {α β γ : Type} {o : Option (α × β)} {f : α × β → γ} {r : γ} {G : Prop} (h : o.map f = some r) (k : ∀ x y, o = some (x, y) → f (x, y) = r → G) : G := by
 obtain ⟨⟨x, y⟩, a, b⟩ := Option.map_eq_some_iff.mp h
 exact k x y a b
theorem L4 {α γ : Type} {o : Option α} {f : α → γ} {r : γ} {G : Prop} (h : o.map f = some r) (k : ∀ x, o = some x → f x = r → G) : G := by
 obtain ⟨x, a, b⟩ := Option.map_eq_some_iff.mp h
 exact k x a b
inductive D where
 | non | bl (b : Bool) | int (i : Int) | str (x : Str) | tup (ds : List D) | lst (ds : List D)
 | feed | scr (ns : List Int)
mutual
noncomputable def D.py : D → PyData
 | .non => .none
 | .bl b => .bool b
 | .int i => .int i
 | .str x => .str x
 | .tup ds => .tuple (D.pys ds)
 | .lst ds => .list (D.pys ds)
 | .feed => .none
 | .scr _ => .none
noncomputable def D.pys : List D → List PyData
 | [] => []
 | d :: r => D.py d :: D.pys r
end
mutual
noncomputable def D.plain : D → Bool
 | .non => true
 | .bl _ => true
 | .int _ => true
 | .str _ => true
 | .tup ds => D.plains ds
 | .lst ds => D.plains ds
 | .feed => false
 | .scr _ => false
noncomputable def D.plains : List D → Bool
 | [] => true
 | d :: r => D.plain d && D.plains r
end
structure FS where
 cells : List Int
 pos : Int
 left : Int
 turn : Int
 kind : Nat
noncomputable def A9 (c : Addr) (f : FS) : List V := if f.kind = 1 then [V.ref c, V.int f.pos, V.int f.left] else [V.ref c, V.int f.pos, V.int f.left, V.int f.turn]
noncomputable def fho (c : Addr) (f : FS) : HO := if f.kind = 0 then .dK [(Sum.inr ("cells" : Str), V.ref c), (Sum.inr ("at" : Str), V.int f.pos), (Sum.inr ("left" : Str), V.int f.left), (Sum.inr ("turn" : Str), V.int f.turn)] else .lst (A9 c f)
theorem a2m {c : Addr} {f : FS} (h : ¬ f.kind = 0) : fho c f = .lst (A9 c f) := if_neg h
theorem a6Y {c : Addr} {f : FS} {xs : List V} (h : fho c f = .tup xs) : False := by unfold fho at h; split at h <;> cases h
theorem a8R {c : Addr} {f : FS} {o : Obj} {u : HO} (h : fho c f = .frz o u) : False := by unfold fho at h; split at h <;> cases h
noncomputable def FeedR (N : Addr → Prop) (H : Hp) : Option Addr → Option FS → Prop
 | none, none => True
 | some a, some f => f.cells.length ≤ 63 ∧ ∃ c, H a = some (fho c f) ∧ ¬ N c ∧ H c = some (.lst (f.cells.map V.int))
 | _, _ => False
noncomputable def SqF (K : PySem.W.Frag) (H : Hp) (a : Addr) (xs : List V) : Prop :=
 (∃ o, H a = some (.frz o (.lst xs))) ∨
  ∃ (o : Obj) (its : Array Value) (n : Nat), K.lookup a = some o ∧ o.cls = .type "list" ∧ o.dict = none ∧ o.data = .seq its n ∧ its.size ≤ sizeLine ∧ Vals xs its.toList
theorem SqF.sq {K : PySem.W.Frag} {H : Hp} {a : Addr} {xs : List V} (h : SqF K H a xs) : SqL K H a xs := by
 rcases h with ⟨o, h⟩ | h
 ·exact .inl (.inr ⟨o, h⟩)
 ·exact .inr h
mutual
noncomputable def Rep (K : PySem.W.Frag) (N : Addr → Prop) (fa : Option Addr) (H : Hp) : D → V → Prop
 | .non, v => v = .non
 | .bl b, v => v = .bl b
 | .int i, v => v = .int i
 | .str x, v => v = .str x ∧ x.length ≤ sizeLine
 | .tup ds, v => ∃ a xs, v = .ref a ∧ SqT K H a xs ∧ Reps K N fa H ds xs
 | .lst ds, v => ∃ a xs, v = .ref a ∧ ¬ N a ∧ H a = some (.lst xs) ∧ Reps K N fa H ds xs
 | .feed, v => ∃ a, fa = some a ∧ v = .ref a
 | .scr ns, v => ns.length ≤ 63 ∧ ∃ a, v = .ref a ∧ SqF K H a (ns.map V.int)
noncomputable def Reps (K : PySem.W.Frag) (N : Addr → Prop) (fa : Option Addr) (H : Hp) : List D → List V → Prop
 | [], xs => xs = []
 | d :: r, xs => ∃ x ys, xs = x :: ys ∧ Rep K N fa H d x ∧ Reps K N fa H r ys
end
noncomputable def RepB (K : PySem.W.Frag) (N : Addr → Prop) (fa : Option Addr) (H : Hp) : D → V → Prop
 | .lst ds, v => ∃ a xs, v = .ref a ∧ fa ≠ some a ∧ H a = some (.lst xs) ∧ Reps K N fa H ds xs
 | d, v => Rep K N fa H d v
noncomputable def K6 (K : PySem.W.Frag) (N : Addr → Prop) (fa : Option Addr) (H : Hp) : List D → List V → Prop
 | [], xs => xs = []
 | d :: r, xs => ∃ x ys, xs = x :: ys ∧ RepB K N fa H d x ∧ K6 K N fa H r ys
structure Car (K : PySem.W.Frag) (N : Addr → Prop) (fa : Option Addr) (H : Hp) (N' : Addr → Prop) (fa' : Option Addr) (H' : Hp) : Prop where
 ls : ∀ b xs, ¬ N b → H b = some (.lst xs) → H' b = some (.lst xs) ∧ ¬ N' b
 tp : ∀ b xs, SqT K H b xs → SqT K H' b xs
 fz : ∀ b xs, SqF K H b xs → SqF K H' b xs
 fe : ∀ a, fa = some a → fa' = some a
section
variable {K : PySem.W.Frag} {N N' : Addr → Prop} {fa fa' : Option Addr} {H H' : Hp}
mutual
theorem Rep.go (c : Car K N fa H N' fa' H') : ∀ (d : D) (v : V), Rep K N fa H d v → Rep K N' fa' H' d v
 | .non, v, h => by simpa only [Rep] using h
 | .bl b, v, h => by simpa only [Rep] using h
 | .int i, v, h => by simpa only [Rep] using h
 | .str x, v, h => by simpa only [Rep] using h
 | .tup ds, v, h => by
  simp only [Rep] at h ⊢
  obtain ⟨a, xs, e, q, r⟩ := h
  exact ⟨a, xs, e, c.tp a xs q, Reps.go c ds xs r⟩
 | .lst ds, v, h => by
  simp only [Rep] at h ⊢
  obtain ⟨a, xs, e, n, q, r⟩ := h
  obtain ⟨q', n'⟩ := c.ls a xs n q
  exact ⟨a, xs, e, n', q', Reps.go c ds xs r⟩
 | .feed, v, h => by
  simp only [Rep] at h ⊢
  obtain ⟨a, e, q⟩ := h
  exact ⟨a, c.fe a e, q⟩
 | .scr ns, v, h => by
  simp only [Rep] at h ⊢
  obtain ⟨l, a, e, q⟩ := h
  exact ⟨l, a, e, c.fz a _ q⟩
theorem Reps.go (c : Car K N fa H N' fa' H') : ∀ (ds : List D) (xs : List V), Reps K N fa H ds xs → Reps K N' fa' H' ds xs
 | [], xs, h => by simpa only [Reps] using h
 | d :: r, xs, h => by
  simp only [Reps] at h ⊢
  obtain ⟨x, ys, e, h1, h2⟩ := h
  exact ⟨x, ys, e, Rep.go c d x h1, Reps.go c r ys h2⟩
end
theorem Rep.b (hN : ∀ a, fa = some a → N a) {d : D} {v : V} (h : Rep K N fa H d v) : RepB K N fa H d v := by
 cases d with
 | lst ds =>
  simp only [Rep] at h
  obtain ⟨a, xs, e, n, q, r⟩ := h
  exact ⟨a, xs, e, fun z => n (hN a z), q, r⟩
 | _ => simpa only [RepB] using h
noncomputable def G2 (K : PySem.W.Frag) (N : Addr → Prop) (fa : Option Addr) (H : Hp) : D → V → Prop
 | .lst ds, v => ∃ a xs, v = .ref a ∧ H a = some (.lst xs) ∧ Reps K N fa H ds xs
 | d, v => Rep K N fa H d v
theorem Rep.o {d : D} {v : V} (h : Rep K N fa H d v) : G2 K N fa H d v := by
 cases d with
 | lst ds =>
  simp only [Rep] at h
  obtain ⟨a, xs, e, _, q, r⟩ := h
  exact ⟨a, xs, e, q, r⟩
 | _ => simpa only [G2] using h
theorem RepB.o {d : D} {v : V} (h : RepB K N fa H d v) : G2 K N fa H d v := by
 cases d with
 | lst ds =>
  obtain ⟨a, xs, e, _, q, r⟩ := h
  exact ⟨a, xs, e, q, r⟩
 | _ => simpa only [G2, RepB] using h
theorem Reps.length : ∀ {ds : List D} {xs : List V}, Reps K N fa H ds xs → xs.length = ds.length
 | [], xs, h => by simp only [Reps] at h; subst h; rfl
 | d :: r, xs, h => by
  simp only [Reps] at h
  obtain ⟨x, ys, e, h1, h2⟩ := h
  subst e
  simp [Reps.length h2]
theorem Reps.get : ∀ {ds : List D} {xs : List V} {i : Nat} {d : D}, Reps K N fa H ds xs → ds[i]? = some d → ∃ x, xs[i]? = some x ∧ Rep K N fa H d x
 | [], xs, i, d, h, e => by simp at e
 | d :: r, xs, 0, d', h, e => by
  simp only [Reps] at h
  obtain ⟨x, ys, e1, h1, h2⟩ := h
  simp at e
  subst e1; subst e
  exact ⟨x, rfl, h1⟩
 | d :: r, xs, i + 1, d', h, e => by
  simp only [Reps] at h
  obtain ⟨x, ys, e1, h1, h2⟩ := h
  subst e1
  obtain ⟨y, e2, h3⟩ := Reps.get h2 (by simpa using e)
  exact ⟨y, by simpa using e2, h3⟩
theorem Reps.get' : ∀ {ds : List D} {xs : List V} {i : Nat} {x : V}, Reps K N fa H ds xs → xs[i]? = some x → ∃ d, ds[i]? = some d ∧ Rep K N fa H d x := fun {ds xs i x} h e => by
 have hl := h.length
 have hi : i < xs.length := (List.getElem?_eq_some_iff.mp e).1
 obtain ⟨y, e2, h3⟩ := Reps.get h (List.getElem?_eq_getElem (show i < ds.length by omega))
 rw [e] at e2; cases e2
 exact ⟨_, List.getElem?_eq_getElem (show i < ds.length by omega), h3⟩
theorem Reps.append : ∀ {ds es : List D} {xs ys : List V}, Reps K N fa H ds xs → Reps K N fa H es ys → Reps K N fa H (ds ++ es) (xs ++ ys)
 | [], es, xs, ys, h, q => by simp only [Reps] at h; subst h; simpa using q
 | d :: r, es, xs, ys, h, q => by
  simp only [Reps] at h
  obtain ⟨x, zs, e1, h1, h2⟩ := h
  subst e1
  simp only [List.cons_append, Reps]
  exact ⟨x, _, rfl, h1, Reps.append h2 q⟩
theorem Reps.one {d : D} {x : V} (h : Rep K N fa H d x) : Reps K N fa H [d] [x] := by
 simp only [Reps]
 exact ⟨x, [], rfl, h, rfl⟩
theorem Reps.nil : Reps K N fa H [] [] := by simp only [Reps]
theorem Reps.take : ∀ {ds : List D} {xs : List V} (n : Nat), Reps K N fa H ds xs → Reps K N fa H (ds.take n) (xs.take n)
 | _, _, 0, _ => by simp only [List.take_zero, Reps]
 | [], xs, n + 1, h => by simp only [Reps] at h; subst h; simp only [List.take_nil, Reps]
 | d :: r, xs, n + 1, h => by
  simp only [Reps] at h
  obtain ⟨x, zs, e1, h1, h2⟩ := h
  subst e1
  simp only [List.take_succ_cons, Reps]
  exact ⟨x, _, rfl, h1, Reps.take n h2⟩
theorem Reps.drop : ∀ {ds : List D} {xs : List V} (n : Nat), Reps K N fa H ds xs → Reps K N fa H (ds.drop n) (xs.drop n)
 | _, _, 0, h => by simpa using h
 | [], xs, n + 1, h => by simp only [Reps] at h; subst h; simp only [List.drop_nil, Reps]
 | d :: r, xs, n + 1, h => by
  simp only [Reps] at h
  obtain ⟨x, zs, e1, h1, h2⟩ := h
  subst e1
  simpa using Reps.drop n h2
theorem Reps.ints : ∀ {ns : List Int}, Reps K N fa H (ns.map D.int) (ns.map V.int)
 | [] => by simp only [List.map_nil, Reps]
 | n :: r => by
  simp only [List.map_cons, Reps, Rep]
  exact ⟨_, _, rfl, rfl, Reps.ints⟩
theorem Reps.reverse : ∀ {ds : List D} {xs : List V}, Reps K N fa H ds xs → Reps K N fa H ds.reverse xs.reverse
 | [], xs, h => by simp only [Reps] at h; subst h; simp only [List.reverse_nil, Reps]
 | d :: r, xs, h => by
  simp only [Reps] at h
  obtain ⟨x, zs, e1, h1, h2⟩ := h
  subst e1
  simp only [List.reverse_cons]
  exact Reps.append (Reps.reverse h2) (Reps.one h1)
end
inductive Sl where
 | no | val (d : D) | own (ds : List D)
structure DS where
 sl : List Sl
 fs : Option FS
noncomputable def NN (F : Addr → Prop) (fa : Option Addr) (O : List Addr) : Addr → Prop := fun b => F b ∨ b ∈ O ∨ fa = some b
noncomputable def SlR (K : PySem.W.Frag) (N : Addr → Prop) (fa : Option Addr) (H : Hp) : List Sl → List (Option V) → List Addr → Prop
 | [], σ, O => σ = [] ∧ O = []
 | .no :: r, σ, O => ∃ v τ, σ = v :: τ ∧ SlR K N fa H r τ O
 | .val d :: r, σ, O => ∃ u τ, σ = some u :: τ ∧ Rep K N fa H d u ∧ SlR K N fa H r τ O
 | .own ds :: r, σ, O => ∃ a xs τ P, σ = some (.ref a) :: τ ∧ O = a :: P ∧ H a = some (.lst xs) ∧ Reps K N fa H ds xs ∧ SlR K N fa H r τ P
structure Stp (fa : Option Addr) (O : List Addr) (H : Hp) (fa' : Option Addr) (O' : List Addr) (H' : Hp) : Prop where
 sub : ∀ b ∈ O', b ∈ O ∨ H b = none
 fe : fa' = fa ∨ (fa = none ∧ ∀ a, fa' = some a → H a = none)
 same : ∀ b u, H b = some u → b ∉ O → fa ≠ some b → H' b = some u
 mon : ∀ b, H' b = none → H b = none
structure StE (fa : Option Addr) (O : List Addr) (H : Hp) (fa' : Option Addr) (O' : List Addr) (H' : Hp) : Prop where
 sub : ∀ b ∈ O', b ∈ O
 fe : fa' = fa ∨ (fa = none ∧ ∀ a, fa' = some a → H a = none)
 same : ∀ b u, H b = some u → fa ≠ some b → H' b = some u
 mon : ∀ b, H' b = none → H b = none
structure DI (K : PySem.W.Frag) (F : Addr → Prop) (H0 : Hp) (fa0 : Option Addr) (σ : St) (H : Hp) (fa : Option Addr) (O : List Addr) (s : DS) : Prop where
 nd : O.Nodup
 sl : SlR K (NN F fa O) fa H s.sl σ O
 fr : ∀ b ∈ O, H0 b = none
 st : Stp fa0 [] H0 fa [] H
 tr : ∀ b, F b → H0 b ≠ none
 ff : ∀ a, fa0 = some a → F a
 fd : FeedR (NN F fa O) H fa s.fs
 nf : ∀ a, fa = some a → a ∉ O
section
variable {fa fa' fa'' : Option Addr} {O O' O'' : List Addr} {H H' H'' : Hp}
theorem StE.stp (h : StE fa O H fa' O' H') : Stp fa O H fa' O' H' := ⟨fun b hb => .inl (h.sub b hb), h.fe, fun b u e _ n => h.same b u e n, h.mon⟩
theorem StE.refl : StE fa O H fa O H := ⟨fun _ h => h, .inl rfl, fun _ _ e _ => e, fun _ h => h⟩
theorem Stp.refl : Stp fa O H fa O H := StE.refl.stp
theorem StE.trans (a : StE fa O H fa' O' H') (b : StE fa' O' H' fa'' O'' H'') : StE fa O H fa'' O'' H'' := by
 refine ⟨fun c hc => a.sub c (b.sub c hc), ?_, fun c u e n => ?_, fun c h => a.mon c (b.mon c h)⟩
 ·rcases a.fe with e | ⟨e, h⟩
  ·rcases b.fe with e' | ⟨e', h'⟩
   ·exact .inl (e'.trans e)
   ·exact .inr ⟨e ▸ e', fun c z => a.mon c (h' c z)⟩
  ·rcases b.fe with e' | ⟨e', h'⟩
   ·exact .inr ⟨e, fun c z => h c (e' ▸ z)⟩
   ·exact .inr ⟨e, fun c z => a.mon c (h' c z)⟩
 ·refine b.same c u (a.same c u e n) fun z => ?_
  rcases a.fe with q | ⟨q, h⟩
  ·rw [q] at z; exact n z
  ·rw [h c z] at e; cases e
theorem Stp.trans (a : Stp fa O H fa' O' H') (b : Stp fa' O' H' fa'' O'' H'') : Stp fa O H fa'' O'' H'' := by
 refine ⟨fun c hc => ?_, ?_, fun c u e hc n => ?_, fun c h => a.mon c (b.mon c h)⟩
 ·rcases b.sub c hc with q | q
  ·exact a.sub c q
  ·exact .inr (a.mon c q)
 ·rcases a.fe with e | ⟨e, h⟩
  ·rcases b.fe with e' | ⟨e', h'⟩
   ·exact .inl (e'.trans e)
   ·exact .inr ⟨e ▸ e', fun c z => a.mon c (h' c z)⟩
  ·rcases b.fe with e' | ⟨e', h'⟩
   ·exact .inr ⟨e, fun c z => h c (e' ▸ z)⟩
   ·exact .inr ⟨e, fun c z => a.mon c (h' c z)⟩
 ·refine b.same c u (a.same c u e hc n) (fun z => ?_) fun z => ?_
  ·rcases a.sub c z with q | q
   ·exact hc q
   ·rw [q] at e; cases e
  ·rcases a.fe with q | ⟨q, h⟩
   ·rw [q] at z; exact n z
   ·rw [h c z] at e; cases e
theorem Stp.fa_keep (a : Stp fa O H fa' O' H') {x : Addr} (h : fa = some x) : fa' = some x := by
 rcases a.fe with e | ⟨e, _⟩
 ·rw [e, h]
 ·rw [h] at e; cases e
variable {K : PySem.W.Frag} {F : Addr → Prop} {H0 : Hp} {fa0 : Option Addr} {σ : St} {s : DS}
theorem FeedR.no_frz {N : Addr → Prop} {fs : Option FS} {a : Addr} {o : Obj} {u : HO} (h : FeedR N H fa fs) (e : fa = some a) (q : H a = some (.frz o u)) : False := by
 subst e
 cases fs with
 | none => exact h
 | some f =>
  obtain ⟨_, c, h1, _⟩ := h
  rw [h1] at q; exact a8R (Option.some.inj q)
theorem FeedR.no_tup {N : Addr → Prop} {fs : Option FS} {a : Addr} {xs : List V} (h : FeedR N H fa fs) (e : fa = some a) (z : Rd H a (.tup xs)) : False := by
 rcases z with z | ⟨o, z⟩
 ·subst e
  cases fs with
  | none => exact h
  | some f =>
   obtain ⟨_, c, h1, _⟩ := h
   rw [h1] at z; exact a6Y (Option.some.inj z)
 ·exact h.no_frz e z
theorem FeedR.tracked {N : Addr → Prop} {fs : Option FS} {a : Addr} (h : FeedR N H fa fs) (e : fa = some a) : H a ≠ none := by
 subst e
 cases fs with
 | none => exact h.elim
 | some f =>
  obtain ⟨_, c, h1, _⟩ := h
  rw [h1]; simp
theorem SqT.stp' (a : Stp fa O H fa' O' H') (hf : ∀ x, fa = some x → ∀ xs, ¬ Rd H x (.tup xs)) (hO : ∀ x ∈ O, ∀ xs, ¬ Rd H x (.tup xs)) {b : Addr} {xs : List V} (h : SqT K H b xs) : SqT K H' b xs := by
 rcases h with h | h
 ·refine .inl ?_
  have n1 : b ∉ O := fun z => hO b z xs h
  have n2 : fa ≠ some b := fun z => hf b z xs h
  rcases h with h | ⟨o, h⟩
  ·exact .inl (a.same _ _ h n1 n2)
  ·exact .inr ⟨o, a.same _ _ h n1 n2⟩
 ·exact .inr h
theorem SlR.owned : ∀ {sl : List Sl} {N : Addr → Prop} {σ : List (Option V)} {O : List Addr}, SlR K N fa H sl σ O → ∀ b ∈ O, ∃ xs, H b = some (.lst xs)
 | [], N, σ, O, h, b, hb => by simp only [SlR] at h; rw [h.2] at hb; cases hb
 | .no :: r, N, σ, O, h, b, hb => by
  simp only [SlR] at h
  obtain ⟨v, τ, _, h⟩ := h
  exact SlR.owned h b hb
 | .val d :: r, N, σ, O, h, b, hb => by
  simp only [SlR] at h
  obtain ⟨v, τ, _, _, h⟩ := h
  exact SlR.owned h b hb
 | .own ds :: r, N, σ, O, h, b, hb => by
  simp only [SlR] at h
  obtain ⟨a, xs, τ, P, _, rfl, e, _, h⟩ := h
  rcases List.mem_cons.mp hb with z | z
  ·subst z; exact ⟨xs, e⟩
  ·exact SlR.owned h b z
theorem DI.owned (I : DI K F H0 fa0 σ H fa O s) {b : Addr} (hb : b ∈ O) : ∃ xs, H b = some (.lst xs) := SlR.owned I.sl b hb
theorem DI.trF (I : DI K F H0 fa0 σ H fa O s) {b : Addr} (hb : F b) : H b ≠ none := fun z => I.tr b hb (I.st.mon b z)
theorem DI.nn_tracked (I : DI K F H0 fa0 σ H fa O s) {b : Addr} (h : NN F fa O b) : H b ≠ none := by
 rcases h with h | h | h
 ·exact I.trF h
 ·obtain ⟨xs, e⟩ := I.owned h
  rw [e]; simp
 ·exact I.fd.tracked h
theorem DI.nf_step (I : DI K F H0 fa0 σ H fa O s) (h : fa' = fa ∨ (fa = none ∧ ∀ a, fa' = some a → H a = none)) : ∀ a, fa' = some a → a ∉ O := fun a e m => by
 rcases h with z | ⟨z, y⟩
 ·rw [z] at e; exact I.nf a e m
 ·obtain ⟨xs, q⟩ := I.owned m
  rw [y a e] at q; cases q
theorem DI.car (I : DI K F H0 fa0 σ H fa O s) (a : Stp fa O H fa' O' H') : Car K (NN F fa O) fa H (NN F fa' O') fa' H' := by
 have nt : ∀ x xs, H x = some (.lst xs) → ∀ ys, ¬ Rd H x (.tup ys) := fun x xs e ys z => by
  rcases z with z | ⟨o, z⟩ <;> · rw [e] at z; cases z
 refine ⟨fun b xs n q => ?_, fun b xs q => ?_, fun b xs q => ?_, fun x e => a.fa_keep e⟩
 ·have n1 : b ∉ O := fun z => n (.inr (.inl z))
  have n2 : fa ≠ some b := fun z => n (.inr (.inr z))
  have tr : H b ≠ none := by rw [q]; simp
  refine ⟨a.same _ _ q n1 n2, fun z => ?_⟩
  ·rcases z with z | z | z
   ·exact n (.inl z)
   ·rcases a.sub b z with y | y
    ·exact n1 y
    ·exact tr y
   ·rcases a.fe with e | ⟨e, h⟩
    ·rw [e] at z; exact n2 z
    ·exact tr (h b z)
 ·refine SqT.stp' a (fun x e ys z => ?_) (fun x hx ys => ?_) q
  ·exact I.fd.no_tup e z
  ·obtain ⟨xs, e⟩ := I.owned hx
   exact nt x xs e ys
 ·rcases q with ⟨o, q⟩ | q
  ·refine .inl ⟨o, a.same _ _ q (fun z => ?_) fun z => ?_⟩
   ·obtain ⟨ys, e⟩ := I.owned z
    rw [e] at q; cases q
   ·exact I.fd.no_frz z q
  ·exact .inr q
end
structure Gh where
 F : Addr → Prop
 H0 : Hp
 fa0 : Option Addr
noncomputable abbrev GI (K : PySem.W.Frag) (g : Gh) := DI K g.F g.H0 g.fa0
section
variable {K : PySem.W.Frag} {N N' : Addr → Prop} {fa fa' : Option Addr} {H H' : Hp} {g : Gh} {σ : L2.St} {O O' : List Addr} {s : DS}
theorem SlR.go (c : Car K N fa H N' fa' H') : ∀ {sl : List Sl} {σ : List (Option V)} {O : List Addr}, (∀ a xs, a ∈ O → H a = some (.lst xs) → H' a = some (.lst xs)) → SlR K N fa H sl σ O → SlR K N' fa' H' sl σ O
 | [], σ, O, _, h => by simpa only [SlR] using h
 | .no :: r, σ, O, ho, h => by
  simp only [SlR] at h ⊢
  obtain ⟨v, τ, e, h⟩ := h
  exact ⟨v, τ, e, SlR.go c ho h⟩
 | .val d :: r, σ, O, ho, h => by
  simp only [SlR] at h ⊢
  obtain ⟨u, τ, e, q, h⟩ := h
  exact ⟨u, τ, e, Rep.go c d u q, SlR.go c ho h⟩
 | .own ds :: r, σ, O, ho, h => by
  simp only [SlR] at h ⊢
  obtain ⟨a, xs, τ, P, e, rfl, ha, q, h⟩ := h
  exact ⟨a, xs, τ, P, e, rfl, ho a xs (List.mem_cons_self ..) ha, Reps.go c ds xs q, SlR.go c (fun b ys hb => ho b ys (List.mem_cons_of_mem _ hb)) h⟩
theorem SlR.val : ∀ {sl : List Sl} {σ : List (Option V)} {O : List Addr} {i : Nat} {d : D}, SlR K N fa H sl σ O → sl[i]? = some (.val d) → ∃ u, σ[i]? = some (some u) ∧ Rep K N fa H d u
 | [], σ, O, i, d, h, e => by simp at e
 | .no :: r, σ, O, i, d, h, e => by
  simp only [SlR] at h
  obtain ⟨v, τ, rfl, h⟩ := h
  cases i with
  | zero => simp at e
  | succ i => simpa using SlR.val h (by simpa using e)
 | .val d' :: r, σ, O, i, d, h, e => by
  simp only [SlR] at h
  obtain ⟨u, τ, rfl, q, h⟩ := h
  cases i with
  | zero => simp at e; subst e; exact ⟨u, rfl, q⟩
  | succ i => simpa using SlR.val h (by simpa using e)
 | .own ds :: r, σ, O, i, d, h, e => by
  simp only [SlR] at h
  obtain ⟨a, xs, τ, P, rfl, rfl, ha, q, h⟩ := h
  cases i with
  | zero => simp at e
  | succ i => simpa using SlR.val h (by simpa using e)
theorem SlR.own : ∀ {sl : List Sl} {σ : List (Option V)} {O : List Addr} {i : Nat} {ds : List D}, SlR K N fa H sl σ O → sl[i]? = some (.own ds) → ∃ a xs, σ[i]? = some (some (.ref a)) ∧ a ∈ O ∧ H a = some (.lst xs) ∧ Reps K N fa H ds xs
 | [], σ, O, i, d, h, e => by simp at e
 | .no :: r, σ, O, i, d, h, e => by
  simp only [SlR] at h
  obtain ⟨v, τ, rfl, h⟩ := h
  cases i with
  | zero => simp at e
  | succ i => simpa using SlR.own h (by simpa using e)
 | .val d' :: r, σ, O, i, d, h, e => by
  simp only [SlR] at h
  obtain ⟨u, τ, rfl, q, h⟩ := h
  cases i with
  | zero => simp at e
  | succ i => simpa using SlR.own h (by simpa using e)
 | .own ds :: r, σ, O, i, d, h, e => by
  simp only [SlR] at h
  obtain ⟨a, xs, τ, P, rfl, rfl, ha, q, h⟩ := h
  cases i with
  | zero => simp at e; subst e; exact ⟨a, xs, rfl, List.mem_cons_self .., ha, q⟩
  | succ i =>
   obtain ⟨b, ys, e1, m, e2, q2⟩ := SlR.own h (by simpa using e)
   exact ⟨b, ys, by simpa using e1, List.mem_cons_of_mem _ m, e2, q2⟩
theorem SlR.put : ∀ {sl : List Sl} {σ : List (Option V)} {O : List Addr} (i : Nat) {d : D} {u : V}, SlR K N fa H sl σ O → Rep K N fa H d u →
  ∃ P, P.Sublist O ∧ SlR K N fa H (sl.set i (.val d)) (σ.set i (some u)) P ∧ (O.Nodup → ∀ a, sl[i]?.isSome = true → (∃ ds, sl[i]? = some (.own ds)) → σ[i]? = some (some (.ref a)) → a ∉ P)
 | [], σ, O, i, d, u, h, q => by
  simp only [SlR] at h
  refine ⟨O, List.Sublist.refl _, ?_, fun _ a z => by simp at z⟩
  rw [h.1, h.2]
  simp [SlR]
 | .no :: r, σ, O, i, d, u, h, q => by
  simp only [SlR] at h
  obtain ⟨v, τ, rfl, h⟩ := h
  cases i with
  | zero => exact ⟨O, List.Sublist.refl _, by simp only [List.set_cons_zero, SlR]; exact ⟨u, τ, rfl, q, h⟩, fun _ a _ z => by obtain ⟨ds, z⟩ := z; simp at z⟩
  | succ i =>
   obtain ⟨P, hs, h1, h2⟩ := SlR.put i h q
   exact ⟨P, hs, by simp only [List.set_cons_succ, SlR]; exact ⟨v, _, rfl, h1⟩, by simpa using h2⟩
 | .val d' :: r, σ, O, i, d, u, h, q => by
  simp only [SlR] at h
  obtain ⟨v, τ, rfl, qv, h⟩ := h
  cases i with
  | zero => exact ⟨O, List.Sublist.refl _, by simp only [List.set_cons_zero, SlR]; exact ⟨u, τ, rfl, q, h⟩, fun _ a _ z => by obtain ⟨ds, z⟩ := z; simp at z⟩
  | succ i =>
   obtain ⟨P, hs, h1, h2⟩ := SlR.put i h q
   exact ⟨P, hs, by simp only [List.set_cons_succ, SlR]; exact ⟨v, _, rfl, qv, h1⟩, by simpa using h2⟩
 | .own ds :: r, σ, O, i, d, u, h, q => by
  simp only [SlR] at h
  obtain ⟨a, xs, τ, P, rfl, rfl, ha, qv, h⟩ := h
  cases i with
  | zero =>
   refine ⟨P, List.sublist_cons_self .., by simp only [List.set_cons_zero, SlR]; exact ⟨u, τ, rfl, q, h⟩, fun nd b _ _ e => ?_⟩
   simp at e; subst e
   exact (List.nodup_cons.mp nd).1
  | succ i =>
   obtain ⟨P', hs, h1, h2⟩ := SlR.put i h q
   refine ⟨a :: P', hs.cons_cons a, by simp only [List.set_cons_succ, SlR]; exact ⟨a, xs, _, P', rfl, rfl, ha, qv, h1⟩, fun nd b e1 e2 e3 => ?_⟩
   have nd' := List.nodup_cons.mp nd
   have n1 := h2 nd'.2 b (by simpa using e1) (by simpa using e2) (by simpa using e3)
   intro z
   rcases List.mem_cons.mp z with z | z
   ·subst z
    obtain ⟨dz, e2⟩ := e2
    obtain ⟨b', _, e4, m, _⟩ := SlR.own h (i := i) (by simpa using e2)
    rw [List.getElem?_cons_succ] at e3
    rw [e3] at e4
    cases e4
    exact nd'.1 m
   ·exact n1 z
theorem SlR.putN : ∀ {sl : List Sl} {σ : List (Option V)} {O : List Addr} (i : Nat) {ds : List D} {p : Addr} {xs : List V}, SlR K N fa H sl σ O → i < sl.length → p ∉ O → O.Nodup → H p = some (.lst xs) → Reps K N fa H ds xs →
  ∃ P, (∀ b ∈ P, b = p ∨ b ∈ O) ∧ P.Nodup ∧ SlR K N fa H (sl.set i (.own ds)) (σ.set i (some (.ref p))) P
 | [], σ, O, i, ds, p, xs, h, hi, hp, nd, e, q => by simp at hi
 | .no :: r, σ, O, i, ds, p, xs, h, hi, hp, nd, e, q => by
  simp only [SlR] at h
  obtain ⟨v, τ, rfl, h⟩ := h
  cases i with
  | zero => exact ⟨p :: O, fun b hb => List.mem_cons.mp hb, List.nodup_cons.mpr ⟨hp, nd⟩, by simp only [List.set_cons_zero, SlR]; exact ⟨p, xs, τ, O, rfl, rfl, e, q, h⟩⟩
  | succ i =>
   obtain ⟨P, h1, h2, h3⟩ := SlR.putN i h (by simpa using hi) hp nd e q
   exact ⟨P, h1, h2, by simp only [List.set_cons_succ, SlR]; exact ⟨v, _, rfl, h3⟩⟩
 | .val d' :: r, σ, O, i, ds, p, xs, h, hi, hp, nd, e, q => by
  simp only [SlR] at h
  obtain ⟨v, τ, rfl, qv, h⟩ := h
  cases i with
  | zero => exact ⟨p :: O, fun b hb => List.mem_cons.mp hb, List.nodup_cons.mpr ⟨hp, nd⟩, by simp only [List.set_cons_zero, SlR]; exact ⟨p, xs, τ, O, rfl, rfl, e, q, h⟩⟩
  | succ i =>
   obtain ⟨P, h1, h2, h3⟩ := SlR.putN i h (by simpa using hi) hp nd e q
   exact ⟨P, h1, h2, by simp only [List.set_cons_succ, SlR]; exact ⟨v, _, rfl, qv, h3⟩⟩
 | .own ds' :: r, σ, O, i, ds, p, xs, h, hi, hp, nd, e, q => by
  simp only [SlR] at h
  obtain ⟨a, ys, τ, P, rfl, rfl, ha, qv, h⟩ := h
  have nd' := List.nodup_cons.mp nd
  cases i with
  | zero =>
   refine ⟨p :: P, fun b hb => (List.mem_cons.mp hb).imp id fun z => List.mem_cons_of_mem _ z, List.nodup_cons.mpr ⟨fun z => hp (List.mem_cons_of_mem _ z), nd'.2⟩, ?_⟩
   simp only [List.set_cons_zero, SlR]
   exact ⟨p, xs, τ, P, rfl, rfl, e, q, h⟩
  | succ i =>
   obtain ⟨P', h1, h2, h3⟩ := SlR.putN i h (by simpa using hi) (fun z => hp (List.mem_cons_of_mem _ z)) nd'.2 e q
   refine ⟨a :: P', fun b hb => ?_, List.nodup_cons.mpr ⟨fun z => ?_, h2⟩, by simp only [List.set_cons_succ, SlR]; exact ⟨a, ys, _, P', rfl, rfl, ha, qv, h3⟩⟩
   ·rcases List.mem_cons.mp hb with z | z
    ·exact .inr (by rw [z]; exact List.mem_cons_self ..)
    ·exact (h1 b z).imp id fun y => List.mem_cons_of_mem _ y
   ·rcases h1 a z with y | y
    ·exact hp (by rw [y]; exact List.mem_cons_self ..)
    ·exact nd'.1 y
theorem SlR.rew : ∀ {sl : List Sl} {σ : List (Option V)} {O : List Addr} {i : Nat} {ds es : List D} {a : Addr} {ys : List V}, SlR K N fa H sl σ O → O.Nodup → (∀ b ∈ O, N b) → sl[i]? = some (.own ds) → σ[i]? = some (some (.ref a)) → H' a = some (.lst ys) →
  Car K N fa H N fa H' → (∀ b u, b ≠ a → H b = some u → H' b = some u) → Reps K N fa H' es ys → SlR K N fa H' (sl.set i (.own es)) σ O
 | [], σ, O, i, ds, es, a, ys, h, nd, hN, e1, e2, e3, c, k, q => by simp at e1
 | .no :: r, σ, O, i, ds, es, a, ys, h, nd, hN, e1, e2, e3, c, k, q => by
  simp only [SlR] at h
  obtain ⟨v, τ, rfl, h⟩ := h
  cases i with
  | zero => simp at e1
  | succ i => simp only [List.set_cons_succ, SlR]; exact ⟨v, τ, rfl, SlR.rew h nd hN (by simpa using e1) (by simpa using e2) e3 c k q⟩
 | .val d' :: r, σ, O, i, ds, es, a, ys, h, nd, hN, e1, e2, e3, c, k, q => by
  simp only [SlR] at h
  obtain ⟨v, τ, rfl, qv, h⟩ := h
  cases i with
  | zero => simp at e1
  | succ i => simp only [List.set_cons_succ, SlR]; exact ⟨v, τ, rfl, Rep.go c _ _ qv, SlR.rew h nd hN (by simpa using e1) (by simpa using e2) e3 c k q⟩
 | .own ds' :: r, σ, O, i, ds, es, a, ys, h, nd, hN, e1, e2, e3, c, k, q => by
  simp only [SlR] at h
  obtain ⟨b, zs, τ, P, rfl, rfl, ha, qv, h⟩ := h
  have nd' := List.nodup_cons.mp nd
  cases i with
  | zero =>
   simp at e2
   subst e2
   simp only [List.set_cons_zero, SlR]
   exact ⟨b, ys, τ, P, rfl, rfl, e3, q, SlR.go c (fun x xs hx z => k x _ (fun y => nd'.1 (y ▸ hx)) z) h⟩
  | succ i =>
   have nb : b ≠ a := fun z => by
    obtain ⟨a', _, e4, m, _⟩ := SlR.own h (i := i) (by simpa using e1)
    rw [List.getElem?_cons_succ] at e2
    rw [e2] at e4
    cases e4
    exact nd'.1 (z ▸ m)
   simp only [List.set_cons_succ, SlR]
   exact ⟨b, zs, τ, P, rfl, rfl, k b _ nb ha, Reps.go c _ _ qv, SlR.rew h nd'.2 (fun x hx => hN x (List.mem_cons_of_mem _ hx)) (by simpa using e1) (by simpa using e2) e3 c k q⟩
theorem RepB.stp {d : D} {v : V} (I : GI K g σ H fa O s) (a : StE fa O H fa' O' H') (h : RepB K (NN g.F fa O) fa H d v) : RepB K (NN g.F fa' O') fa' H' d v := by
 have c := I.car a.stp
 cases d with
 | lst ds =>
  obtain ⟨x, xs, e, nf, q, r⟩ := h
  refine ⟨x, xs, e, fun z => ?_, a.same _ _ q nf, Reps.go c ds xs r⟩
  rcases a.fe with y | ⟨_, y⟩
  ·rw [y] at z; exact nf z
  ·rw [y x z] at q; cases q
 | _ =>
  simp only [RepB] at h ⊢
  exact Rep.go c _ _ h
theorem Rep.stp {d : D} {v : V} (I : GI K g σ H fa O s) (a : Stp fa O H fa' O' H') (h : Rep K (NN g.F fa O) fa H d v) : Rep K (NN g.F fa' O') fa' H' d v := Rep.go (I.car a) d v h
theorem Reps.stp {ds : List D} {xs : List V} (I : GI K g σ H fa O s) (a : Stp fa O H fa' O' H') (h : Reps K (NN g.F fa O) fa H ds xs) : Reps K (NN g.F fa' O') fa' H' ds xs := Reps.go (I.car a) ds xs h
theorem A4 {p : Addr} {o : HO} (h : H p = none) : StE fa O H fa O (upd H p o) :=
 ⟨fun _ h => h, .inl rfl, fun b u e _ => by rw [l8 (F3 e h)]; exact e, fun b z => by
  by_cases hb : b = p
  ·subst hb; exact h
  ·rw [l8 hb] at z; exact z⟩
theorem FeedR.car {fs : Option FS} (c : Car K N fa H N' fa H') (h : ∀ a, fa = some a → H' a = H a) (f : FeedR N H fa fs) : FeedR N' H' fa fs := by
 cases fa with
 | none => cases fs <;> simpa only [FeedR] using f
 | some a =>
  cases fs with
  | none => simpa only [FeedR] using f
  | some x =>
   simp only [FeedR] at f ⊢
   obtain ⟨l, b, h1, h2, h3⟩ := f
   obtain ⟨q, n⟩ := c.ls b _ h2 h3
   exact ⟨l, b, by rw [h a rfl]; exact h1, n, q⟩
theorem FeedR.same_new {fs : Option FS} {p : Addr} {o : HO} (f : FeedR N H fa fs) (h : H p = none) : ∀ a, fa = some a → upd H p o a = H a := fun a e => l8 fun z => f.tracked e (z ▸ h)
theorem DI.new {p : Addr} {o : HO} (I : GI K g σ H fa O s) (h : H p = none) : GI K g σ (upd H p o) fa O s := by
 have a : StE fa O H fa O (upd H p o) := A4 h
 refine ⟨I.nd, SlR.go (I.car a.stp) (fun b xs hb e => ?_) I.sl, I.fr, I.st.trans ((A4 (O := []) h).stp), I.tr, I.ff, I.fd.car (I.car a.stp) (I.fd.same_new h), I.nf⟩
 rw [l8 (F3 e h)]; exact e
end
noncomputable abbrev DE := DS → Option (D × DS)
noncomputable abbrev DT := DS → Option (Bool × DS)
noncomputable abbrev DA := DS → Option (List D × DS)
inductive Fl where
 | next | brk | cont | ret (d : D)
noncomputable abbrev DM := DS → Option (Fl × DS)
structure NewL (K : PySem.W.Frag) (g : Gh) (σ : L2.St) (H : Hp) (fa : Option Addr) (O : List Addr) (s : DS) (p : Addr) (xs : List V) (ds : List D) : Prop where
 gi : GI K g σ H fa O s
 ls : H p = some (.lst xs)
 sl : SlR K (fun b => NN g.F fa O b ∨ b = p) fa H s.sl σ O
 fd : FeedR (fun b => NN g.F fa O b ∨ b = p) H fa s.fs
 rs : Reps K (fun b => NN g.F fa O b ∨ b = p) fa H ds xs
 nf : fa ≠ some p
section
variable (K : PySem.W.Frag) (g : Gh)
noncomputable def liftE (f : DE) : TE := fun σ H Q => ∃ fa O s d s', GI K g σ H fa O s ∧ f s = some (d, s') ∧
 ∀ v H' fa' O', StE fa O H fa' O' H' → GI K g σ H' fa' O' s' → Rep K (NN g.F fa' O') fa' H' d v → Q v H'
noncomputable def liftB (f : DE) : TE := fun σ H Q => ∃ fa O s d s', GI K g σ H fa O s ∧ f s = some (d, s') ∧
 ∀ v H' fa' O', StE fa O H fa' O' H' → GI K g σ H' fa' O' s' → RepB K (NN g.F fa' O') fa' H' d v → Q v H'
noncomputable def liftF (f : DA) : TE := fun σ H Q => ∃ fa O s ds s', GI K g σ H fa O s ∧ f s = some (ds, s') ∧
 ∀ p xs H' fa' O', StE fa O H fa' O' H' → NewL K g σ H' fa' O' s' p xs ds → H p = none → Q (.ref p) H'
noncomputable def liftT (f : DT) : TT := fun σ H Q => ∃ fa O s d s', GI K g σ H fa O s ∧ f s = some (d, s') ∧
 ∀ H' fa' O', StE fa O H fa' O' H' → GI K g σ H' fa' O' s' → Q d H'
noncomputable def liftA (f : DA) : TA := fun σ H Q => ∃ fa O s ds s', GI K g σ H fa O s ∧ f s = some (ds, s') ∧
 ∀ vs H' fa' O', StE fa O H fa' O' H' → GI K g σ H' fa' O' s' → Reps K (NN g.F fa' O') fa' H' ds vs → Q vs H'
noncomputable def liftBA (f : DA) : TA := fun σ H Q => ∃ fa O s ds s', GI K g σ H fa O s ∧ f s = some (ds, s') ∧
 ∀ vs H' fa' O', StE fa O H fa' O' H' → GI K g σ H' fa' O' s' → K6 K (NN g.F fa' O') fa' H' ds vs → Q vs H'
noncomputable def FlK (E : Ends) (fa : Option Addr) (O : List Addr) (H : Hp) (fl : Fl) (s' : DS) : Prop :=
 match fl with
 | .next => ∀ σ' H' fa' O', Stp fa O H fa' O' H' → GI K g σ' H' fa' O' s' → E.nx σ' H'
 | .brk => ∀ σ' H' fa' O', Stp fa O H fa' O' H' → GI K g σ' H' fa' O' s' → E.bk σ' H'
 | .cont => ∀ σ' H' fa' O', Stp fa O H fa' O' H' → GI K g σ' H' fa' O' s' → E.ct σ' H'
 | .ret d => ∀ σ' v H' fa' O', Stp fa O H fa' O' H' → GI K g σ' H' fa' O' s' → Rep K (NN g.F fa' O') fa' H' d v → E.rt v H'
noncomputable def liftS (f : DM) : TS := fun E σ H => ∃ fa O s fl s', GI K g σ H fa O s ∧ f s = some (fl, s') ∧ FlK K g E fa O H fl s'
end
section
variable {K : PySem.W.Frag} {g : Gh} {σ : L2.St} {H : Hp} {G : Prop}
theorem liftE.elim {f : DE} {Q : VK} (h : liftE K g f σ H Q) (k : ∀ fa O s d s', GI K g σ H fa O s → f s = some (d, s') → (∀ v H' fa' O', StE fa O H fa' O' H' → GI K g σ H' fa' O' s' → Rep K (NN g.F fa' O') fa' H' d v → Q v H') → G) : G := by
 obtain ⟨fa, O, s, d, s', a, b, c⟩ := h
 exact k fa O s d s' a b c
theorem liftB.elim {f : DE} {Q : VK} (h : liftB K g f σ H Q) (k : ∀ fa O s d s', GI K g σ H fa O s → f s = some (d, s') → (∀ v H' fa' O', StE fa O H fa' O' H' → GI K g σ H' fa' O' s' → RepB K (NN g.F fa' O') fa' H' d v → Q v H') → G) : G := by
 obtain ⟨fa, O, s, d, s', a, b, c⟩ := h
 exact k fa O s d s' a b c
theorem liftF.elim {f : DA} {Q : VK} (h : liftF K g f σ H Q) (k : ∀ fa O s d s', GI K g σ H fa O s → f s = some (d, s') → (∀ p xs H' fa' O', StE fa O H fa' O' H' → NewL K g σ H' fa' O' s' p xs d → H p = none → Q (.ref p) H') → G) : G := by
 obtain ⟨fa, O, s, d, s', a, b, c⟩ := h
 exact k fa O s d s' a b c
theorem liftT.elim {f : DT} {Q : Bool → Hp → Prop} (h : liftT K g f σ H Q) (k : ∀ fa O s d s', GI K g σ H fa O s → f s = some (d, s') → (∀ H' fa' O', StE fa O H fa' O' H' → GI K g σ H' fa' O' s' → Q d H') → G) : G := by
 obtain ⟨fa, O, s, d, s', a, b, c⟩ := h
 exact k fa O s d s' a b c
theorem liftA.elim {f : DA} {Q : List V → Hp → Prop} (h : liftA K g f σ H Q) (k : ∀ fa O s d s', GI K g σ H fa O s → f s = some (d, s') → (∀ vs H' fa' O', StE fa O H fa' O' H' → GI K g σ H' fa' O' s' → Reps K (NN g.F fa' O') fa' H' d vs → Q vs H') → G) : G := by
 obtain ⟨fa, O, s, d, s', a, b, c⟩ := h
 exact k fa O s d s' a b c
theorem liftBA.elim {f : DA} {Q : List V → Hp → Prop} (h : liftBA K g f σ H Q) (k : ∀ fa O s d s', GI K g σ H fa O s → f s = some (d, s') → (∀ vs H' fa' O', StE fa O H fa' O' H' → GI K g σ H' fa' O' s' → K6 K (NN g.F fa' O') fa' H' d vs → Q vs H') → G) : G := by
 obtain ⟨fa, O, s, d, s', a, b, c⟩ := h
 exact k fa O s d s' a b c
theorem liftS.elim {f : DM} {E : Ends} (h : liftS K g f E σ H) (k : ∀ fa O s d s', GI K g σ H fa O s → f s = some (d, s') → (FlK K g E fa O H d s') → G) : G := by
 obtain ⟨fa, O, s, d, s', a, b, c⟩ := h
 exact k fa O s d s' a b c
end
structure EO (X : Cx) (g : Gh) (e : Expr) (f : DE) : Prop where
 pe : PE X e (liftE X.K g f)
structure BO (X : Cx) (g : Gh) (e : Expr) (f : DE) : Prop where
 pe : PE X e (liftB X.K g f)
structure FO (X : Cx) (g : Gh) (e : Expr) (f : DA) : Prop where
 pe : PE X e (liftF X.K g f)
structure TO (X : Cx) (g : Gh) (e : Expr) (f : DT) : Prop where
 pe : PT X e (liftT X.K g f)
structure WO (X : Cx) (g : Gh) (e : Expr) (f : DT) : Prop where
 pe : PW X e (liftT X.K g f)
structure AO (X : Cx) (g : Gh) (es : List Expr) (f : DA) : Prop where
 pe : PA X es (liftA X.K g f)
structure BAO (X : Cx) (g : Gh) (es : List Expr) (f : DA) : Prop where
 pe : PA X es (liftBA X.K g f)
structure SO (X : Cx) (g : Gh) (st : Stmt) (f : DM) : Prop where
 pe : PS X st (liftS X.K g f)
structure SSO (X : Cx) (g : Gh) (st : List Stmt) (f : DM) : Prop where
 pe : PSs X st (liftS X.K g f)
section
variable {X : Cx} {g : Gh} {e : Expr} {f : DE}
theorem PEw {t t' : TE} (h : PE X e t) (w : ∀ σ H Q, t' σ H Q → t σ H Q) : PE X e t' := fun pins s σ H Q I q => h pins s σ H Q I (w σ H Q q)
theorem PTw {t t' : TT} (h : PT X e t) (w : ∀ σ H Q, t' σ H Q → t σ H Q) : PT X e t' := fun pins s σ H Q I q => h pins s σ H Q I (w σ H Q q)
theorem PWw {t t' : TT} (h : PW X e t) (w : ∀ σ H Q, t' σ H Q → t σ H Q) : PW X e t' := fun wh pins s σ H Q I q => h wh pins s σ H Q I (w σ H Q q)
theorem PAw {es : List Expr} {t t' : TA} (h : PA X es t) (w : ∀ σ H Q, t' σ H Q → t σ H Q) : PA X es t' := fun pos pins s σ H Q I q => h pos pins s σ H Q I (w σ H Q q)
theorem PSw {st : Stmt} {t t' : TS} (h : PS X st t) (w : ∀ E σ H, t' E σ H → t E σ H) : PS X st t' := fun pins s σ H E I q => h pins s σ H E I (w E σ H q)
theorem a7k {st : List Stmt} {t t' : TS} (h : PSs X st t) (w : ∀ E σ H, t' E σ H → t E σ H) : PSs X st t' := fun pins s σ H E I q => h pins s σ H E I (w E σ H q)
theorem EO.w {f : DE} {t : TE} (h : PE X e t) (w : ∀ σ H Q, liftE X.K g f σ H Q → t σ H Q) : EO X g e f := ⟨PEw h w⟩
theorem BO.w {f : DE} {t : TE} (h : PE X e t) (w : ∀ σ H Q, liftB X.K g f σ H Q → t σ H Q) : BO X g e f := ⟨PEw h w⟩
theorem FO.w {f : DA} {t : TE} (h : PE X e t) (w : ∀ σ H Q, liftF X.K g f σ H Q → t σ H Q) : FO X g e f := ⟨PEw h w⟩
theorem TO.w {f : DT} {t : TT} (h : PT X e t) (w : ∀ σ H Q, liftT X.K g f σ H Q → t σ H Q) : TO X g e f := ⟨PTw h w⟩
theorem WO.w {f : DT} {t : TT} (h : PW X e t) (w : ∀ σ H Q, liftT X.K g f σ H Q → t σ H Q) : WO X g e f := ⟨PWw h w⟩
theorem AO.w {es : List Expr} {f : DA} {t : TA} (h : PA X es t) (w : ∀ σ H Q, liftA X.K g f σ H Q → t σ H Q) : AO X g es f := ⟨PAw h w⟩
theorem BAO.w {es : List Expr} {f : DA} {t : TA} (h : PA X es t) (w : ∀ σ H Q, liftBA X.K g f σ H Q → t σ H Q) : BAO X g es f := ⟨PAw h w⟩
theorem SO.w {st : Stmt} {f : DM} {t : TS} (h : PS X st t) (w : ∀ E σ H, liftS X.K g f E σ H → t E σ H) : SO X g st f := ⟨PSw h w⟩
theorem SSO.w {st : List Stmt} {f : DM} {t : TS} (h : PSs X st t) (w : ∀ E σ H, liftS X.K g f E σ H → t E σ H) : SSO X g st f := ⟨a7k h w⟩
theorem EO.b (h : EO X g e f) : BO X g e f := BO.w h.pe fun σ H Q ⟨fa, O, s, d, s', I, e, k⟩ => ⟨fa, O, s, d, s', I, e, fun v H' fa' O' a I' r => k v H' fa' O' a I' (r.b fun _ z => .inr (.inr z))⟩
noncomputable def l6 (f : DA) : DE := fun s => (f s).map fun p => (.lst p.1, p.2)
theorem X2 {K : PySem.W.Frag} {σ : L2.St} {H H' : Hp} {fa fa' : Option Addr} {O O' : List Addr} {s s' : DS} {p : Addr} (I : GI K g σ H fa O s) (a : StE fa O H fa' O' H') (I' : GI K g σ H' fa' O' s') (e : H p = none) (e' : fa' ≠ some p) : ¬ NN g.F fa' O' p := by
 rintro (z | z | z)
 ·exact I.trF z e
 ·obtain ⟨ys, q⟩ := I.owned (a.sub p z)
  rw [e] at q; cases q
 ·exact e' z
theorem FO.v {f : DA} (h : FO X g e f) : EO X g e (l6 f) := EO.w h.pe fun σ H Q hQ => by
 refine hQ.elim fun fa O s d s' I e k => ?_
 simp only [l6] at e
 cases q : f s with
 | none => rw [q] at e; cases e
 | some p =>
  obtain ⟨ds, s1⟩ := p
  rw [q] at e
  simp only [Option.map_some, Option.some.injEq, Prod.mk.injEq] at e
  obtain ⟨e1, e2⟩ := e
  subst e1; subst e2
  refine ⟨fa, O, s, ds, s1, I, q, fun p xs H' fa' O' a L e1 => k _ H' fa' O' a L.gi ?_⟩
  simp only [Rep]
  exact ⟨p, xs, rfl, X2 I a L.gi e1 L.nf, L.ls, Reps.go ⟨fun b ys n q => ⟨q, fun z => n (.inl z)⟩, fun _ _ q => q, fun _ _ q => q, fun _ q => q⟩ ds xs L.rs⟩
end
theorem Z2 {g : Gh} {K : PySem.W.Frag} {σ : L2.St} {H : Hp} {fa : Option Addr} {O : List Addr} {s : DS} {p : Addr} {o : HO} (I : GI K g σ H fa O s) (hp : H p = none) : Car K (NN g.F fa O) fa H (fun b => NN g.F fa O b ∨ b = p) fa (upd H p o) := by
 have c := I.car (A4 (fa := fa) (O := O) (o := o) hp).stp
 refine ⟨fun b xs n q => ?_, c.tp, c.fz, c.fe⟩
 obtain ⟨q', n'⟩ := c.ls b xs n q
 refine ⟨q', ?_⟩
 rintro (z | z)
 ·exact n' z
 ·subst z
  rw [hp] at q; cases q
theorem L1 {g : Gh} {K : PySem.W.Frag} {σ : L2.St} {H : Hp} {fa : Option Addr} {O : List Addr} {s : DS} {p : Addr} {ds : List D} {xs : List V} (I : GI K g σ H fa O s) (hp : H p = none) (r : Reps K (NN g.F fa O) fa H ds xs) : NewL K g σ (upd H p (.lst xs)) fa O s p xs ds :=
 ⟨I.new hp, u9, SlR.go (Z2 I hp) (fun b ys _ e => by rw [l8 (F3 e hp)]; exact e) I.sl, I.fd.car (Z2 I hp) (I.fd.same_new hp), Reps.go (Z2 I hp) ds xs r, fun z => I.fd.tracked z hp⟩
noncomputable def dC (d : D) : DE := fun s => some (d, s)
noncomputable def dV (i : Nat) : DE := fun s => match s.sl[i]? with
 | some (.val d) => some (d, s)
 | some (.own ds) => some (.lst ds, { s with sl := s.sl.set i (.val (.lst ds)) })
 | _ => none
noncomputable def dL (i : Nat) : DE := fun s => match s.sl[i]? with
 | some (.val d) => some (d, s)
 | some (.own ds) => some (.lst ds, s)
 | _ => none
section
variable {X : Cx} {g : Gh}
theorem c5 {i : Nat} {x : Str} {pos : Pos} (h : PE X (.Name x pos) (L0 i)) : BO X g (.Name x pos) (dL i) := BO.w h fun σ H Q hQ => by
 refine hQ.elim fun fa O s d s' I e k => ?_
 simp only [dL] at e
 cases q : s.sl[i]? with
 | none => rw [q] at e; cases e
 | some z =>
  rw [q] at e
  cases z with
  | no => cases e
  | val d' =>
   cases e
   obtain ⟨u, e1, r⟩ := SlR.val I.sl q
   exact ⟨u, e1, k u H fa O StE.refl I (r.b fun _ z => .inr (.inr z))⟩
  | own ds =>
   cases e
   obtain ⟨a, xs, e1, m, e2, r⟩ := SlR.own I.sl q
   exact ⟨_, e1, k _ H fa O StE.refl I ⟨a, xs, rfl, fun z => I.nf a z m, e2, r⟩⟩
theorem c8 {i : Nat} {x : Str} {pos : Pos} (h : PE X (.Name x pos) (L0 i)) : EO X g (.Name x pos) (dV i) := EO.w h fun σ H Q hQ => by
 refine hQ.elim fun fa O s d s' I e k => ?_
 simp only [dV] at e
 cases q : s.sl[i]? with
 | none => rw [q] at e; cases e
 | some z =>
  rw [q] at e
  cases z with
  | no => cases e
  | val d' =>
   cases e
   obtain ⟨u, e1, r⟩ := SlR.val I.sl q
   exact ⟨u, e1, k u H fa O StE.refl I r⟩
  | own ds =>
   cases e
   obtain ⟨a, xs, e1, m, e2, r⟩ := SlR.own I.sl q
   have i' : i < s.sl.length := (List.getElem?_eq_some_iff.mp q).1
   let N1 : Addr → Prop := fun b => NN g.F fa O b ∧ b ≠ a
   have c1 : Car X.K (NN g.F fa O) fa H N1 fa H := ⟨fun b ys n z => ⟨z, fun y => n y.1⟩, fun _ _ z => z, fun _ _ z => z, fun _ z => z⟩
   have S1 := SlR.go c1 (fun _ _ _ z => z) I.sl
   have R1 : Rep X.K N1 fa H (.lst ds) (.ref a) := by
    simp only [Rep]
    exact ⟨a, xs, rfl, fun z => z.2 rfl, e2, Reps.go c1 ds xs r⟩
   obtain ⟨P, hs, S2, hn⟩ := SlR.put i S1 R1
   have na : a ∉ P := hn I.nd a (by rw [q]; rfl) ⟨ds, q⟩ e1
   have eσ : σ.set i (some (V.ref a)) = σ := by
    apply List.ext_getElem?
    intro j
    by_cases hj : j = i
    ·subst hj
     rw [e1, List.getElem?_set_self (List.getElem?_eq_some_iff.mp e1).1]
    ·rw [List.getElem?_set_ne (Ne.symm hj)]
   rw [eσ] at S2
   have sub : ∀ b ∈ P, b ∈ O := fun b hb => hs.subset hb
   have a1 : StE fa O H fa P H := ⟨sub, .inl rfl, fun _ _ z _ => z, fun _ z => z⟩
   have c2 : Car X.K N1 fa H (NN g.F fa P) fa H := ⟨fun b ys n z => ⟨z, fun y => n ⟨by
     rcases y with y | y | y
     ·exact .inl y
     ·exact .inr (.inl (sub b y))
     ·exact .inr (.inr y), fun w => by
     subst w
     rcases y with y | y | y
     ·exact I.tr b y (I.fr b m)
     ·exact na y
     ·exact I.nf b y m⟩⟩, fun _ _ z => z, fun _ _ z => z, fun _ z => z⟩
   refine ⟨_, e1, k _ H fa P a1 ⟨hs.nodup I.nd, SlR.go c2 (fun _ _ _ z => z) S2, fun b hb => I.fr b (sub b hb), I.st, I.tr, I.ff, (I.fd.car c1 fun _ _ => rfl).car c2 fun _ _ => rfl, fun b z y => I.nf b z (sub b y)⟩ (Rep.go c2 _ _ R1)⟩
theorem V3 {e : Expr} {v : V} {d : D} (h : PE X e (tC v)) (r : ∀ K N fa H, Rep K N fa H d v) : EO X g e (dC d) := EO.w h fun σ H Q hQ => by
 refine hQ.elim fun fa O s d' s' I q k => ?_
 simp only [dC, Option.some.injEq, Prod.mk.injEq] at q
 obtain ⟨q1, q2⟩ := q
 subst q1; subst q2
 exact k v H fa O StE.refl I (r _ _ _ _)
theorem a7 {i j pos} : EO X g (.Constant (.int i) j pos) (dC (.int i)) := V3 P4 fun _ _ _ _ => by simp only [Rep]
theorem Q8 {i j pos} : EO X g (.Constant (.bool i) j pos) (dC (.bl i)) := V3 b0m fun _ _ _ _ => by simp only [Rep]
theorem a86 {j pos} : EO X g (.Constant .none j pos) (dC .non) := V3 a65 fun _ _ _ _ => by simp only [Rep]
theorem u8 {x j pos} (hx : x.length ≤ sizeLine) : EO X g (.Constant (.str x) j pos) (dC (.str x)) := V3 O9 fun _ _ _ _ => by simp only [Rep]; exact ⟨trivial, hx⟩
end
noncomputable def R2D (K : PySem.W.Frag) (r : R2) (p : D → D → Option D) : Prop :=
 ∀ (g : Gh) (σ : L2.St) (H : Hp) (fa : Option Addr) (O : List Addr) (s : DS) (x y : V) (d1 d2 d : D) (Q : VK), GI K g σ H fa O s → RepB K (NN g.F fa O) fa H d1 x → RepB K (NN g.F fa O) fa H d2 y → p d1 d2 = some d →
  (∀ v H', StE fa O H fa O H' → GI K g σ H' fa O s → Rep K (NN g.F fa O) fa H' d v → Q v H') → r x y H Q
noncomputable def R1D (K : PySem.W.Frag) (r : V → Hp → VK → Prop) (p : D → Option D) : Prop :=
 ∀ (g : Gh) (σ : L2.St) (H : Hp) (fa : Option Addr) (O : List Addr) (s : DS) (x : V) (d1 d : D) (Q : VK), GI K g σ H fa O s → RepB K (NN g.F fa O) fa H d1 x → p d1 = some d →
  (∀ v H', StE fa O H fa O H' → GI K g σ H' fa O s → Rep K (NN g.F fa O) fa H' d v → Q v H') → r x H Q
noncomputable def R2F (K : PySem.W.Frag) (r : R2) (p : D → D → Option (List D)) : Prop :=
 ∀ (g : Gh) (σ : L2.St) (H : Hp) (fa : Option Addr) (O : List Addr) (s : DS) (x y : V) (d1 d2 : D) (ds : List D) (Q : VK), GI K g σ H fa O s → RepB K (NN g.F fa O) fa H d1 x → RepB K (NN g.F fa O) fa H d2 y → p d1 d2 = some ds →
  (∀ q xs H', StE fa O H fa O H' → NewL K g σ H' fa O s q xs ds → H q = none → Q (.ref q) H') → r x y H Q
noncomputable def RCD (K : PySem.W.Frag) (r : List V → Hp → VK → Prop) (p : List D → Option D) : Prop :=
 ∀ (g : Gh) (σ : L2.St) (H : Hp) (fa : Option Addr) (O : List Addr) (s : DS) (xs : List V) (ds : List D) (d : D) (Q : VK), GI K g σ H fa O s → K6 K (NN g.F fa O) fa H ds xs → p ds = some d →
  (∀ v H', StE fa O H fa O H' → GI K g σ H' fa O s → Rep K (NN g.F fa O) fa H' d v → Q v H') → r xs H Q
noncomputable def RCF (K : PySem.W.Frag) (r : List V → Hp → VK → Prop) (p : List D → Option (List D)) : Prop :=
 ∀ (g : Gh) (σ : L2.St) (H : Hp) (fa : Option Addr) (O : List Addr) (s : DS) (xs : List V) (ds es : List D) (Q : VK), GI K g σ H fa O s → K6 K (NN g.F fa O) fa H ds xs → p ds = some es →
  (∀ q ys H', StE fa O H fa O H' → NewL K g σ H' fa O s q ys es → H q = none → Q (.ref q) H') → r xs H Q
noncomputable def dOp (p : D → D → Option D) (a b : DE) : DE := fun s => (a s).bind fun x => (b x.2).bind fun y => (p x.1 y.1).map fun d => (d, y.2)
noncomputable def L6 (p : D → D → Option (List D)) (a b : DE) : DA := fun s => (a s).bind fun x => (b x.2).bind fun y => (p x.1 y.1).map fun d => (d, y.2)
noncomputable def dUn (p : D → Option D) (a : DE) : DE := fun s => (a s).bind fun x => (p x.1).map fun d => (d, x.2)
theorem a3y {α : Type} {p : D → D → Option α} {a b : DE} {s s' : DS} {d : α} (h : ((a s).bind fun x => (b x.2).bind fun y => (p x.1 y.1).map fun d => (d, y.2)) = some (d, s')) : ∃ x s1 y, a s = some (x, s1) ∧ b s1 = some (y, s') ∧ p x y = some d := by
 refine m6 h fun x s1 h1 h => ?_
 refine m6 h fun y s2 h2 h => ?_
 refine L4 h fun d' h3 h => ?_
 simp only [Prod.mk.injEq] at h
 obtain ⟨e1, e2⟩ := h
 subst e1; subst e2
 exact ⟨x, s1, y, h1, h2, h3⟩
section
variable {X : Cx} {g : Gh} {a b : Expr} {fa fb : DE} {pos : Pos} {r : R2} {p : D → D → Option D}
theorem V4 {r : R2} {p : D → D → Option D} (hr : R2D X.K r p) (σ : L2.St) (H : Hp) (Q : VK) (h : liftE X.K g (dOp p fa fb) σ H Q) : tOp r (liftB X.K g fa) (liftB X.K g fb) σ H Q := by
 obtain ⟨f0, O, s, d, s', I, e, k⟩ := h
 obtain ⟨x, s1, y, h1, h2, h3⟩ := a3y e
 refine ⟨f0, O, s, x, s1, I, h1, fun v H1 f1 O1 a1 I1 r1 => ⟨f1, O1, s1, y, s', I1, h2, fun u H2 f2 O2 a2 I2 r2 => ?_⟩⟩
 exact hr g σ H2 f2 O2 s' v u x y d Q I2 (RepB.stp I1 a2 r1) r2 h3 fun z H3 a3 I3 r3 => k z H3 f2 O2 (a1.trans (a2.trans a3)) I3 r3
theorem a7A {r : R2} {p : D → D → Option (List D)} (hr : R2F X.K r p) (σ : L2.St) (H : Hp) (Q : VK) (h : liftF X.K g (L6 p fa fb) σ H Q) : tOp r (liftB X.K g fa) (liftB X.K g fb) σ H Q := by
 obtain ⟨f0, O, s, d, s', I, e, k⟩ := h
 obtain ⟨x, s1, y, h1, h2, h3⟩ := a3y e
 refine ⟨f0, O, s, x, s1, I, h1, fun v H1 f1 O1 a1 I1 r1 => ⟨f1, O1, s1, y, s', I1, h2, fun u H2 f2 O2 a2 I2 r2 => ?_⟩⟩
 exact hr g σ H2 f2 O2 s' v u x y d Q I2 (RepB.stp I1 a2 r1) r2 h3 fun q xs H3 a3 L e1 => k q xs H3 f2 O2 (a1.trans (a2.trans a3)) L (a1.mon _ (a2.mon _ e1))
theorem j5 {op : Operator} (ho : OpR X (binaryOp op) r) (hr : R2D X.K r p) (ha : BO X g a fa) (hb : BO X g b fb) : EO X g (.BinOp a op b pos) (dOp p fa fb) := EO.w (a4n ho ha.pe hb.pe) (V4 hr)
theorem Y5 {op : Operator} {p : D → D → Option (List D)} (ho : OpR X (binaryOp op) r) (hr : R2F X.K r p) (ha : BO X g a fa) (hb : BO X g b fb) : FO X g (.BinOp a op b pos) (L6 p fa fb) := FO.w (a4n ho ha.pe hb.pe) (a7A hr)
theorem X6 {op : CmpOp} (ho : OpR X (compareOp op) r) (hr : R2D X.K r p) (ha : BO X g a fa) (hb : BO X g b fb) (hm : behindInMarks op b = false) : EO X g (.Compare a [op] [b] pos) (dOp p fa fb) := EO.w (a9H ho ha.pe hb.pe hm) (V4 hr)
theorem e8 {r : R2} (ho : IxR X r) (hr : R2D X.K r p) (ha : BO X g a fa) (hb : BO X g b fb) (hs : a2Y b) : EO X g (.Subscript a b pos) (dOp p fa fb) := EO.w (a4N ho ha.pe hb.pe hs) (V4 hr)
theorem o8 {op : UnaryOp} {r : V → Hp → VK → Prop} {p : D → Option D} (ho : UnR X (unaryOp op) r) (hr : R1D X.K r p) (ha : BO X g a fa) : EO X g (.UnaryOp op a pos) (dUn p fa) := EO.w (a79 ho ha.pe) fun σ H Q hQ => by
 refine hQ.elim fun f0 O s d s' I e k => ?_
 refine m6 e fun x s1 h1 h => ?_
 refine L4 h fun d' h3 h => ?_
 simp only [Prod.mk.injEq] at h
 obtain ⟨e1, e2⟩ := h
 subst e1; subst e2
 exact ⟨f0, O, s, x, s1, I, h1, fun v H1 f1 O1 a1 I1 r1 => hr g σ H1 f1 O1 s1 v x d' Q I1 r1 h3 fun z H3 a3 I3 r3 => k z H3 f1 O1 (a1.trans a3) I3 r3⟩
noncomputable def dB (f : DE) : DT := fun s => (f s).bind fun x => match x.1 with | .bl b => some (b, x.2) | _ => none
theorem a1c {f : DE} {s s' : DS} {b : Bool} (h : dB f s = some (b, s')) : f s = some (.bl b, s') := by
 refine m6 h fun x s1 h1 h => ?_
 cases x with
 | bl c => simp only [Option.some.injEq, Prod.mk.injEq] at h; rw [h1, h.1, h.2]
 | _ => cases h
theorem n8 {op : CmpOp} (ho : OpR X (compareOp op) r) (hr : R2D X.K r p) (ha : BO X g a fa) (hb : BO X g b fb) (hm : behindInMarks op b = false) : TO X g (.Compare a [op] [b] pos) (dB (dOp p fa fb)) :=
 TO.w (b0f ho ha.pe hb.pe hm) fun σ H Q ⟨f0, O, s, d, s', I, e, k⟩ => V4 hr σ H _ ⟨f0, O, s, .bl d, s', I, a1c e, fun v H' f1 O1 a I1 r => by
  simp only [Rep] at r
  exact ⟨d, r, k H' f1 O1 a I1⟩⟩
noncomputable def C7 : D → Option Bool
 | .non => some false
 | .bl b => some b
 | .int i => some (i != 0)
 | .str x => some ((x.length : Int) != 0)
 | .tup ds => some (!ds.isEmpty)
 | .lst ds => some (!ds.isEmpty)
 | _ => none
noncomputable def dTr (f : DE) : DT := fun s => (f s).bind fun x => (C7 x.1).map fun b => (b, x.2)
theorem a4x {α β : Type} {xs : List α} {ys : List β} (h : xs.length = ys.length) : xs.isEmpty = ys.isEmpty := by cases xs <;> cases ys <;> simp_all
theorem a9m {e : Expr} {f : DE} (h : BO X g e f) (he : ∀ whole, isTrue e X.env whole = (do let v ← whole; standAt e.pos; holding [v] (truthy v)) := by intro _; rfl) : TO X g e (dTr f) :=
 TO.w (a9w h.pe he) fun σ H Q hQ => by
  refine hQ.elim fun f0 O s d s' I e k => ?_
  obtain ⟨⟨x, s1⟩, h1, h.pe⟩ := Option.bind_eq_some_iff.mp e
  obtain ⟨d', h3, h.pe⟩ := Option.map_eq_some_iff.mp h.pe
  simp only [Prod.mk.injEq] at h.pe
  obtain ⟨e1, e2⟩ := h.pe
  subst e1; subst e2
  refine ⟨f0, O, s, x, s1, I, h1, fun v H' f1 O1 a I1 r => ⟨d', ?_, k H' f1 O1 a I1⟩⟩
  cases x with
  | non => simp only [RepB, Rep] at r; subst r; cases h3; rfl
  | bl b => simp only [RepB, Rep] at r; subst r; cases h3; rfl
  | int i => simp only [RepB, Rep] at r; subst r; cases h3; rfl
  | str x => simp only [RepB, Rep] at r; obtain ⟨r, l⟩ := r; subst r; cases h3; exact ⟨l, rfl⟩
  | tup ds =>
   simp only [RepB, Rep] at r
   obtain ⟨c, xs, r, q, w⟩ := r
   subst r; cases h3
   exact .inr (.inl ⟨xs, q, by rw [a4x w.length]⟩)
  | lst ds =>
   obtain ⟨c, xs, r, _, q, w⟩ := r
   subst r; cases h3
   exact .inl ⟨xs, SqL.of q, by rw [a4x w.length]⟩
  | feed => cases h3
  | scr _ => cases h3
noncomputable def v3 (a b : DT) : DT := fun s => (a s).bind fun x => if x.1 = true then b x.2 else some (false, x.2)
noncomputable def dOr (a b : DT) : DT := fun s => (a s).bind fun x => if x.1 = true then some (true, x.2) else b x.2
noncomputable def A8 (a : DT) : DT := fun s => (a s).map fun x => (!x.1, x.2)
noncomputable def t5 (a b : DE) : DE := fun s => (dB a s).bind fun x => if x.1 = true then b x.2 else some (.bl false, x.2)
noncomputable def E1 (a b : DE) : DE := fun s => (dB a s).bind fun x => if x.1 = true then some (.bl true, x.2) else b x.2
noncomputable def y9 (a : DE) : DE := fun s => (dB a s).map fun x => (.bl (!x.1), x.2)
variable {ta tb : DT} {rest : List Expr}
theorem a4L (h : TO X g a ta) : WO X g (.BoolOp .And [a] pos) ta := ⟨a5L h.pe⟩
theorem a6l (h : TO X g a ta) : WO X g (.BoolOp .Or [a] pos) ta := ⟨a88 h.pe⟩
theorem a0k (ha : TO X g a ta) (hb : WO X g (.BoolOp .And (b :: rest) pos) tb) : WO X g (.BoolOp .And (a :: b :: rest) pos) (v3 ta tb) := WO.w (a78 ha.pe hb.pe) fun σ H Q hQ => by
 refine hQ.elim fun f0 O s d s' I e k => ?_
 refine m6 e fun x s1 h1 h => ?_
 refine ⟨f0, O, s, x, s1, I, h1, fun H1 f1 O1 a1 I1 => ?_⟩
 cases x with
 | true => rw [if_pos rfl] at h ⊢; exact ⟨f1, O1, s1, d, s', I1, h, fun H2 f2 O2 a2 I2 => k H2 f2 O2 (a1.trans a2) I2⟩
 | false =>
  rw [if_neg Bool.false_ne_true] at h ⊢
  simp only [Option.some.injEq, Prod.mk.injEq] at h
  obtain ⟨e1, e2⟩ := h
  subst e1; subst e2
  exact k H1 f1 O1 a1 I1
theorem a7y (ha : TO X g a ta) (hb : WO X g (.BoolOp .Or (b :: rest) pos) tb) : WO X g (.BoolOp .Or (a :: b :: rest) pos) (dOr ta tb) := WO.w (a9O ha.pe hb.pe) fun σ H Q hQ => by
 refine hQ.elim fun f0 O s d s' I e k => ?_
 refine m6 e fun x s1 h1 h => ?_
 refine ⟨f0, O, s, x, s1, I, h1, fun H1 f1 O1 a1 I1 => ?_⟩
 cases x with
 | false => rw [if_neg Bool.false_ne_true] at h ⊢; exact ⟨f1, O1, s1, d, s', I1, h, fun H2 f2 O2 a2 I2 => k H2 f2 O2 (a1.trans a2) I2⟩
 | true =>
  rw [if_pos rfl] at h ⊢
  simp only [Option.some.injEq, Prod.mk.injEq] at h
  obtain ⟨e1, e2⟩ := h
  subst e1; subst e2
  exact k H1 f1 O1 a1 I1
theorem WO.t {e : Expr} {f : DT} (h : WO X g e f) : TO X g e f := ⟨h.pe.pt⟩
theorem a9Q (ha : TO X g a ta) : TO X g (.UnaryOp .Not a pos) (A8 ta) := TO.w (a64 ha.pe) fun σ H Q hQ => by
 refine hQ.elim fun f0 O s d s' I e k => ?_
 refine mapP e fun x s1 h1 h => ?_
 simp only [Prod.mk.injEq] at h
 obtain ⟨e1, e2⟩ := h
 subst e1; subst e2
 exact ⟨f0, O, s, x, s1, I, h1, fun H1 f1 O1 a1 I1 => k H1 f1 O1 a1 I1⟩
theorem a0c {op} {f : DE} (h : EO X g a f) : EO X g (.BoolOp op [a] pos) f := ⟨a6M h.pe⟩
theorem U2 (ha : EO X g a fa) (hb : EO X g (.BoolOp .And (b :: rest) pos) fb) : EO X g (.BoolOp .And (a :: b :: rest) pos) (t5 fa fb) := EO.w (a6y ha.pe hb.pe) fun σ H Q hQ => by
 refine hQ.elim fun f0 O s d s' I e k => ?_
 refine m6 e fun x s1 h1 h => ?_
 refine ⟨f0, O, s, _, s1, I, a1c h1, fun v H1 f1 O1 a1 I1 r => ⟨x, by simpa only [Rep] using r, ?_⟩⟩
 cases x with
 | true => rw [if_pos rfl] at h ⊢; exact ⟨f1, O1, s1, d, s', I1, h, fun v H2 f2 O2 a2 I2 => k v H2 f2 O2 (a1.trans a2) I2⟩
 | false =>
  rw [if_neg Bool.false_ne_true] at h ⊢
  simp only [Option.some.injEq, Prod.mk.injEq] at h
  obtain ⟨e1, e2⟩ := h
  subst e1; subst e2
  exact k _ H1 f1 O1 a1 I1 (by simp only [Rep])
theorem a2R (ha : EO X g a fa) : EO X g (.UnaryOp .Not a pos) (y9 fa) := EO.w (a7a ha.pe) fun σ H Q hQ => by
 refine hQ.elim fun f0 O s d s' I e k => ?_
 refine mapP e fun x s1 h1 h => ?_
 simp only [Prod.mk.injEq] at h
 obtain ⟨e1, e2⟩ := h
 subst e1; subst e2
 exact ⟨f0, O, s, _, s1, I, a1c h1, fun v H1 f1 O1 a1 I1 r => ⟨x, by simpa only [Rep] using r, k _ H1 f1 O1 a1 I1 (by simp only [Rep])⟩⟩
noncomputable def dIf (c : DT) (a b : DE) : DE := fun s => (c s).bind fun x => if x.1 = true then a x.2 else b x.2
theorem a0v {c : Expr} {fc : DT} (hc : TO X g c fc) (ha : EO X g a fa) (hb : EO X g b fb) : EO X g (.IfExp c a b pos) (dIf fc fa fb) := EO.w (a8j hc.pe ha.pe hb.pe) fun σ H Q hQ => by
 refine hQ.elim fun f0 O s d s' I e k => ?_
 refine m6 e fun x s1 h1 h => ?_
 refine ⟨f0, O, s, x, s1, I, h1, fun H1 f1 O1 a1 I1 => ?_⟩
 cases x with
 | false => rw [if_neg Bool.false_ne_true] at h ⊢; exact ⟨f1, O1, s1, d, s', I1, h, fun v H2 f2 O2 a2 I2 => k v H2 f2 O2 (a1.trans a2) I2⟩
 | true => rw [if_pos rfl] at h ⊢; exact ⟨f1, O1, s1, d, s', I1, h, fun v H2 f2 O2 a2 I2 => k v H2 f2 O2 (a1.trans a2) I2⟩
noncomputable def a8 : DA := fun s => some ([], s)
noncomputable def a6 (a : DE) (r : DA) : DA := fun s => (a s).bind fun x => (r x.2).map fun y => (x.1 :: y.1, y.2)
theorem Z0 {a : DE} {r : DA} {s s' : DS} {ds : List D} (h : a6 a r s = some (ds, s')) : ∃ d s1 es, a s = some (d, s1) ∧ r s1 = some (es, s') ∧ ds = d :: es := by
 refine m6 h fun x s1 h1 h => ?_
 refine mapP h fun y s2 h2 h => ?_
 simp only [Prod.mk.injEq] at h
 exact ⟨x, s1, y, h1, by rw [h2, h.2], h.1.symm⟩
variable {es : List Expr} {fr : DA}
theorem a9 : AO X g [] a8 := AO.w a0a fun σ H Q hQ => by
 refine hQ.elim fun f0 O s d s' I e k => ?_
 simp only [a8, Option.some.injEq, Prod.mk.injEq] at e
 obtain ⟨e1, e2⟩ := e
 subst e1; subst e2
 exact k [] H f0 O StE.refl I (by simp only [Reps])
theorem a4X (ha : EO X g a fa) (hr : AO X g es fr) (hs : starEach (a :: es) X.env = (false, eval a X.env) :: starEach es X.env := by rfl) : AO X g (a :: es) (a6 fa fr) := AO.w (Q4 ha.pe hr.pe hs) fun σ H Q hQ => by
 refine hQ.elim fun f0 O s ds s' I e k => ?_
 obtain ⟨d, s1, es, h1, h2, h3⟩ := Z0 e
 subst h3
 refine ⟨f0, O, s, d, s1, I, h1, fun v H1 f1 O1 a1 I1 r1 => ⟨f1, O1, s1, es, s', I1, h2, fun vs H2 f2 O2 a2 I2 r2 => ?_⟩⟩
 refine k (v :: vs) H2 f2 O2 (a1.trans a2) I2 ?_
 simp only [Reps]
 exact ⟨v, vs, rfl, Rep.stp I1 a2.stp r1, r2⟩
theorem p7 : BAO X g [] a8 := BAO.w a0a fun σ H Q hQ => by
 refine hQ.elim fun f0 O s d s' I e k => ?_
 simp only [a8, Option.some.injEq, Prod.mk.injEq] at e
 obtain ⟨e1, e2⟩ := e
 subst e1; subst e2
 exact k [] H f0 O StE.refl I (by simp only [K6])
theorem a66 (ha : BO X g a fa) (hr : BAO X g es fr) (hs : starEach (a :: es) X.env = (false, eval a X.env) :: starEach es X.env := by rfl) : BAO X g (a :: es) (a6 fa fr) := BAO.w (Q4 ha.pe hr.pe hs) fun σ H Q hQ => by
 refine hQ.elim fun f0 O s ds s' I e k => ?_
 obtain ⟨d, s1, es, h1, h2, h3⟩ := Z0 e
 subst h3
 refine ⟨f0, O, s, d, s1, I, h1, fun v H1 f1 O1 a1 I1 r1 => ⟨f1, O1, s1, es, s', I1, h2, fun vs H2 f2 O2 a2 I2 r2 => ?_⟩⟩
 exact k (v :: vs) H2 f2 O2 (a1.trans a2) I2 ⟨v, vs, rfl, RepB.stp I1 a2 r1, r2⟩
noncomputable def c7 (f : DA) : DE := fun s => (f s).bind fun x => if x.1.length ≤ sizeLine then some (.tup x.1, x.2) else none
noncomputable def l5 (f : DA) : DA := fun s => (f s).bind fun x => if x.1.length ≤ sizeLine then some (x.1, x.2) else none
theorem i3 {x1} (h : AO X g es fr) : EO X g (.Tuple es x1 pos) (c7 fr) := EO.w (a60 h.pe) fun σ H Q hQ => by
 refine hQ.elim fun f0 O s d s' I e k => ?_
 obtain ⟨⟨ds, s1⟩, h1, h.pe⟩ := Option.bind_eq_some_iff.mp e
 by_cases hl : ds.length ≤ sizeLine
 ·rw [if_pos hl] at h.pe
  simp only [Option.some.injEq, Prod.mk.injEq] at h.pe
  obtain ⟨e1, e2⟩ := h.pe
  subst e1; subst e2
  refine ⟨f0, O, s, ds, s1, I, h1, fun vs H1 f1 O1 a1 I1 r1 => ⟨by rw [r1.length]; exact hl, fun p hp => ?_⟩⟩
  have a2 : StE f1 O1 H1 f1 O1 (upd H1 p (.tup vs)) := A4 hp
  refine k _ _ f1 O1 (a1.trans a2) (I1.new hp) ?_
  simp only [Rep]
  exact ⟨p, vs, rfl, SqT.of u9, Reps.stp I1 a2.stp r1⟩
 ·rw [if_neg hl] at h.pe; cases h.pe
theorem o9 (h : AO X g es fr) : FO X g (.List es pos) (l5 fr) := FO.w (a4I h.pe) fun σ H Q hQ => by
 refine hQ.elim fun f0 O s d s' I e k => ?_
 obtain ⟨⟨ds, s1⟩, h1, h.pe⟩ := Option.bind_eq_some_iff.mp e
 by_cases hl : ds.length ≤ sizeLine
 ·rw [if_pos hl] at h.pe
  simp only [Option.some.injEq, Prod.mk.injEq] at h.pe
  obtain ⟨e1, e2⟩ := h.pe
  subst e1; subst e2
  refine ⟨f0, O, s, ds, s1, I, h1, fun vs H1 f1 O1 a1 I1 r1 => ⟨by rw [r1.length]; exact hl, fun p hp => ?_⟩⟩
  have a2 : StE f1 O1 H1 f1 O1 (upd H1 p (.lst vs)) := A4 hp
  exact k p vs _ f1 O1 (a1.trans a2) (L1 I1 hp r1) (a1.mon _ hp)
 ·rw [if_neg hl] at h.pe; cases h.pe
end
section
variable {K : PySem.W.Frag} {g : Gh} {σ : L2.St} {H H' : Hp} {fa fa' : Option Addr} {O O' : List Addr} {s s' : DS}
theorem NN.mono {F : Addr → Prop} {P : List Addr} (h : ∀ b ∈ P, b ∈ O) {b : Addr} (z : NN F fa P b) : NN F fa O b := by
 rcases z with z | z | z
 ·exact .inl z
 ·exact .inr (.inl (h b z))
 ·exact .inr (.inr z)
theorem a4D {F : Addr → Prop} {N : Addr → Prop} (h : ∀ b, NN F fa O b → N b) : Car K N fa H (NN F fa O) fa H := ⟨fun b xs n q => ⟨q, fun z => n (h b z)⟩, fun _ _ q => q, fun _ _ q => q, fun _ q => q⟩
theorem DI.put (I : GI K g σ H fa O s) (i : Nat) {d : D} {v : V} (r : Rep K (NN g.F fa O) fa H d v) : ∃ P, (∀ b ∈ P, b ∈ O) ∧ GI K g (σ.set i (some v)) H fa P { s with sl := s.sl.set i (.val d) } := by
 obtain ⟨P, hs, S, _⟩ := SlR.put i I.sl r
 have sub : ∀ b ∈ P, b ∈ O := fun b hb => hs.subset hb
 have c : Car K (NN g.F fa O) fa H (NN g.F fa P) fa H := a4D fun b => NN.mono sub
 exact ⟨P, sub, hs.nodup I.nd, SlR.go c (fun _ _ _ z => z) S, fun b hb => I.fr b (sub b hb), I.st, I.tr, I.ff, I.fd.car c fun _ _ => rfl, fun b z y => I.nf b z (sub b y)⟩
theorem V6 {P : List Addr} (h : ∀ b ∈ P, b ∈ O) : StE fa O H fa P H := ⟨h, .inl rfl, fun _ _ e _ => e, fun _ e => e⟩
theorem NewL.put {p : Addr} {xs : List V} {ds : List D} (L : NewL K g σ H fa O s p xs ds) (i : Nat) (hi : i < s.sl.length) (h0 : g.H0 p = none) (hp : p ∉ O) : ∃ P, (∀ b ∈ P, b = p ∨ b ∈ O) ∧ GI K g (σ.set i (some (.ref p))) H fa P { s with sl := s.sl.set i (.own ds) } := by
 obtain ⟨P, h1, h2, S⟩ := SlR.putN i L.sl hi hp L.gi.nd L.ls L.rs
 have c : Car K (fun b => NN g.F fa O b ∨ b = p) fa H (NN g.F fa P) fa H := a4D fun b z => by
  rcases z with z | z | z
  ·exact .inl (.inl z)
  ·rcases h1 b z with y | y
   ·exact .inr y
   ·exact .inl (.inr (.inl y))
  ·exact .inl (.inr (.inr z))
 refine ⟨P, h1, h2, SlR.go c (fun _ _ _ z => z) S, fun b hb => ?_, L.gi.st, L.gi.tr, L.gi.ff, L.fd.car c fun _ _ => rfl, fun b z hb => ?_⟩
 ·rcases h1 b hb with y | y
  ·rw [y]; exact h0
  ·exact L.gi.fr b y
 ·rcases h1 b hb with y | y
  ·rw [y] at z; exact L.nf z
  ·exact L.gi.nf b z y
theorem DI.rew (I : GI K g σ H fa O s) {i : Nat} {ds es : List D} {a : Addr} {xs ys : List V} (e1 : s.sl[i]? = some (.own ds)) (e2 : σ[i]? = some (some (.ref a))) (m : a ∈ O) (e3 : H a = some (.lst xs)) (r : Reps K (NN g.F fa O) fa H es ys) :
  GI K g σ (upd H a (.lst ys)) fa O { s with sl := s.sl.set i (.own es) } ∧ Stp fa O H fa O (upd H a (.lst ys)) := by
 have a1 : Stp fa O H fa O (upd H a (.lst ys)) := ⟨fun b hb => .inl hb, .inl rfl, fun b u e n _ => by
  rw [l8 (show b ≠ a from fun z => n (by rw [z]; exact m))]; exact e, fun b z => by
  by_cases hb : b = a
  ·subst hb; rw [u9] at z; cases z
  ·rw [l8 hb] at z; exact z⟩
 have c := I.car a1
 have k : ∀ b u, b ≠ a → H b = some u → upd H a (.lst ys) b = some u := fun b u n e => by rw [l8 n]; exact e
 refine ⟨⟨I.nd, SlR.rew I.sl I.nd (fun b hb => .inr (.inl hb)) e1 e2 u9 c k (Reps.go c es ys r), I.fr, ?_, I.tr, I.ff, I.fd.car c fun b hb => ?_, I.nf⟩, a1⟩
 ·refine ⟨fun b hb => (by cases hb), I.st.fe, fun b u e n f => ?_, fun b z => I.st.mon b (a1.mon b z)⟩
  refine k b u (fun z => ?_) (I.st.same b u e n f)
  rw [z, I.fr a m] at e; cases e
 ·refine l8 fun z => ?_
  subst z
  exact I.nf _ hb m
end
theorem FlK.shift {K : PySem.W.Frag} {g : Gh} {E : Ends} {fa fa' : Option Addr} {O O' : List Addr} {H H' : Hp} {fl : Fl} {s : DS} (a : Stp fa O H fa' O' H') (h : FlK K g E fa O H fl s) : FlK K g E fa' O' H' fl s := by
 cases fl with
 | next => exact fun σ' H2 f2 O2 a2 I2 => h σ' H2 f2 O2 (a.trans a2) I2
 | brk => exact fun σ' H2 f2 O2 a2 I2 => h σ' H2 f2 O2 (a.trans a2) I2
 | cont => exact fun σ' H2 f2 O2 a2 I2 => h σ' H2 f2 O2 (a.trans a2) I2
 | ret d => exact fun σ' v H2 f2 O2 a2 I2 => h σ' v H2 f2 O2 (a.trans a2) I2
noncomputable def k9 : DM := fun s => some (.next, s)
noncomputable def B6 (b : DM) (x : Fl × DS) : Option (Fl × DS) := match x.1 with
 | .next => b x.2
 | .brk => some (.brk, x.2)
 | .cont => some (.cont, x.2)
 | .ret d => some (.ret d, x.2)
noncomputable def i4 (a b : DM) : DM := fun s => (a s).bind (B6 b)
section
variable {X : Cx} {g : Gh} {st : Stmt} {rest : List Stmt} {e : Expr} {pos : Pos} {a b : DM} {f : DE}
theorem u6 : SSO X g [] k9 := SSO.w a8I fun E σ H hQ => by
 refine hQ.elim fun fa O s fl s' I e k => ?_
 cases e
 exact k σ H fa O Stp.refl I
theorem j7 (h : SO X g st a) : SSO X g [st] a := ⟨a9s h.pe⟩
theorem j3 (h : SO X g st a) (hr : SSO X g rest b) : SSO X g (st :: rest) (i4 a b) := SSO.w (b0j h.pe hr.pe) fun E σ H hQ => by
 refine hQ.elim fun fa O s fl s' I e k => ?_
 refine m6 e fun f1 s1 h1 h2 => ?_
 refine ⟨fa, O, s, f1, s1, I, h1, ?_⟩
 cases f1 with
 | next => exact fun σ' H' f1 O1 a1 I1 => ⟨f1, O1, s1, fl, s', I1, h2, k.shift a1⟩
 | brk => cases h2; exact k
 | cont => cases h2; exact k
 | ret d => cases h2; exact k
noncomputable def j6 (f : DE) : DM := fun s => (f s).map fun x => (.ret x.1, x.2)
theorem k6 (he : EO X g e f) : SO X g (.Return (some e) pos) (j6 f) := SO.w (a83 he.pe) fun E σ H hQ => by
 refine hQ.elim fun fa O s fl s' I q k => ?_
 refine mapP q fun d s1 h1 h2 => ?_
 cases h2
 exact ⟨fa, O, s, d, s1, I, h1, fun v H' f1 O1 a1 I1 r => k σ v H' f1 O1 a1.stp I1 r⟩
noncomputable def k4 (c : DT) (a b : DM) : DM := fun s => (c s).bind fun x => if x.1 = true then a x.2 else b x.2
theorem u5 {c : Expr} {fc : DT} {la lb : List Stmt} (hc : TO X g c fc) (ha : SSO X g la a) (hb : SSO X g lb b) : SO X g (.If c la lb pos) (k4 fc a b) := SO.w (a8V hc.pe ha.pe hb.pe) fun E σ H hQ => by
 refine hQ.elim fun fa O s fl s' I e k => ?_
 refine m6 e fun x s1 h1 h => ?_
 refine ⟨fa, O, s, x, s1, I, h1, fun H1 f1 O1 a1 I1 => ?_⟩
 cases x with
 | false => rw [if_neg Bool.false_ne_true] at h ⊢; exact ⟨f1, O1, s1, fl, s', I1, h, k.shift a1.stp⟩
 | true => rw [if_pos rfl] at h ⊢; exact ⟨f1, O1, s1, fl, s', I1, h, k.shift a1.stp⟩
noncomputable def liftG (K : PySem.W.Frag) (g : Gh) (t : D → DS → Option DS) : TG := fun v σ H Q => ∃ fa O s d s', GI K g σ H fa O s ∧ Rep K (NN g.F fa O) fa H d v ∧ t d s = some s' ∧ ∀ σ' H' fa' O', Stp fa O H fa' O' H' → GI K g σ' H' fa' O' s' → Q σ' H'
noncomputable def liftGs (K : PySem.W.Frag) (g : Gh) (t : List D → DS → Option DS) : TGs := fun vs σ H Q => ∃ fa O s ds s', GI K g σ H fa O s ∧ Reps K (NN g.F fa O) fa H ds vs ∧ t ds s = some s' ∧ ∀ σ' H' fa' O', Stp fa O H fa' O' H' → GI K g σ' H' fa' O' s' → Q σ' H'
section
variable {K : PySem.W.Frag} {g : Gh} {σ : L2.St} {Q : L2.St → Hp → Prop} {H : Hp} {G : Prop}
theorem liftG.elim {t : D → DS → Option DS} {v : V} (h : liftG K g t v σ H Q) (k : ∀ fa O s d s', GI K g σ H fa O s → Rep K (NN g.F fa O) fa H d v → t d s = some s' → (∀ σ' H' fa' O', Stp fa O H fa' O' H' → GI K g σ' H' fa' O' s' → Q σ' H') → G) : G := by
 obtain ⟨fa, O, s, d, s', a, r, b, c⟩ := h
 exact k fa O s d s' a r b c
theorem liftGs.elim {t : List D → DS → Option DS} {v : List V} (h : liftGs K g t v σ H Q) (k : ∀ fa O s d s', GI K g σ H fa O s → Reps K (NN g.F fa O) fa H d v → t d s = some s' → (∀ σ' H' fa' O', Stp fa O H fa' O' H' → GI K g σ' H' fa' O' s' → Q σ' H') → G) : G := by
 obtain ⟨fa, O, s, d, s', a, r, b, c⟩ := h
 exact k fa O s d s' a r b c
end
structure GO (X : Cx) (g : Gh) (e : Expr) (t : D → DS → Option DS) : Prop where
 pe : PG X e (liftG X.K g t)
structure GsO (X : Cx) (g : Gh) (es : List Expr) (t : List D → DS → Option DS) : Prop where
 pe : PGs X es (liftGs X.K g t)
noncomputable def i5 (i : Nat) (d : D) : DS → Option DS := fun s => some { s with sl := s.sl.set i (.val d) }
theorem PGw {t t' : TG} (h : PG X e t) (w : ∀ v σ H Q, t' v σ H Q → t v σ H Q) : PG X e t' := fun pins s σ H v u Q I r q => h pins s σ H v u Q I r (w v σ H Q q)
theorem a7U {es : List Expr} {t t' : TGs} (h : PGs X es t) (w : ∀ v σ H Q, t' v σ H Q → t v σ H Q) : PGs X es t' := fun pins s σ H v u Q I r q => h pins s σ H v u Q I r (w v σ H Q q)
theorem GO.w {f : D → DS → Option DS} {t : TG} (h : PG X e t) (w : ∀ v σ H Q, liftG X.K g f v σ H Q → t v σ H Q) : GO X g e f := ⟨PGw h w⟩
theorem GsO.w {es : List Expr} {f : List D → DS → Option DS} {t : TGs} (h : PGs X es t) (w : ∀ v σ H Q, liftGs X.K g f v σ H Q → t v σ H Q) : GsO X g es f := ⟨a7U h w⟩
theorem u4 {i : Nat} {x : Str} (h : PG X (.Name x pos) (F5 i)) : GO X g (.Name x pos) (i5 i) := GO.w h fun v σ H Q hQ => by
 refine hQ.elim fun fa O s d s' I r e k => ?_
 cases e
 obtain ⟨P, sub, I'⟩ := I.put i r
 exact k _ H fa P (V6 sub).stp I'
noncomputable def t7 : List D → DS → Option DS
 | [], s => some s
 | _ :: _, _ => none
noncomputable def m5 (t : D → DS → Option DS) (u : List D → DS → Option DS) : List D → DS → Option DS
 | [], _ => none
 | d :: r, s => (t d s).bind (u r)
theorem J3 : GsO X g [] t7 := GsO.w a3h fun v σ H Q hQ => by
 refine hQ.elim fun fa O s ds s' I r e k => ?_
 cases ds with
 | nil => cases e; simp only [Reps] at r; exact ⟨r, k σ H fa O Stp.refl I⟩
 | cons d r' => cases e
theorem w6 {es : List Expr} {t : D → DS → Option DS} {u : List D → DS → Option DS} (h : GO X g e t) (hr : GsO X g es u) (hs : (assignEach (e :: es) X.env).map (·.2) = assign e X.env :: (assignEach es X.env).map (·.2) := by rfl) : GsO X g (e :: es) (m5 t u) :=
 GsO.w (a11 h.pe hr.pe hs) fun v σ H Q hQ => by
  refine hQ.elim fun fa O s ds s' I r e k => ?_
  cases ds with
  | nil => cases e
  | cons d r' =>
   refine J0 e fun s1 h1 h2 => ?_
   simp only [Reps] at r
   obtain ⟨x, ys, rfl, rx, ry⟩ := r
   exact ⟨x, ys, rfl, fa, O, s, d, s1, I, rx, h1, fun σ1 H1 f1 O1 a1 I1 => ⟨f1, O1, s1, r', s', I1, Reps.stp I a1 ry, h2, fun σ2 H2 f2 O2 a2 I2 => k σ2 H2 f2 O2 (a1.trans a2) I2⟩⟩
noncomputable def t3 (n : Nat) (u : List D → DS → Option DS) (d : D) (s : DS) : Option DS := match d with
 | .tup ds => if ds.length = n then u ds s else none
 | _ => none
theorem G4 {es : List Expr} {k : Nat} {n : Nat} {u : List D → DS → Option DS} (hc : X.calm = true) (h : GsO X g es u) (hn : (assignEach es X.env).length = n := by rfl) (hst : (assignEach es X.env).findIdx? (·.1) = none := by rfl) : GO X g (.Tuple es k pos) (t3 n u) :=
 GO.w (a2Z hc h.pe hn hst) fun v σ H Q hQ => by
  refine hQ.elim fun fa O s d s' I r e k => ?_
  cases d with
  | tup ds =>
   simp only [t3] at e
   by_cases hl : ds.length = n
   ·rw [if_pos hl] at e
    simp only [Rep] at r
    obtain ⟨a, xs, rfl, q, w⟩ := r
    exact ⟨a, xs, rfl, q, by rw [w.length]; exact hl, fa, O, s, ds, s', I, w, e, k⟩
   ·rw [if_neg hl] at e; cases e
  | _ => cases e
noncomputable def j4 (f : DE) (t : D → DS → Option DS) : DM := fun s => (f s).bind fun x => (t x.1 x.2).map fun s' => (.next, s')
theorem a2S {f : DE} {t : D → DS → Option DS} (E : Ends) (σ : L2.St) (H : Hp) (h : liftS X.K g (j4 f t) E σ H) : V0 (liftE X.K g f) (liftG X.K g t) E σ H := by
 obtain ⟨fa, O, s, fl, s', I, q, k⟩ := h
 refine m6 q fun d s1 h1 h2 => ?_
 refine L4 h2 fun s2 h3 h4 => ?_
 cases h4
 exact ⟨fa, O, s, d, s1, I, h1, fun v H1 f1 O1 a1 I1 r => ⟨f1, O1, s1, d, _, I1, r, h3, fun σ2 H2 f2 O2 a2 I2 => k σ2 H2 f2 O2 (a1.stp.trans a2) I2⟩⟩
theorem M5 {tg : Expr} {t : D → DS → Option DS} (he : EO X g e f) (hg : GO X g tg t) (hs : swapsWithSole [tg] e pos.line X.env = pure false := by rfl) (hw : swappedStores [tg] e X.env = pure none := by rfl)
  (h1 : (assignEach [tg] X.env).map (·.2) = [assign tg X.env] := by rfl) : SO X g (.Assign [tg] e pos) (j4 f t) := SO.w (a2H he.pe hg.pe hs hw h1) a2S
theorem k7 {i : Nat} {x : Str} {pos' : Pos} (hN : X.N.Nodup) (hi : X.N[i]? = some x) (hx : Loc X.env.scope x) (he : EO X g e f) (hs : swapsWith e (some (.Name x pos')) pos.line X.env = pure false := by rfl) (hf : X.fn x = true ∨ X.env.scope.names.lookup x = some .local := by first | exact .inl rfl | exact .inr rfl | assumption) :
  SO X g (.Assign [.Name x pos'] e pos) (j4 f (i5 i)) := SO.w (a4t hN hi hx he.pe hs hf) fun E σ H h => by
 obtain ⟨fa, O, s, d, s1, I, h1, k⟩ := a2S E σ H h
 refine ⟨fa, O, s, d, s1, I, h1, fun v H1 f1 O1 a1 I1 r => ?_⟩
 obtain ⟨f2, O2, s2, d2, s3, I2, r2, e2, k2⟩ := k v H1 f1 O1 a1 I1 r
 cases e2
 obtain ⟨P, sub, I'⟩ := I2.put i r2
 exact k2 _ H1 f2 P (V6 sub).stp I'
noncomputable def w9 (i : Nat) (f : DA) : DM := fun s => (f s).bind fun x => if i < x.2.sl.length then some (.next, { x.2 with sl := x.2.sl.set i (.own x.1) }) else none
theorem B8 {i : Nat} {x : Str} {f : DA} {pos' : Pos} (hN : X.N.Nodup) (hi : X.N[i]? = some x) (hx : Loc X.env.scope x) (he : FO X g e f) (hs : swapsWith e (some (.Name x pos')) pos.line X.env = pure false := by rfl) (hf : X.fn x = true ∨ X.env.scope.names.lookup x = some .local := by first | exact .inl rfl | exact .inr rfl | assumption) :
  SO X g (.Assign [.Name x pos'] e pos) (w9 i f) := SO.w (a4t hN hi hx he.pe hs hf) fun E σ H hQ => by
 refine hQ.elim fun fa O s fl s' I q k => ?_
 refine m6 q fun ds s1 h1 h2 => ?_
 by_cases hl : i < s1.sl.length
 ·simp only [] at h2
  rw [if_pos hl] at h2
  cases h2
  refine ⟨fa, O, s, ds, s1, I, h1, fun p xs H1 f1 O1 a1 L hp => ?_⟩
  have np : p ∉ O1 := fun z => by
   obtain ⟨ys, e⟩ := I.owned (a1.sub p z)
   rw [hp] at e; cases e
  obtain ⟨P, sub, I'⟩ := L.put i hl (I.st.mon p hp) np
  refine k _ H1 f1 P ⟨fun b hb => ?_, a1.fe, fun b u e _ n => a1.same b u e n, a1.mon⟩ I'
  rcases sub b hb with y | y
  ·exact .inr (by rw [y]; exact hp)
  ·exact .inl (a1.sub b y)
 ·simp only [] at h2
  rw [if_neg hl] at h2; cases h2
noncomputable def C8 (i : Nat) (f : DE) : DM := fun s => match s.sl[i]? with
 | some (.own _) => (f s).bind fun x => match x.2.sl[i]? with
  | some (.own ds) => if ds.length < sizeLine then some (.next, { x.2 with sl := x.2.sl.set i (.own (ds ++ [x.1])) }) else none
  | _ => none
 | _ => none
theorem X5 {i : Nat} {x : Str} {p1 p2 p3 p4 : Pos} (hv : PE X (.Name x p1) (L0 i)) (he : EO X g e f) (hbase : attributeBase (.Name x p1) ("append" : Str) X.env (eval (.Name x p1) X.env) = eval (.Name x p1) X.env := by rfl)
  (hfew : ((backTo p3 (starEach [e] X.env)).all (fun x => !x.1) && (backToKw p3 (keywordEach [] X.env)).all (fun x => x.1.isSome)
   && decide ([e].length + ([] : List Keyword).length + (if ([] : List Keyword).isEmpty then 0 else 1) < 30)) = true := by rfl)
  (hline : (p2.endLine == p3.line) = true := by rfl) (hs : starEach [e] X.env = (false, eval e X.env) :: starEach [] X.env := by rfl) (hplain : (backTo p3 (starEach [] X.env)).any (·.1) = false := by rfl)
  (hsw : swapsWith (.Call (.Attribute (.Name x p1) ("append" : Str) p2) [e] [] p3) none p4.line X.env = pure false := by rfl) :
  SO X g (.Expr (.Call (.Attribute (.Name x p1) ("append" : Str) p2) [e] [] p3) p4) (C8 i f) :=
 SO.w (a77 (a6a PySem.F.plainAttrs_list PySem.F.slot_list_append PySem.F.type_list_append a27 hv (Q4 he.pe a0a hs) hbase hfew hline hs hplain) hsw) fun E σ H hQ => by
  refine hQ.elim fun fa O s fl s' I q k => ?_
  cases q0 : s.sl[i]? with
  | none => simp only [C8, q0] at q; cases q
  | some z =>
  cases z with
  | no => simp only [C8, q0] at q; cases q
  | val _ => simp only [C8, q0] at q; cases q
  | own ds0 =>
  simp only [C8, q0] at q
  obtain ⟨a, xs0, e1, m, e2, _⟩ := SlR.own I.sl q0
  refine m6 q fun d s1 h1 h2 => ?_
  cases q2 : s1.sl[i]? with
  | none => simp only [q2] at h2; cases h2
  | some z =>
   cases z with
   | no => simp only [q2] at h2; cases h2
   | val _ => simp only [q2] at h2; cases h2
   | own ds =>
    simp only [q2] at h2
    by_cases hl : ds.length < sizeLine
    ·rw [if_pos hl] at h2
     cases h2
     refine ⟨_, e1, .inl ⟨rfl, xs0, SqL.of e2⟩, fa, O, s, d, s1, I, h1, fun v H1 f1 O1 a1 I1 r => ?_⟩
     obtain ⟨b, xs, e3, m1, e4, r1⟩ := SlR.own I1.sl q2
     rw [e1] at e3; cases e3
     obtain ⟨I2, a2⟩ := I1.rew q2 e1 m1 e4 (Reps.append r1 (Reps.one r))
     exact ⟨a, xs, v, rfl, rfl, e4, by rw [r1.length]; exact hl, k σ _ f1 O1 (a1.stp.trans a2) I2⟩
    ·rw [if_neg hl] at h2; cases h2
end
noncomputable def v0 (t : D → DS → Option DS) (b : DM) : List D → DS → Option (Fl × DS)
 | [], s => some (.next, s)
 | d :: r, s => (t d s).bind fun s1 => (b s1).bind fun x => match x.1 with
  | .next => v0 t b r x.2
  | .cont => v0 t b r x.2
  | .brk => some (.next, x.2)
  | .ret v => some (.ret v, x.2)
noncomputable def PvD (K : PySem.W.Frag) (g : Gh) (f1 : Option Addr) (O1 : List Addr) (H1 : Hp) (t : D → DS → Option DS) (b : DM) (ds : List D) (fl : Fl) (sf : DS) (i : Nat) : L2.St → Hp → Prop := fun σ' H' =>
 ∃ fa' O' s', Stp f1 O1 H1 fa' O' H' ∧ GI K g σ' H' fa' O' s' ∧ v0 t b (ds.drop i) s' = some (fl, sf)
section
variable {K : PySem.W.Frag} {g : Gh} {f1 : Option Addr} {O1 : List Addr} {H1 H' : Hp} {t : D → DS → Option DS} {b : DM} {ds : List D} {fl : Fl} {sf : DS} {i : Nat} {E : Ends} {σ' : L2.St}
theorem a2V {α : Type} {l : List α} {i : Nat} {d : α} (h : l[i]? = some d) : l.drop i = d :: l.drop (i + 1) := by
 obtain ⟨hi, e⟩ := List.getElem?_eq_some_iff.mp h
 rw [List.drop_eq_getElem_cons hi, e]
theorem a2F (hk : FlK K g E f1 O1 H1 fl sf) {d : D} {x : V} (hd : ds[i]? = some d) (hr : ∀ fa' O', Stp f1 O1 H1 fa' O' H' → Rep K (NN g.F fa' O') fa' H' d x) (h : PvD K g f1 O1 H1 t b ds fl sf i σ' H') :
  liftG K g t x σ' H' fun σ2 H2 => liftS K g b { E with nx := PvD K g f1 O1 H1 t b ds fl sf (i + 1), ct := PvD K g f1 O1 H1 t b ds fl sf (i + 1), bk := E.nx } σ2 H2 := by
 obtain ⟨fa', O', s', st, I, e⟩ := h
 rw [a2V hd, v0] at e
 refine J0 e fun s1 h1 h2 => ?_
 refine m6 h2 fun fb s2 h3 h4 => ?_
 refine ⟨fa', O', s', d, s1, I, hr fa' O' st, h1, fun σ2 H2 f2 O2 a2 I2 => ⟨f2, O2, s1, fb, s2, I2, h3, ?_⟩⟩
 cases fb with
 | next => exact fun σ3 H3 f3 O3 a3 I3 => ⟨f3, O3, s2, st.trans (a2.trans a3), I3, h4⟩
 | cont => exact fun σ3 H3 f3 O3 a3 I3 => ⟨f3, O3, s2, st.trans (a2.trans a3), I3, h4⟩
 | brk => cases h4; exact fun σ3 H3 f3 O3 a3 I3 => hk σ3 H3 f3 O3 (st.trans (a2.trans a3)) I3
 | ret v => cases h4; exact fun σ3 v H3 f3 O3 a3 I3 r => hk σ3 v H3 f3 O3 (st.trans (a2.trans a3)) I3 r
theorem a1I (hk : FlK K g E f1 O1 H1 fl sf) {n : Nat} (hn : ds.length ≤ n) (h : PvD K g f1 O1 H1 t b ds fl sf n σ' H') : E.nx σ' H' := by
 obtain ⟨fa', O', s', st, I, e⟩ := h
 rw [List.drop_eq_nil_of_le hn, v0] at e
 cases e
 exact hk σ' H' fa' O' st I
end
noncomputable def G3 (f : DE) (t : D → DS → Option DS) (b : DM) : DM := fun s => (f s).bind fun x => match x.1 with
 | .lst ds => v0 t b ds x.2
 | .tup ds => v0 t b ds x.2
 | _ => none
section
variable {X : Cx} {g : Gh} {tg iter : Expr} {body : List Stmt} {f : DE} {t : D → DS → Option DS} {b : DM} {pos : Pos}
noncomputable def a99 (K : PySem.W.Frag) (tl : TE) : TI := fun σ H R => tl σ H fun x H1 => ∃ a, x = .ref a ∧ (((∃ xs, SqL K H1 a xs) ∧ R (Itl K a) H1) ∨ ((∃ xs, SqT K H1 a xs) ∧ R (Itt K a) H1))
theorem a3q {l : Expr} {tl : TE} (hl : PE X l tl) : PI X tg l (a99 X.K tl) := by
 intro pins s σ H R I h
 refine thn (hl pins s σ H _ I h) fun v s1 ⟨x, H1, I1, r1, q1⟩ => ?_
 obtain ⟨a, e, q⟩ := q1
 subst e
 cases r1
 rcases q with ⟨⟨xs, hq⟩, q⟩ | ⟨⟨xs, hq⟩, q⟩
 ·obtain ⟨its, rv, p, hz⟩ := I1.list hq
  refine wpAny_pyIter_list p.isList ?_
  refine ⟨s1.heap.objs.size, [s1.heap.objs.size], _, _, H1, rfl, I1.kept (t' := s1.toks) fun b o e => Heap.get?_push_of_some _ e, a7g a _, ⟨_, Heap.get?_push_size _ rfl, rfl, rfl⟩, fun b hb => ?_, q⟩
  have e : b = s1.heap.objs.size := by simpa using hb
  subst e
  exact I1.fpOk (Nat.le_refl _) (I1.hok.fresh (Nat.le_refl _))
 ·obtain ⟨its, rv, p, hz⟩ := I1.tuple hq
  refine wpAny_pyIter_tuple (show s1.heap.IsTuple a its.toArray from p) ?_
  refine ⟨s1.heap.objs.size, [s1.heap.objs.size], _, _, H1, rfl, I1.kept (t' := s1.toks) fun b o e => Heap.get?_push_of_some _ e, a7W a _, ⟨_, Heap.get?_push_size _ rfl, rfl, rfl⟩, fun b hb => ?_, q⟩
  have e : b = s1.heap.objs.size := by simpa using hb
  subst e
  exact I1.fpOk (Nat.le_refl _) (I1.hok.fresh (Nat.le_refl _))
theorem a1E (hp : PassesOwn (model X.prog X.w) X.A X.env X.xe) (hc : X.calm = true) (he : EO X g iter f) (hg : GO X g tg t) (hb : SSO X g body b) (hs : ∀ x, foldedSetIterable iter X.env x = pure x := by intro _; rfl) :
  SO X g (.For tg iter body [] pos) (G3 f t b) := SO.w (a5a hp hc (a3q he.pe) hg.pe hb.pe hs) fun E σ H hQ => by
 refine hQ.elim fun fa O s fl sf I q k => ?_
 refine m6 q fun d s1 h1 h2 => ?_
 refine ⟨fa, O, s, d, s1, I, h1, fun v H1 f1 O1 a1 I1 r => ?_⟩
 have k1 := k.shift a1.stp
 cases d with
 | lst ds =>
  simp only [Rep] at r
  obtain ⟨a, xs, rfl, na, q, w⟩ := r
  refine ⟨a, rfl, .inl ⟨⟨xs, SqL.of q⟩, b0g (xs := xs) (PvD X.K g f1 O1 H1 t b ds fl sf) ⟨f1, O1, s1, Stp.refl, I1, h2⟩ ?_ ?_ ?_⟩⟩
  ·rintro i σ' H' _ ⟨fa', O', s', st, I', e⟩
   exact SqL.of ((I1.car st).ls a xs na q).1
  ·intro i x σ' H' hx h
   obtain ⟨d, hd, rd⟩ := Reps.get' w hx
   exact a2F k1 hd (fun fa' O' st => Rep.stp I1 st rd) h
  ·intro σ' H' h
   exact a1I k1 (Nat.le_of_eq w.length.symm) h
 | tup ds =>
  simp only [Rep] at r
  obtain ⟨a, xs, rfl, q, w⟩ := r
  refine ⟨a, rfl, .inr ⟨⟨xs, q⟩, a0y (xs := xs) (PvD X.K g f1 O1 H1 t b ds fl sf) ⟨f1, O1, s1, Stp.refl, I1, h2⟩ ?_ ?_ ?_⟩⟩
  ·rintro i σ' H' _ ⟨fa', O', s', st, I', e⟩
   exact (I1.car st).tp a xs q
  ·intro i x σ' H' hx h
   obtain ⟨d, hd, rd⟩ := Reps.get' w hx
   exact a2F k1 hd (fun fa' O' st => Rep.stp I1 st rd) h
  ·intro σ' H' h
   exact a1I k1 (Nat.le_of_eq w.length.symm) h
 | _ => cases h2
noncomputable def ups (lo : Int) (n : Nat) : List D := (List.range n).map fun (i : Nat) => D.int (lo + (i : Int))
theorem a3F {lo : Int} {n i : Nat} (h : i < n) : (ups lo n)[i]? = some (.int (lo + (i : Int))) := by simp [ups, h]
theorem V5 (lo : Int) (n : Nat) : (ups lo n).length = n := by simp [ups]
noncomputable def S7 : List D → Option (List D)
 | [.int j] => if -(2 ^ 62) ≤ j ∧ j < 2 ^ 62 then some (ups 0 j.toNat) else none
 | [.int i, .int j] => if -(2 ^ 62) ≤ i ∧ i < 2 ^ 62 ∧ -(2 ^ 62) ≤ j ∧ j < 2 ^ 62 then some (ups i (j - i).toNat) else none
 | _ => none
noncomputable def Q0 (f : DA) (t : D → DS → Option DS) (b : DM) : DM := fun s => (f s).bind fun x => (S7 x.1).bind fun ds => v0 t b ds x.2
theorem a9Y {ds es : List D} {a : D} (h : S7 ds = some es) (l : ds = [a]) : ∃ j : Int, a = .int j ∧ -(2 ^ 62) ≤ j ∧ j < 2 ^ 62 ∧ es = ups 0 j.toNat := by
 subst l
 cases a with
 | int j =>
  have h : (if -(2 ^ 62) ≤ j ∧ j < 2 ^ 62 then some (ups 0 j.toNat) else none) = some es := h
  by_cases hj : -(2 ^ 62) ≤ j ∧ j < 2 ^ 62
  ·rw [if_pos hj] at h; cases h; exact ⟨j, rfl, hj.1, hj.2, rfl⟩
  ·rw [if_neg hj] at h; cases h
 | _ => cases h
theorem a2t {a : Expr} {fa : DE} {p cpos : Pos} (hp : PassesOwn (model X.prog X.w) X.A X.env X.xe) (hc : X.calm = true) (hgl : Gl X "range") (hm : X.mg "range" = none) (ha : EO X g a fa) (hg : GO X g tg t) (hb : SSO X g body b)
  (hs1 : starEach [a] X.env = [(false, eval a X.env)] := by rfl) (hs : ∀ x, foldedSetIterable (.Call (.Name "range" p) [a] [] cpos) X.env x = pure x := by intro _; rfl) :
  SO X g (.For tg (.Call (.Name "range" p) [a] [] cpos) body [] pos) (Q0 (a6 fa a8) t b) :=
 SO.w (a5a hp hc (a5v hgl hm (a4X ha a9 hs1).pe hs1) hg.pe hb.pe hs) fun E σ H hQ => by
  refine hQ.elim fun fa O s fl sf I q k => ?_
  refine m6 q fun ds s1 h1 h2 => ?_
  refine J0 h2 fun es h3 h4 => ?_
  obtain ⟨d, s2, rs, e1, e2, e3⟩ := Z0 h1
  cases e2
  obtain ⟨j, rfl, j1, j2, rfl⟩ := a9Y h3 e3
  refine ⟨fa, O, s, ds, s1, I, h1, fun vs H1 f1 O1 a1 I1 r => ?_⟩
  have k1 := k.shift a1.stp
  rw [e3] at r
  simp only [Reps, Rep] at r
  obtain ⟨x, ys, rfl, rfl, rfl⟩ := r
  refine ⟨j, rfl, j1, j2, a6h (lo := 0) (n := j.toNat) (PvD X.K g f1 O1 H1 t b (ups 0 j.toNat) fl sf) ⟨f1, O1, s1, Stp.refl, I1, h4⟩ ?_ ?_⟩
  ·intro i σ' H' hi h
   exact a2F k1 (a3F hi) (fun fa' O' st => by simp only [Rep]) h
  ·intro σ' H' h
   exact a1I k1 (by rw [V5]; exact Nat.le_refl _) h
noncomputable def whN (c : DT) (b : DM) : Nat → DS → Option (Fl × DS)
 | 0, _ => none
 | n + 1, s => (c s).bind fun x => if x.1 = true then (b x.2).bind fun y => match y.1 with
   | .next => whN c b n y.2
   | .cont => whN c b n y.2
   | .brk => some (.next, y.2)
   | .ret v => some (.ret v, y.2)
  else some (.next, x.2)
open Classical in
noncomputable def D2 (c : DT) (b : DM) : DM := fun s => if h : ∃ n r, whN c b n s = some r then whN c b h.choose s else none
theorem a18 {c : DT} {b : DM} : ∀ (n : Nat) {s : DS} {r : Fl × DS}, whN c b n s = some r → whN c b (n + 1) s = some r
 | 0, s, r, h => by cases h
 | n + 1, s, r, h => by
  rw [whN] at h ⊢
  refine m6 h fun x s1 h1 h2 => ?_
  refine Option.bind_eq_some_iff.mpr ⟨(x, s1), h1, ?_⟩
  cases x with
  | false => exact h2
  | true =>
   simp only [if_true] at h2 ⊢
   refine m6 h2 fun y s2 h3 h4 => ?_
   refine Option.bind_eq_some_iff.mpr ⟨(y, s2), h3, ?_⟩
   cases y with
   | next => exact a18 n h4
   | cont => exact a18 n h4
   | brk => exact h4
   | ret v => exact h4
theorem a4R {c : DT} {b : DM} {n m : Nat} (hnm : n ≤ m) {s : DS} {r : Fl × DS} (h : whN c b n s = some r) : whN c b m s = some r := by
 induction hnm with
 | refl => exact h
 | step _ ih => exact a18 _ ih
theorem a3a {c : DT} {b : DM} {n : Nat} {s : DS} {r : Fl × DS} (h : whN c b n s = some r) : D2 c b s = some r := by
 have hx : ∃ n r, whN c b n s = some r := ⟨n, r, h⟩
 unfold D2
 rw [dif_pos hx]
 obtain ⟨r', h'⟩ := hx.choose_spec
 have e1 := a4R (Nat.le_max_left n hx.choose) h
 have e2 := a4R (Nat.le_max_right n hx.choose) h'
 rw [e1] at e2
 rw [h', e2]
theorem a3x {c : DT} {b : DM} {s : DS} {r : Fl × DS} (h : D2 c b s = some r) : ∃ n, whN c b n s = some r := by
 unfold D2 at h
 by_cases hx : ∃ n r, whN c b n s = some r
 ·rw [dif_pos hx] at h; exact ⟨_, h⟩
 ·rw [dif_neg hx] at h; cases h
theorem a4H {c : DT} {b : DM} {s s1 s2 : DS} {r : Fl × DS} (h1 : c s = some (true, s1)) (h2 : b s1 = some (.next, s2)) (h3 : D2 c b s2 = some r) : D2 c b s = some r := by
 obtain ⟨n, h⟩ := a3x h3
 refine a3a (n := n + 1) ?_
 rw [whN, h1]
 simp only [Option.bind_some, if_true, h2]
 exact h
theorem a4a {c : DT} {b : DM} {s s1 : DS} (h1 : c s = some (false, s1)) : D2 c b s = some (.next, s1) := by
 refine a3a (n := 1) ?_
 rw [whN, h1]
 simp
theorem a4J {c : Expr} {fc : DT} (hp : PassesOwn (model X.prog X.w) X.A X.env X.xe) (hc : TO X g c fc) (hb : SSO X g body b) : SO X g (.While c body [] pos) (D2 fc b) := SO.w (a90 hp hc.pe hb.pe) fun E σ H hQ => by
 refine hQ.elim fun fa O s fl sf I q k => ?_
 obtain ⟨n, h⟩ := a3x q
 refine ⟨fun m σ' H' => ∃ fa' O' s', Stp fa O H fa' O' H' ∧ GI X.K g σ' H' fa' O' s' ∧ whN fc b m s' = some (fl, sf), ⟨n, fa, O, s, Stp.refl, I, h⟩, ?_⟩
 rintro m σ1 H1 ⟨f1, O1, s1, a1, I1, h1⟩
 cases m with
 | zero => cases h1
 | succ m =>
  rw [whN] at h1
  refine m6 h1 fun x s2 h2 h3 => ?_
  refine ⟨f1, O1, s1, x, s2, I1, h2, fun H2 f2 O2 a2 I2 => ?_⟩
  cases x with
  | false => rw [if_neg Bool.false_ne_true] at h3 ⊢; cases h3; exact k σ1 H2 f2 O2 (a1.trans a2.stp) I2
  | true =>
   rw [if_pos rfl] at h3 ⊢
   refine m6 h3 fun y s3 h4 h5 => ?_
   refine ⟨fun σ' H' => ∃ fa' O' s', Stp fa O H fa' O' H' ∧ GI X.K g σ' H' fa' O' s' ∧ whN fc b m s' = some (fl, sf), fun σ' H' z => ⟨m, Nat.lt_succ_self m, z⟩, f2, O2, s2, y, s3, I2, h4, ?_⟩
   have a12 := a1.trans a2.stp
   cases y with
   | next => exact fun σ3 H3 f3 O3 a3 I3 => ⟨f3, O3, s3, a12.trans a3, I3, h5⟩
   | cont => exact fun σ3 H3 f3 O3 a3 I3 => ⟨f3, O3, s3, a12.trans a3, I3, h5⟩
   | brk => cases h5; exact fun σ3 H3 f3 O3 a3 I3 => k σ3 H3 f3 O3 (a12.trans a3) I3
   | ret v => cases h5; exact fun σ3 v H3 f3 O3 a3 I3 r => k σ3 v H3 f3 O3 (a12.trans a3) I3 r
end
noncomputable abbrev DFn := List D → Option FS → Option (D × Option FS)
noncomputable def spD (K : PySem.W.Frag) (n : Nat) (m : DFn) : Sp := fun vs H Q _ => ∃ (F : Addr → Prop) (fa : Option Addr) (ds : List D) (fs : Option FS) (d : D) (fs' : Option FS),
 (∀ b, F b → H b ≠ none) ∧ (∀ a, fa = some a → F a) ∧ Reps K F fa H ds vs ∧ FeedR F H fa fs ∧ m ds fs = some (d, fs') ∧ ds.length = n ∧
  ∀ v H' fa', Stp fa [] H fa' [] H' → FeedR (fun b => F b ∨ fa' = some b) H' fa' fs' → Rep K (fun b => F b ∨ fa' = some b) fa' H' d v → Q v H'
noncomputable abbrev FnD (P : Program) (w : World) (K : PySem.W.Frag) (mg : Str → Option Value) (base : Heap) (k : Nat) (f : Addr) (fd : FuncData) (ps : List Str) (m : DFn) : Prop := FnOk P w K mg base CX0 k f fd ps (spD K ps.length m)
noncomputable def mFn (n : Nat) (b : DM) : DFn := fun ds fs => (b ⟨ds.map .val ++ List.replicate (n - ds.length) .no, fs⟩).bind fun x => match x.1 with
 | .ret d => some (d, x.2.fs)
 | .next => some (.non, x.2.fs)
 | _ => none
theorem a2W {K : PySem.W.Frag} {N : Addr → Prop} {fa : Option Addr} {H : Hp} : ∀ n : Nat, SlR K N fa H (List.replicate n .no) (List.replicate n none) []
 | 0 => by simp [SlR]
 | n + 1 => by
  simp only [List.replicate_succ, SlR]
  exact ⟨_, _, rfl, a2W n⟩
theorem a3C {K : PySem.W.Frag} {N : Addr → Prop} {fa : Option Addr} {H : Hp} {n : Nat} : ∀ {ds : List D} {vs : List V}, Reps K N fa H ds vs → SlR K N fa H (ds.map .val ++ List.replicate n .no) (vs.map some ++ List.replicate n none) []
 | [], vs, h => by simp only [Reps] at h; subst h; simpa using a2W n
 | d :: r, vs, h => by
  simp only [Reps] at h
  obtain ⟨x, ys, rfl, h1, h2⟩ := h
  simp only [List.map_cons, List.cons_append, SlR]
  exact ⟨x, _, rfl, h1, a3C h2⟩
section
variable {P : Program} {w : World} {K : PySem.W.Frag} {mg : Str → Option Value} {base : Heap}
theorem a4G {x qual : Str} {st : Stmt} {f : Addr} {fd : FuncData} {N ps : List Str} {k : Nat} {b : DM} (F : Fun K x qual st f fd) (S : FnScope N ps (k3 st))
  (hbody : ∀ (cdv : Value) (A : Around) (outer : List Env) (s : Shared) (H : Hp) (E : XK) (g : Gh), Room k (A.deeper (PyProof.Rows.envOfC qual (k3 st) s.heap.objs.size f cdv)) → SSO (J9 CX0 P w K mg base N qual (k3 st) f cdv A outer s H E).nox g (D4 st) b) :
  FnD P w K mg base (k + 1) f fd ps (mFn N.length b) := by
 refine F.ok S (fun vs H Q E h => ?_) (fun cdv A outer s H vs Q E hr h => ?_)
 ·obtain ⟨F, fa, ds, fs, d, fs', _, _, r, _, _, hl, _⟩ := h
  rw [r.length]; exact hl
 obtain ⟨F, fa, ds, fs, d, fs', tr, ff, r, fd, e, hl, q⟩ := h
 refine ⟨_, (hbody cdv A outer s H E ⟨F, H, fa⟩ hr).pe, ?_⟩
 refine m6 e fun fl s' h1 h2 => ?_
 have hN : ∀ b, NN F fa [] b → F b := fun b z => by
  rcases z with z | z | z
  ·exact z
  ·cases z
  ·exact ff b z
 have c : Car K F fa H (NN F fa []) fa H := ⟨fun b xs n q => ⟨q, fun z => n (hN b z)⟩, fun _ _ q => q, fun _ _ q => q, fun _ q => q⟩
 have el : (L2.start N vs) = vs.map some ++ List.replicate (N.length - ds.length) none := by rw [L2.start, r.length]
 have I : GI K ⟨F, H, fa⟩ (L2.start N vs) H fa [] ⟨ds.map .val ++ List.replicate (N.length - ds.length) .no, fs⟩ := by
  refine ⟨List.nodup_nil, ?_, fun b hb => (by cases hb), Stp.refl, tr, ff, fd.car c fun _ _ => rfl, fun _ _ z => (by cases z)⟩
  rw [el]
  exact a3C (Reps.go c ds vs r)
 have fin : ∀ {fa' : Option Addr} {O' : List Addr} {H' : Hp} {σ' : L2.St} {v : V} {dd : D}, Stp fa [] H fa' O' H' → GI K ⟨F, H, fa⟩ σ' H' fa' O' s' → Rep K (NN F fa' O') fa' H' dd v → dd = d → s'.fs = fs' → Q v H' := by
  intro fa' O' H' σ' v dd a1 I1 r1 e1 e2
  subst e1; subst e2
  have c1 : Car K (NN F fa' O') fa' H' (fun b => F b ∨ fa' = some b) fa' H' := ⟨fun b xs n q => ⟨q, fun z => n (by
   rcases z with z | z
   ·exact .inl z
   ·exact .inr (.inr z))⟩, fun _ _ q => q, fun _ _ q => q, fun _ q => q⟩
  exact q v H' fa' ⟨fun b hb => (by cases hb), a1.fe, a1.same, a1.mon⟩ (I1.fd.car c1 fun _ _ => rfl) (Rep.go c1 _ _ r1)
 refine ⟨fa, [], _, fl, s', I, h1, ?_⟩
 cases fl with
 | next =>
  simp only [Option.some.injEq, Prod.mk.injEq] at h2
  exact fun σ' H' fa' O' a1 I1 => fin a1 I1 (v := .non) (dd := .non) (by simp only [Rep]) h2.1 h2.2
 | ret dd =>
  simp only [Option.some.injEq, Prod.mk.injEq] at h2
  exact fun σ' v H' fa' O' a1 I1 r1 => fin a1 I1 r1 h2.1 h2.2
 | brk => cases h2
 | cont => cases h2
end
noncomputable def c9 (m : DFn) (f : DA) : DE := fun s => (f s).bind fun x => (m x.1 x.2.fs).map fun y => (y.1, { x.2 with fs := y.2 })
section
variable {X : Cx} {g : Gh} {k : Nat} {f : Addr} {fd : FuncData} {ps : List Str} {m : DFn} {x : Str} {p pos : Pos} {e : Expr} {es : List Expr} {t : DA}
theorem a7J {n : Nat} (hn : ∀ s ds s', t s = some (ds, s') → ds.length = n) (σ : L2.St) (H : Hp) (Q : VK) (h : liftE X.K g (c9 m t) σ H Q) : a3M (spD X.K n m) [] E0 (liftA X.K g t) σ H Q := by
 obtain ⟨fa, O, s, d, s', I, q, k⟩ := h
 refine m6 q fun ds s1 h1 h2 => ?_
 refine mapP h2 fun d1 fs1 h3 h4 => ?_
 simp only [Prod.mk.injEq] at h4
 obtain ⟨e1, e2⟩ := h4
 subst e1; subst e2
 refine ⟨fa, O, s, ds, s1, I, h1, fun vs H1 f1 O1 a1 I1 r => ?_⟩
 show spD X.K n m (vs ++ []) H1 Q E0
 rw [List.append_nil]
 refine ⟨NN g.F f1 O1, f1, ds, s1.fs, d1, fs1, fun b hb => I1.nn_tracked hb, fun a ha => .inr (.inr ha), r, I1.fd, h3, hn s ds s1 h1, fun v H2 f2 a2 fd2 r2 => ?_⟩
 have a3 : StE f1 O1 H1 f2 O1 H2 := ⟨fun b hb => hb, a2.fe, fun b u e n => a2.same b u e (by simp) n, a2.mon⟩
 have c := I1.car a3.stp
 have c2 : Car X.K (fun b => NN g.F f1 O1 b ∨ f2 = some b) f2 H2 (NN g.F f2 O1) f2 H2 := ⟨fun b xs n q => ⟨q, fun z => n (by
   rcases z with z | z | z
   ·exact .inl (.inl z)
   ·exact .inl (.inr (.inl z))
   ·exact .inr z)⟩, fun _ _ q => q, fun _ _ q => q, fun _ q => q⟩
 refine k v H2 f2 O1 (a1.trans a3) ⟨I1.nd, SlR.go c (fun b xs hb e => ?_) I1.sl, I1.fr, I1.st.trans ⟨fun b hb => (by cases hb), a2.fe, fun b u e n z => a2.same b u e n z, a2.mon⟩, I1.tr, I1.ff, fd2.car c2 fun _ _ => rfl, I1.nf_step a3.fe⟩ (Rep.go c2 _ _ r2)
 exact a3.same b _ e fun z => I1.nf b z hb
theorem a5x (F : FnD X.prog X.w X.K X.mg X.base k f fd ps m) (hr : Room k X.A) (hg : Gl X x) (hm : X.mg x = some (.ref f)) (hk : PySem.W.keepIn X.K (.ref f) = true) (hb : Binds X.K fd ps [])
  (ha : AO X g (e :: es) t) (hn : ∀ s ds s', t s = some (ds, s') → ds.length = ps.length) (hdb : (x == ("__debug__" : Str)) = false := by decide) (he : starEach (e :: es) X.env = (false, eval e X.env) :: starEach es X.env := by rfl) (hpl : (backTo pos (starEach es X.env)).any (·.1) = false := by rfl) :
  EO X g (.Call (.Name x p) (e :: es) [] pos) (c9 m t) := EO.w (a8P F hr hg hm hk hb .nil a5J ha.pe hdb he hpl) (a7J hn)
theorem i8 : ∀ s ds s', a8 s = some (ds, s') → ds.length = 0 := fun s ds s' h => by cases h; rfl
theorem c6 {a : DE} {r : DA} {n : Nat} (h : ∀ s ds s', r s = some (ds, s') → ds.length = n) : ∀ s ds s', a6 a r s = some (ds, s') → ds.length = n + 1 := fun s ds s' q => by
 obtain ⟨d, s1, es, h1, h2, h3⟩ := Z0 q
 subst h3
 simp [h _ _ _ h2]
end
noncomputable def ItD (K : PySem.W.Frag) (N : Addr → Prop) (fa : Option Addr) (H1 : Hp) (J : It) (ds : List D) : Prop := ∀ N' fa' H', Car K N fa H1 N' fa' H' → (∀ b u, H1 b = some u → fa ≠ some b → H' b = some u) → ∀ i : Nat,
 (∀ d, ds[i]? = some d → J.go i H' ∧ ∀ x H'', J.yld i H' x H'' → H'' = H' ∧ Rep K N' fa' H' d x) ∧ (ds.length ≤ i → J.stop i H')
noncomputable def liftI (K : PySem.W.Frag) (g : Gh) (f : DA) : TI := fun σ H R => ∃ fa O s ds s', GI K g σ H fa O s ∧ f s = some (ds, s') ∧ ds.length ≤ sizeLine ∧
 ∀ J H' fa' O', StE fa O H fa' O' H' → GI K g σ H' fa' O' s' → ItD K (NN g.F fa' O') fa' H' J ds → R J H'
section
variable {K : PySem.W.Frag} {g : Gh} {σ : L2.St} {H : Hp} {G : Prop}
theorem liftI.elim {f : DA} {R : It → Hp → Prop} (h : liftI K g f σ H R) (k : ∀ fa O s ds s', GI K g σ H fa O s → f s = some (ds, s') → ds.length ≤ sizeLine → (∀ J H' fa' O', StE fa O H fa' O' H' → GI K g σ H' fa' O' s' → ItD K (NN g.F fa' O') fa' H' J ds → R J H') → G) : G := by
 obtain ⟨fa, O, s, d, s', a, r, b, c⟩ := h
 exact k fa O s d s' a r b c
end
structure IO (X : Cx) (g : Gh) (tg iter : Expr) (f : DA) : Prop where
 pe : PI X tg iter (liftI X.K g f)
noncomputable def J2 (f : DE) : DA := fun s => (f s).bind fun x => match x.1 with
 | .lst ds => some (ds, x.2)
 | .tup ds => some (ds, x.2)
 | _ => none
section
variable {X : Cx} {g : Gh} {tg iter : Expr} {f : DE}
theorem PIw {t t' : TI} (h : PI X tg iter t) (w : ∀ σ H R, t' σ H R → t σ H R) : PI X tg iter t' := fun pins s σ H R I q => h pins s σ H R I (w σ H R q)
theorem IO.w {f : DA} {t : TI} (h : PI X tg iter t) (w : ∀ σ H R, liftI X.K g f σ H R → t σ H R) : IO X g tg iter f := ⟨PIw h w⟩
theorem K1 (h : EO X g iter f) : IO X g tg iter (J2 f) := IO.w (a3q h.pe) fun σ H R hQ => by
 refine hQ.elim fun fa O s ds s' I e hz k => ?_
 refine m6 e fun d s1 h1 h2 => ?_
 refine ⟨fa, O, s, d, s1, I, h1, fun v H1 f1 O1 a1 I1 r => ?_⟩
 cases d with
 | lst es =>
  cases h2
  simp only [Rep] at r
  obtain ⟨a, xs, rfl, na, q, w⟩ := r
  refine ⟨a, rfl, .inl ⟨⟨xs, SqL.of q⟩, k _ H1 f1 O1 a1 I1 fun N' fa' H' c _ i => ⟨fun d hd => ?_, fun hl => ?_⟩⟩⟩
  ·obtain ⟨x, hx, rx⟩ := Reps.get w hd
   have q' := (c.ls a xs na q).1
   refine ⟨⟨xs, x, SqL.of q', hx⟩, fun y H'' hy => ?_⟩
   obtain ⟨e1, e2⟩ := hy
   have := e2 xs (SqL.of q')
   rw [hx] at this; cases this
   exact ⟨e1, Rep.go c d x rx⟩
  ·exact ⟨xs, SqL.of (c.ls a xs na q).1, by rw [w.length]; exact hl⟩
 | tup es =>
  cases h2
  simp only [Rep] at r
  obtain ⟨a, xs, rfl, q, w⟩ := r
  refine ⟨a, rfl, .inr ⟨⟨xs, q⟩, k _ H1 f1 O1 a1 I1 fun N' fa' H' c _ i => ⟨fun d hd => ?_, fun hl => ?_⟩⟩⟩
  ·obtain ⟨x, hx, rx⟩ := Reps.get w hd
   have q' := c.tp a xs q
   refine ⟨⟨xs, x, q', hx⟩, fun y H'' hy => ?_⟩
   obtain ⟨e1, e2⟩ := hy
   have := e2 xs q'
   rw [hx] at this; cases this
   exact ⟨e1, Rep.go c d x rx⟩
  ·exact ⟨xs, c.tp a xs q, by rw [w.length]; exact hl⟩
 | _ => cases h2
end
noncomputable def P6 (sl : List Sl) (i : Nat) : Sl := match sl[i]? with
 | some (Sl.val d) => Sl.val d
 | _ => Sl.no
noncomputable def E5 (idx : List Nat) (sl : List Sl) : List Sl := idx.map (P6 sl)
noncomputable def v8 (mk : D → Option (List Sl)) (fc : DT) (fe : DE) : List D → Option FS → Option (List D × Option FS)
 | [], fs => some ([], fs)
 | d :: r, fs => (mk d).bind fun sl => (fc ⟨sl, fs⟩).bind fun c => if c.1 = true then (fe c.2).bind fun y => (v8 mk fc fe r y.2.fs).map fun z => (y.1 :: z.1, z.2) else v8 mk fc fe r c.2.fs
noncomputable def F2 (idx : List Nat) (fi : DA) (fc : DT) (fe : DE) : DA := fun s => (fi s).bind fun x => if x.1.length ≤ sizeLine then (v8 (fun d => some (.val d :: E5 idx x.2.sl)) fc fe x.1 x.2.fs).map fun y => (y.1, { x.2 with fs := y.2 }) else none
noncomputable def FF (g : Gh) (fa : Option Addr) (O : List Addr) (p : Addr) : Addr → Prop := fun b => NN g.F fa O b ∨ b = p
structure CI (K : PySem.W.Frag) (g : Gh) (f1 : Option Addr) (O1 : List Addr) (Hd : Hp) (p : Addr) (fa : Option Addr) (H : Hp) (ys : List V) (res : List D) (fs : Option FS) : Prop where
 st : Stp f1 [p] Hd fa [p] H
 ls : H p = some (.lst ys)
 rs : Reps K (FF g fa O1 p) fa H res ys
 fd : FeedR (FF g fa O1 p) H fa fs
 nf : fa ≠ some p
section
variable {K : PySem.W.Frag} {g : Gh} {f1 fa fa' : Option Addr} {O1 : List Addr} {Hd H H' : Hp} {p : Addr} {ys : List V} {res : List D} {fs : Option FS}
theorem CI.nofa (c : CI K g f1 O1 Hd p fa H ys res fs) : fa ≠ some p := c.nf
theorem a5T (h0 : ∀ xs, fa ≠ none → ∀ a, fa = some a → ¬ Rd H a (.tup xs)) (hfz : ∀ a, fa = some a → ∀ o u, ¬ H a = some (.frz o u)) (a : StE fa [] H fa' [] H') : Car K (FF g fa O1 p) fa H (FF g fa' O1 p) fa' H' := by
 refine ⟨fun b xs n q => ⟨a.same b _ q fun z => n (.inl (.inr (.inr z))), fun z => ?_⟩, fun b xs q => ?_, fun b xs q => ?_, fun x e => a.stp.fa_keep e⟩
 ·rcases z with (z | z | z) | z
  ·exact n (.inl (.inl z))
  ·exact n (.inl (.inr (.inl z)))
  ·rcases a.fe with e | ⟨e, h⟩
   ·exact n (.inl (.inr (.inr (e ▸ z))))
   ·rw [h b z] at q; cases q
  ·exact n (.inr z)
 ·refine SqT.stp' a.stp (fun x e ys => h0 ys (by rw [e]; simp) x e) (fun x hx => by cases hx) q
 ·rcases q with ⟨o, q⟩ | q
  ·exact .inl ⟨o, a.same _ _ q fun z => hfz b z _ _ q⟩
  ·exact .inr q
theorem a59 {N : Addr → Prop} (h : FeedR N H fa fs) : ∀ xs, fa ≠ none → ∀ a, fa = some a → ¬ Rd H a (.tup xs) := fun xs _ a e z => h.no_tup e z
theorem CI.step (c : CI K g f1 O1 Hd p fa H ys res fs) (a : StE fa [] H fa' [] H') {g' : Gh} {σ : L2.St} {s' : DS} (hF : ∀ b, FF g fa' O1 p b → NN g'.F fa' [] b) (I : GI K g' σ H' fa' [] s') : CI K g f1 O1 Hd p fa' H' ys res s'.fs := by
 have cr : Car K (FF g fa O1 p) fa H (FF g fa' O1 p) fa' H' := a5T (a59 c.fd) (fun x e o u => c.fd.no_frz e) a
 refine ⟨c.st.trans ⟨fun b hb => .inl hb, a.fe, fun b u e _ n => a.same b u e n, a.mon⟩, a.same p _ c.ls c.nofa, Reps.go cr _ _ c.rs, I.fd.car (K := K) ⟨fun b xs n q => ⟨q, fun z => n (hF b z)⟩, fun _ _ q => q, fun _ _ q => q, fun _ q => q⟩ fun _ _ => rfl, fun z => ?_⟩
 rcases a.fe with y | ⟨_, y⟩
 ·rw [y] at z; exact c.nf z
 ·have := c.ls; rw [y p z] at this; cases this
theorem CI.app (c : CI K g f1 O1 Hd p fa H ys res fs) {N : Addr → Prop} {d : D} {v : V} (hF : ∀ b, FF g fa O1 p b → N b) (r : Rep K N fa H d v) : CI K g f1 O1 Hd p fa (upd H p (.lst (ys ++ [v]))) (ys ++ [v]) (res ++ [d]) fs := by
 have cr : Car K (FF g fa O1 p) fa H (FF g fa O1 p) fa (upd H p (.lst (ys ++ [v]))) := by
  refine ⟨fun b xs n q => ⟨by rw [l8 (fun z => n (.inr z))]; exact q, n⟩, fun b xs q => ?_, fun b xs q => ?_, fun _ q => q⟩
  ·rcases q with (q | ⟨o, q⟩) | q
   ·exact .inl (.inl (by rw [l8 (fun z => by rw [z, c.ls] at q; cases q)]; exact q))
   ·exact .inl (.inr ⟨o, by rw [l8 (fun z => by rw [z, c.ls] at q; cases q)]; exact q⟩)
   ·exact .inr q
  ·rcases q with ⟨o, q⟩ | q
   ·exact .inl ⟨o, by rw [l8 (fun z => by rw [z, c.ls] at q; cases q)]; exact q⟩
   ·exact .inr q
 have c0 : Car K N fa H (FF g fa O1 p) fa H := ⟨fun b xs n q => ⟨q, fun z => n (hF b z)⟩, fun _ _ q => q, fun _ _ q => q, fun _ q => q⟩
 refine ⟨c.st.trans ⟨fun b hb => .inl hb, .inl rfl, fun b u e n _ => by rw [l8 (fun z => n (by simp [z]))]; exact e, fun b z => ?_⟩, u9, ?_, c.fd.car cr fun a e => l8 fun z => c.nofa (z ▸ e), c.nf⟩
 ·by_cases hb : b = p
  ·subst hb; rw [u9] at z; cases z
  ·rw [l8 hb] at z; exact z
 ·exact Reps.append (Reps.go cr _ _ c.rs) (Reps.one (Rep.go cr _ _ (Rep.go c0 _ _ r)))
end
section
variable {X : Cx} {g : Gh} {scope : Scope} {cl : List (Str × Addr)} {N' : List Str} {idx : List Nat} {iter elt tg : Expr} {ifs : List Expr} {pos : Pos} {fi : DA} {fc : DT} {fe : DE}
noncomputable def R4 (X : Cx) (g : Gh) (ifs : List Expr) (f : DT) : Prop := Q3 X ifs (liftT X.K g f)
noncomputable def C0 : DT := fun s => some (true, s)
theorem N5 : R4 X g [] C0 := fun pins s σ H Q I ⟨fa, O, s0, d, s', G, e, k⟩ => a8o pins s σ H Q I (by cases e; exact k H fa O StE.refl G)
theorem a8Q {c : Expr} {f : DT} (h : TO X g c f) : R4 X g [c] f := a7F h.pe
theorem a2M {K : PySem.W.Frag} {N : Addr → Prop} {fa : Option Addr} {H : Hp} {sl : List Sl} {σ : L2.St} {O : List Addr} (h : SlR K N fa H sl σ O) : ∀ idx : List Nat, SlR K N fa H (E5 idx sl) (idx.map fun i => (σ[i]?).join) []
 | [] => by simp [E5, SlR]
 | i :: r => by
  have ih := a2M h r
  have go : ∀ e : sl[i]? = none ∨ (∃ z, sl[i]? = some z ∧ ∀ d, z ≠ .val d), P6 sl i = .no := fun e => by
   unfold P6
   rcases e with e | ⟨z, e, n⟩
   ·rw [e]
   ·rw [e]
    cases z with
    | val d => exact absurd rfl (n d)
    | no => rfl
    | own ds => rfl
  show SlR K N fa H (P6 sl i :: E5 r sl) ((σ[i]?).join :: r.map fun i => (σ[i]?).join) []
  cases e : sl[i]? with
  | none =>
   rw [go (.inl e)]
   simp only [SlR]
   exact ⟨_, _, rfl, ih⟩
  | some z =>
   cases z with
   | no =>
    rw [go (.inr ⟨_, e, fun d z => by cases z⟩)]
    simp only [SlR]
    exact ⟨_, _, rfl, ih⟩
   | own ds =>
    rw [go (.inr ⟨_, e, fun d z => by cases z⟩)]
    simp only [SlR]
    exact ⟨_, _, rfl, ih⟩
   | val d =>
    obtain ⟨u, e1, q⟩ := SlR.val h e
    have ec : P6 sl i = .val d := by unfold P6; rw [e]
    rw [ec]
    simp only [SlR]
    exact ⟨u, _, by rw [e1]; rfl, q, ih⟩
noncomputable def a9M (mk : List Sl → D → Option (List Sl)) (fi : DA) (fc : DT) (fe : DE) : DA := fun s => (fi s).bind fun x => if x.1.length ≤ sizeLine then (v8 (mk x.2.sl) fc fe x.1 x.2.fs).map fun y => (y.1, { x.2 with fs := y.2 }) else none
theorem a2X {n : Nat} {G : TG} {mk : List Sl → D → Option (List Sl)} (hG : ∀ (N : Addr → Prop) (fa : Option Addr) (sl : List Sl) (d : D) (sl0 : List Sl) (x : V) (σ : L2.St) (H : Hp) (Q : L2.St → Hp → Prop), mk sl d = some sl0 → Rep X.K N fa H d x → SlR X.K N fa H (E5 idx sl) (idx.map fun i => (σ[i]?).join) [] →
  (∀ σ' : L2.St, (σ'.length = (u7 n idx σ).length ∧ ∀ (j : Nat) (v : V), (u7 n idx σ)[j]? = some (some v) → σ'[j]? = some (some v)) → SlR X.K N fa H sl0 σ' [] → Q σ' H) → G x (u7 n idx σ) H Q) : ∀ σ H Q, liftF X.K g (a9M mk fi fc fe) σ H Q → S3 n idx (liftI X.K g fi) G (fun σ H Q => ∃ g', liftT X.K g' fc σ H Q) (fun σ H Q => ∃ g', liftE X.K g' fe σ H Q) σ H Q := by
 intro σ H Q ⟨fa, O, s, res, s', I, e, kk⟩
 refine m6 e fun ds s1 h1 h2 => ?_
 by_cases hz : ds.length ≤ sizeLine
 ·simp only [if_pos hz] at h2
  refine mapP h2 fun out fsf h3 h4 => ?_
  simp only [Prod.mk.injEq] at h4
  obtain ⟨e1, e2⟩ := h4
  subst e1; subst e2
  refine ⟨fa, O, s, ds, s1, I, h1, hz, fun J H1 f1 O1 a1 I1 J1 p hp => ?_⟩
  have stE : ∀ {fa' : Option Addr} {H' : Hp}, Stp f1 [p] (upd H1 p (.lst [])) fa' [p] H' → StE f1 O1 H1 fa' O1 H' := fun {fa' H'} a => by
   refine ⟨fun _ h => h, ?_, fun b u e n => ?_, fun b z => (A4 (fa := f1) (O := O1) hp).mon b (a.mon b z)⟩
   ·rcases a.fe with e | ⟨e, h⟩
    ·exact .inl e
    ·exact .inr ⟨e, fun x z => (A4 (fa := f1) (O := O1) hp).mon x (h x z)⟩
   ·have nb : b ≠ p := F3 e hp
    exact a.same b u (by rw [l8 nb]; exact e) (by simp [nb]) n
  have carP : ∀ {fa' : Option Addr} {H' : Hp}, Stp f1 [p] (upd H1 p (.lst [])) fa' [p] H' → Car X.K (NN g.F f1 O1) f1 H1 (FF g fa' O1 p) fa' H' := fun {fa' H'} a => by
   have c := I1.car (stE a).stp
   refine ⟨fun b xs n q => ?_, c.tp, c.fz, c.fe⟩
   obtain ⟨q', n'⟩ := c.ls b xs n q
   refine ⟨q', ?_⟩
   rintro (z | z)
   ·exact n' z
   ·subst z; rw [hp] at q; cases q
  refine ⟨fun i m H' => m = ds.length - i ∧ i ≤ ds.length ∧ ∃ fa' ys res' rest fs', CI X.K g f1 O1 (upd H1 p (.lst [])) p fa' H' ys res' fs' ∧ v8 (mk s1.sl) fc fe (ds.drop i) fs' = some (rest, fsf) ∧ res' ++ rest = out ∧ ys.length ≤ i, ?_, ?_⟩
  ·refine ⟨ds.length, by simp, Nat.zero_le _, f1, [], [], out, s1.fs, ⟨Stp.refl, u9, Reps.nil, ?_, fun z => I1.fd.tracked z hp⟩, by simpa using h3, rfl, Nat.le_refl _⟩
   exact I1.fd.car (Z2 I1 hp) (I1.fd.same_new hp)
  ·rintro i m H' ⟨rfl, hil, fa', ys, res', rest, fs', c, hd, ho, hy⟩
   have Hcar := carP c.st
   obtain ⟨jgo, jstop⟩ := J1 _ _ _ Hcar (fun b u e n => (stE c.st).same b u e n) i
   by_cases hlt : i < ds.length
   ·have hdi : ds[i]? = some ds[i] := List.getElem?_eq_getElem hlt
    obtain ⟨go, yl⟩ := jgo _ hdi
    refine .inr ⟨go, fun x H'' hx => ?_⟩
    obtain ⟨e1, rx⟩ := yl x H'' hx
    subst e1
    rw [a2V hdi, v8] at hd
    refine J0 hd fun sl0 hm hd => ?_
    refine m6 hd fun b sb h5 h6 => ?_
    have hNN : ∀ b, NN (FF g fa' O1 p) fa' [] b → FF g fa' O1 p b := fun b z => by
     rcases z with z | z | z
     ·exact z
     ·cases z
     ·exact .inl (.inr (.inr z))
    have cN : Car X.K (FF g fa' O1 p) fa' H'' (NN (FF g fa' O1 p) fa' []) fa' H'' := ⟨fun b xs n q => ⟨q, fun z => n (hNN b z)⟩, fun _ _ q => q, fun _ _ q => q, fun _ q => q⟩
    have trk : ∀ b, FF g fa' O1 p b → H'' b ≠ none := fun b z => by
     rcases z with (z | z | z) | z
     ·exact fun w => I1.trF z ((stE c.st).mon b w)
     ·obtain ⟨xs, e⟩ := I1.owned z
      exact fun w => by have := (stE c.st).mon b w; rw [e] at this; cases this
     ·exact c.fd.tracked z
     ·rw [z, c.ls]; simp
    refine hG (NN (FF g fa' O1 p) fa' []) fa' s1.sl ds[i] sl0 x σ H'' _ hm (Rep.go cN _ _ rx) (SlR.go cN (fun a xs ha => by cases ha) (a2M (SlR.go Hcar (fun a xs ha e => (stE c.st).same a _ e fun z => I1.nf a z ha) I1.sl) idx)) fun σ1 hσ hsl => ⟨hσ, ?_⟩
    have G0 : GI X.K ⟨FF g fa' O1 p, H'', fa'⟩ σ1 H'' fa' [] ⟨sl0, fs'⟩ := ⟨List.nodup_nil, hsl, fun b hb => (by cases hb), Stp.refl, trk, fun a ha => .inl (.inr (.inr ha)), c.fd.car cN fun _ _ => rfl, fun _ _ z => (by cases z)⟩
    refine ⟨⟨FF g fa' O1 p, H'', fa'⟩, fa', [], _, b, sb, G0, h5, fun H3 f3 O3 a3 I3 => ?_⟩
    have eO : O3 = [] := List.eq_nil_iff_forall_not_mem.mpr fun z hz => by have := a3.sub z hz; cases this
    subst eO
    have hF3 : ∀ b, FF g f3 O1 p b → NN (FF g fa' O1 p) f3 [] b := fun b z => by
     rcases z with (z | z | z) | z
     ·exact .inl (.inl (.inl z))
     ·exact .inl (.inl (.inr (.inl z)))
     ·exact .inr (.inr z)
     ·exact .inl (.inr z)
    have c3 := c.step a3 hF3 I3
    cases b with
    | false =>
     rw [if_neg Bool.false_ne_true] at h6
     refine a3g ?_
     exact ⟨ds.length - (i + 1), by omega, rfl, hlt, f3, ys, res', rest, sb.fs, c3, h6, ho, Nat.le_succ_of_le hy⟩
    | true =>
     rw [if_pos rfl] at h6
     refine a2L ?_
     refine m6 h6 fun dd sd h7 h8 => ?_
     refine mapP h8 fun rest2 fs2 h9 h10 => ?_
     simp only [Prod.mk.injEq] at h10
     refine ⟨⟨FF g fa' O1 p, H'', fa'⟩, f3, [], sb, dd, sd, I3, h7, fun v H4 f4 O4 a4 I4 r4 => ?_⟩
     have eO : O4 = [] := List.eq_nil_iff_forall_not_mem.mpr fun z hz => by have := a4.sub z hz; cases this
     subst eO
     have hF4 : ∀ b, FF g f4 O1 p b → NN (FF g fa' O1 p) f4 [] b := fun b z => by
      rcases z with (z | z | z) | z
      ·exact .inl (.inl (.inl z))
      ·exact .inl (.inl (.inr (.inl z)))
      ·exact .inr (.inr z)
      ·exact .inl (.inr z)
     have c4 := c3.step a4 hF4 I4
     refine ⟨ys, c4.ls, by omega, ds.length - (i + 1), by omega, rfl, hlt, f4, ys ++ [v], res' ++ [dd], rest2, sd.fs, c4.app hF4 r4, by rw [h9, h10.2], ?_, by simp; omega⟩
     rw [← ho, ← h10.1]; simp
   ·refine .inl ⟨jstop (Nat.le_of_not_lt hlt), ?_⟩
    rw [List.drop_eq_nil_of_le (Nat.le_of_not_lt hlt), v8] at hd
    simp only [Option.some.injEq, Prod.mk.injEq] at hd
    obtain ⟨hd1, hd2⟩ := hd
    subst hd1; subst hd2
    rw [List.append_nil] at ho
    subst ho
    have aE := stE c.st
    have car1 := I1.car aE.stp
    have sameO : ∀ a xs, a ∈ O1 → H1 a = some (.lst xs) → H' a = some (.lst xs) := fun a xs ha e => aE.same a _ e fun z => I1.nf a z ha
    refine kk p ys H' fa' O1 (a1.trans aE) ⟨⟨I1.nd, SlR.go car1 sameO I1.sl, I1.fr, I1.st.trans ⟨fun b hb => (by cases hb), aE.fe, fun b u e _ n => aE.same b u e n, aE.mon⟩, I1.tr, I1.ff, ?_, I1.nf_step aE.fe⟩, c.ls, SlR.go Hcar sameO I1.sl, c.fd, c.rs, c.nf⟩ (a1.mon p hp)
    exact c.fd.car (K := X.K) ⟨fun b xs n q => ⟨q, fun z => n (.inl z)⟩, fun _ _ q => q, fun _ _ q => q, fun _ q => q⟩ fun _ _ => rfl
 ·simp only [if_neg hz] at h2; cases h2
theorem a21 (k : CompOk X scope cl N' 1 idx) : ∀ σ H Q, liftF X.K g (F2 idx fi fc fe) σ H Q → S3 1 idx (liftI X.K g fi) (F5 0) (fun σ H Q => ∃ g', liftT X.K g' fc σ H Q) (fun σ H Q => ∃ g', liftE X.K g' fe σ H Q) σ H Q :=
 a2X (mk := fun sl d => some (.val d :: E5 idx sl)) fun N fa sl d sl0 x σ H Q hm rx hc kk => by
  cases hm
  refine kk _ ⟨by simp, fun j v hj => ?_⟩ ?_
  ·cases j with
   | zero => simp [u7] at hj
   | succ j => rw [List.getElem?_set_ne (by simp)]; exact hj
  ·have eb : (u7 1 idx σ).set 0 (some x) = some x :: idx.map fun i => (σ[i]?).join := by simp [u7]
   rw [eb]
   simp only [SlR]
   exact ⟨x, _, rfl, rx, hc⟩
theorem U9 (hc : X.calm = true) (k : CompOk X scope cl N' 1 idx) (hi : IO X g tg iter fi) (hg : ∀ C s0 H0 ex, PG (blk X N' scope cl C s0 H0 ex) tg (F5 0))
  (ht : ∀ C s0 H0 ex g', R4 (blk X N' scope cl C s0 H0 ex) g' ifs fc) (he : ∀ C s0 H0 ex g', EO (blk X N' scope cl C s0 H0 ex) g' elt fe) (hs : ∀ x, foldedSetIterable iter X.env x = pure x := by intro _; rfl) :
  FO X g (.ListComp elt [⟨tg, iter, ifs, 0⟩] scope pos) (F2 idx fi fc fe) := by
 exact FO.w (a3K (tc := fun σ H Q => ∃ g', liftT X.K g' fc σ H Q) (te := fun σ H Q => ∃ g', liftE X.K g' fe σ H Q) hc k hi.pe hg (fun C s0 H0 ex pins s σ H Q I ⟨g', h⟩ => ht C s0 H0 ex g' pins s σ H Q I h) (fun C s0 H0 ex pins s σ H Q I ⟨g', h⟩ => (he C s0 H0 ex g').pe pins s σ H Q I h) hs) (a21 k)
end
end DL
namespace HT2
open PySem PyProof.Rows
theorem cat_tup0 {prog : Program} {w : World} {A : Around} {E : Value → Shared → Prop} {s : Shared} {t b : Addr} {ws : List Value} {Q : Value → Shared → Prop} (ht : IsTup s.heap t ([] : List Value).toArray) (hb : IsTup s.heap b ws.toArray)
  (h : Q (.ref b) s) : wpAny (model prog w) A (binaryOp .Add (.ref t) (.ref b)) Q E s := by
 obtain ⟨⟨cls, dd, data, sl⟩, ho, hc, n, hd⟩ := id ht
 obtain ⟨⟨cls2, dd2, data2, sl2⟩, ho2, hc2, n2, hd2⟩ := id hb
 simp only at hc hd hc2 hd2
 subst hc hd hc2 hd2
 exact concat_meets ⟨_, ho, rfl⟩ ⟨_, ho2, rfl⟩ noFill_tuple_add seq_tuple_add PySem.F.slot_tuple_add PySem.F.entry_tuple_add (PySem.F.args_tuple_add_2 _ _)
  (tuple_addW0 t b _ ws.toArray n n2 dd dd2 sl sl2 (by simp)) ⟨ho, ho2, h⟩
end HT2
namespace DL
open PySem PySem.Spec L2
noncomputable def o0 (i : Int) : Bool := decide (i.natAbs.log2 < 1000000)
theorem a3L {i : Int} (h : o0 i = true) : Builtin.Int.intBits i ≤ 2 ^ 20 := by
 have h1 : i.natAbs.log2 < 1000000 := of_decide_eq_true h
 unfold Builtin.Int.intBits
 split
 ·exact Nat.zero_le _
 ·have e : (2 : Nat) ^ 20 = 1048576 := by decide
  rw [e]; omega
noncomputable def y0 (j : Int) : Bool := decide (j ≠ 0) && decide (j.natAbs.log2 < 9000)
section
variable {X : Cx}
theorem op_mulB : OpR X (binaryOp .Mult) (rI (fun i j => o0 i = true ∧ o0 j = true) fun i j => .int (i * j)) := opI fun _ _ _ _ _ _ _ hc q => PyProof.Rows.mul_int q (IntMulOk.of_bits (a3L hc.1) (a3L hc.2))
theorem D3 : OpR X (binaryOp .FloorDiv) (rI (fun _ j => y0 j = true) fun i j => .int (i.fdiv j)) := opI fun i j _ _ _ _ _ hc q => by
 have hc' : y0 j = true := hc
 unfold y0 at hc'
 rw [Bool.and_eq_true] at hc'
 exact PyProof.Rows.floordiv_int (of_decide_eq_true hc'.1) q (.inl (PyProof.noPylong_of_log2 (of_decide_eq_true hc'.2)))
noncomputable def a4g (K : PySem.W.Frag) : R2 := fun x y H Q => ∃ a b ys, x = .ref a ∧ y = .ref b ∧ SqT K H a [] ∧ SqT K H b ys ∧ Q (.ref b) H
theorem op_catT0 : OpR X (binaryOp .Add) (a4g X.K) := by
 intro pins s σ H x y v u Q I rx ry h
 obtain ⟨a, b, ys, rfl, rfl, ha, hb, q⟩ := h
 cases rx
 cases ry
 obtain ⟨its, r1, ht, _⟩ := I.tuple ha
 obtain ⟨its2, r2, ht2, _⟩ := I.tuple hb
 cases r1
 exact HT2.cat_tup0 ht ht2 ⟨.ref b, H, I, rfl, q⟩
noncomputable def a3d (K : PySem.W.Frag) : R2 := fun x y H Q => (rI0 (fun i j => .int (i + j)) x y H Q ∨ (∃ i j, x = .str i ∧ y = .str j ∧ i.length + j.length ≤ sizeLine ∧ Q (.str (i ++ j)) H)) ∨ ((a4g K x y H Q ∨ a3T K x y H Q) ∨ a2x x y H Q)
theorem B0 : OpR X (binaryOp .Add) (a3d X.K) := (op_add.or b0n).or ((op_catT0.or a84).or U6)
noncomputable def a4r : R2 := fun x y H Q => rI (fun i j => o0 i = true ∧ o0 j = true) (fun i j => .int (i * j)) x y H Q ∨ a4B x y H Q
theorem m8 : OpR X (binaryOp .Mult) a4r := op_mulB.or b0o
end
noncomputable def n4 : D → D → Option D
 | .int i, .int j => some (.int (i + j))
 | .str x, .str y => if x.length + y.length ≤ sizeLine then some (.str (x ++ y)) else none
 | .tup xs, .tup ys => if xs.length + ys.length ≤ sizeLine then some (.tup (xs ++ ys)) else none
 | .lst xs, .lst ys => if xs.length + ys.length ≤ sizeLine then some (.lst (xs ++ ys)) else none
 | _, _ => none
noncomputable def t9 : D → D → Option D
 | .int i, .int j => some (.int (i - j))
 | _, _ => none
noncomputable def k0 : D → D → Option D
 | .int i, .int j => if o0 i && o0 j then some (.int (i * j)) else none
 | .lst xs, .int k => if -(2 ^ 63) ≤ k ∧ k < 2 ^ 63 ∧ xs.length * k.toNat ≤ sizeLine then some (.lst (List.replicate k.toNat xs).flatten) else none
 | _, _ => none
noncomputable def v6 : D → D → Option D
 | .int i, .int j => if y0 j then some (.int (i.fdiv j)) else none
 | _, _ => none
noncomputable def r8 : D → D → Option D
 | .int i, .int j => if j ≠ 0 then some (.int (i.fmod j)) else none
 | _, _ => none
noncomputable def E2 : D → D → Option D
 | .int i, .int j => if 0 ≤ j ∧ j ≤ 1000000 ∧ i.natAbs < 2 ^ 64 then some (.int (i ^ j.toNat)) else none
 | _, _ => none
noncomputable def j8 : D → Option D
 | .int i => some (.int (-i))
 | _ => none
noncomputable def k8 (p : Int → Int → Bool) : D → D → Option D
 | .int i, .int j => some (.bl (p i j))
 | _, _ => none
theorem a4P {K : PySem.W.Frag} {N : Addr → Prop} {fa : Option Addr} {H : Hp} {ds : List D} {xs : List V} (r : Reps K N fa H ds xs) : xs = [] ↔ ds = [] := by
 have := r.length
 cases xs <;> cases ds <;> simp_all
theorem Reps.flat {K : PySem.W.Frag} {N : Addr → Prop} {fa : Option Addr} {H : Hp} {ds : List D} {xs : List V} (r : Reps K N fa H ds xs) : ∀ k : Nat, Reps K N fa H (List.replicate k ds).flatten (List.replicate k xs).flatten
 | 0 => by simp [Reps]
 | k + 1 => by
  simp only [List.replicate_succ, List.flatten_cons]
  exact Reps.append r (Reps.flat r k)
section
variable {K : PySem.W.Frag}
theorem A7 : R2D K (a3d K) n4 := by
 intro g σ H fa O s x y d1 d2 d Q I r1 r2 e k
 cases d1 with
 | int i =>
  cases d2 with
  | int j =>
   cases e
   simp only [RepB, Rep] at r1 r2
   exact .inl (.inl ⟨i, j, r1, r2, k _ H StE.refl I (by simp only [Rep])⟩)
  | _ => cases e
 | str a =>
  cases d2 with
  | str b =>
   have e : (if a.length + b.length ≤ sizeLine then some (D.str (a ++ b)) else none) = some d := e
   by_cases h : a.length + b.length ≤ sizeLine
   ·rw [if_pos h] at e
    cases e
    simp only [RepB, Rep] at r1 r2
    refine .inl (.inr ⟨a, b, r1.1, r2.1, h, k _ H StE.refl I ?_⟩)
    simp only [Rep]
    exact ⟨trivial, by rw [strLen_append]; exact h⟩
   ·rw [if_neg h] at e; cases e
  | _ => cases e
 | tup as =>
  cases d2 with
  | tup bs =>
   have e : (if as.length + bs.length ≤ sizeLine then some (D.tup (as ++ bs)) else none) = some d := e
   by_cases h : as.length + bs.length ≤ sizeLine
   ·rw [if_pos h] at e
    cases e
    simp only [RepB, Rep] at r1 r2
    obtain ⟨a, xs, rfl, qa, wa⟩ := r1
    obtain ⟨b, ys, rfl, qb, wb⟩ := r2
    by_cases hx : xs = []
    ·have ha := (a4P wa).mp hx
     subst hx; subst ha
     refine .inr (.inl (.inl ⟨a, b, ys, rfl, rfl, qa, qb, k _ H StE.refl I ?_⟩))
     simp only [Rep, List.nil_append]
     exact ⟨b, ys, rfl, qb, wb⟩
    ·refine .inr (.inl (.inr ⟨a, b, xs, ys, rfl, rfl, qa, qb, hx, by rw [wa.length, wb.length]; exact h, fun hy => ?_, fun hy p hp => ?_⟩))
     ·have hb := (a4P wb).mp hy
      subst hy; subst hb
      refine k _ H StE.refl I ?_
      simp only [Rep, List.append_nil]
      exact ⟨a, xs, rfl, qa, wa⟩
     ·have a2 : StE fa O H fa O (upd H p (.tup (xs ++ ys))) := A4 hp
      refine k _ _ a2 (I.new hp) ?_
      simp only [Rep]
      exact ⟨p, _, rfl, SqT.of u9, Reps.stp I a2.stp (Reps.append wa wb)⟩
   ·rw [if_neg h] at e; cases e
  | _ => cases e
 | lst as =>
  cases d2 with
  | lst bs =>
   have e : (if as.length + bs.length ≤ sizeLine then some (D.lst (as ++ bs)) else none) = some d := e
   by_cases h : as.length + bs.length ≤ sizeLine
   ·rw [if_pos h] at e
    cases e
    obtain ⟨a, xs, rfl, _, qa, wa⟩ := r1
    obtain ⟨b, ys, rfl, _, qb, wb⟩ := r2
    refine .inr (.inr ⟨a, b, xs, ys, rfl, rfl, qa, qb, by rw [wa.length, wb.length]; exact h, fun p hp => ?_⟩)
    have a2 : StE fa O H fa O (upd H p (.lst (xs ++ ys))) := A4 hp
    have L := L1 I hp (Reps.append wa wb)
    refine k _ _ a2 L.gi ?_
    simp only [Rep]
    exact ⟨p, _, rfl, X2 I a2 L.gi hp L.nf, u9, Reps.stp I a2.stp (Reps.append wa wb)⟩
   ·rw [if_neg h] at e; cases e
  | _ => cases e
 | _ => cases e
noncomputable def N6 : D → D → Option (List D)
 | .lst xs, .lst ys => if xs.length + ys.length ≤ sizeLine then some (xs ++ ys) else none
 | _, _ => none
theorem Y8 : R2F K a2x N6 := by
 intro g σ H fa O s x y d1 d2 ds Q I r1 r2 e k
 cases d1 with
 | lst as =>
  cases d2 with
  | lst bs =>
   simp only [N6] at e
   by_cases h : as.length + bs.length ≤ sizeLine
   ·rw [if_pos h] at e
    cases e
    obtain ⟨a, xs, rfl, _, qa, wa⟩ := r1
    obtain ⟨b, ys, rfl, _, qb, wb⟩ := r2
    refine ⟨a, b, xs, ys, rfl, rfl, qa, qb, by rw [wa.length, wb.length]; exact h, fun p hp => ?_⟩
    exact k p _ _ (A4 hp) (L1 I hp (Reps.append wa wb)) hp
   ·rw [if_neg h] at e; cases e
  | _ => cases e
 | _ => cases e
theorem a2s {C : Int → Int → Prop} {f : Int → Int → D} {f' : Int → Int → V} {p : D → D → Option D} (hp : ∀ d1 d2 d, p d1 d2 = some d → ∃ i j, d1 = .int i ∧ d2 = .int j ∧ C i j ∧ d = f i j) (hf : ∀ N fa H i j, Rep K N fa H (f i j) (f' i j)) : R2D K (rI C f') p := by
 intro g σ H fa O s x y d1 d2 d Q I r1 r2 e k
 obtain ⟨i, j, rfl, rfl, c, rfl⟩ := hp d1 d2 d e
 simp only [RepB, Rep] at r1 r2
 exact ⟨i, j, r1, r2, c, k _ H StE.refl I (hf _ _ _ _ _)⟩
theorem a2T {f : Int → Int → D} {f' : Int → Int → V} {p : D → D → Option D} (hp : ∀ d1 d2 d, p d1 d2 = some d → ∃ i j, d1 = .int i ∧ d2 = .int j ∧ d = f i j) (hf : ∀ N fa H i j, Rep K N fa H (f i j) (f' i j)) : R2D K (rI0 f') p := by
 intro g σ H fa O s x y d1 d2 d Q I r1 r2 e k
 obtain ⟨i, j, rfl, rfl, rfl⟩ := hp d1 d2 d e
 simp only [RepB, Rep] at r1 r2
 exact ⟨i, j, r1, r2, k _ H StE.refl I (hf _ _ _ _ _)⟩
noncomputable def a0x (F : Int → Int → Option D) : D → D → Option D
 | .int i, .int j => F i j
 | _, _ => none
theorem a3c {F : Int → Int → Option D} {d1 d2 d : D} (e : a0x F d1 d2 = some d) : ∃ i j, d1 = .int i ∧ d2 = .int j ∧ F i j = some d := by
 cases d1 with
 | int i =>
  cases d2 with
  | int j => exact ⟨i, j, rfl, rfl, e⟩
  | _ => cases e
 | _ => cases e
theorem a2q {C : Int → Int → Prop} [∀ i j, Decidable (C i j)] {f : Int → Int → D} {d1 d2 d : D} (e : a0x (fun i j => if C i j then some (f i j) else none) d1 d2 = some d) : ∃ i j, d1 = .int i ∧ d2 = .int j ∧ C i j ∧ d = f i j := by
 obtain ⟨i, j, h1, h2, h3⟩ := a3c e
 by_cases h : C i j
 ·have h3 : (if C i j then some (f i j) else none) = some d := h3
  rw [if_pos h] at h3
  exact ⟨i, j, h1, h2, h, (Option.some.inj h3).symm⟩
 ·have h3 : (if C i j then some (f i j) else none) = some d := h3
  rw [if_neg h] at h3
  cases h3
theorem a40 {f : Int → Int → D} {d1 d2 d : D} (e : a0x (fun i j => some (f i j)) d1 d2 = some d) : ∃ i j, d1 = .int i ∧ d2 = .int j ∧ d = f i j := by
 obtain ⟨i, j, h1, h2, h3⟩ := a3c e
 exact ⟨i, j, h1, h2, (Option.some.inj h3).symm⟩
theorem F7 : R2D K (rI0 fun i j => .int (i - j)) t9 := a2T (f := fun i j => .int (i - j)) (fun d1 d2 d e => a40 (f := fun i j => .int (i - j)) e) fun _ _ _ _ _ => by simp only [Rep]
theorem B9 (p : Int → Int → Bool) : R2D K (rI0 fun i j => .bl (p i j)) (k8 p) := a2T (f := fun i j => .bl (p i j)) (fun d1 d2 d e => a40 (f := fun i j => .bl (p i j)) e) fun _ _ _ _ _ => by simp only [Rep]
theorem m7 : R2D K a4r k0 := by
 intro g σ H fa O s x y d1 d2 d Q I r1 r2 e k
 cases d1 with
 | int i =>
  cases d2 with
  | int j =>
   have e : (if o0 i && o0 j then some (D.int (i * j)) else none) = some d := e
   by_cases h : (o0 i && o0 j) = true
   ·rw [if_pos h] at e
    cases e
    rw [Bool.and_eq_true] at h
    simp only [RepB, Rep] at r1 r2
    exact .inl ⟨i, j, r1, r2, h, k _ H StE.refl I (by simp only [Rep])⟩
   ·rw [if_neg h] at e; cases e
  | _ => cases e
 | lst as =>
  cases d2 with
  | int j =>
   simp only [k0] at e
   by_cases h : -(2 ^ 63) ≤ j ∧ j < 2 ^ 63 ∧ as.length * j.toNat ≤ sizeLine
   ·rw [if_pos h] at e
    cases e
    obtain ⟨a, xs, rfl, _, qa, wa⟩ := r1
    simp only [RepB, Rep] at r2
    subst r2
    refine .inr ⟨a, j, xs, rfl, rfl, qa, h.1, h.2.1, by rw [wa.length]; exact h.2.2, fun p hp => ?_⟩
    have a2 : StE fa O H fa O (upd H p (.lst (List.replicate j.toNat xs).flatten)) := A4 hp
    have L := L1 I hp (wa.flat j.toNat)
    refine k _ _ a2 L.gi ?_
    simp only [Rep]
    exact ⟨p, _, rfl, X2 I a2 L.gi hp L.nf, u9, Reps.stp I a2.stp (wa.flat j.toNat)⟩
   ·rw [if_neg h] at e; cases e
  | _ => cases e
 | _ => cases e
theorem D7 : R2D K (rI (fun _ j => y0 j = true) fun i j => .int (i.fdiv j)) v6 := a2s (f := fun i j => .int (i.fdiv j)) (fun d1 d2 d e => a2q (C := fun _ j => y0 j = true) (f := fun i j => .int (i.fdiv j)) e) fun _ _ _ _ _ => by simp only [Rep]
theorem D8 : R2D K (rI (fun _ j => j ≠ 0) fun i j => .int (i.fmod j)) r8 := a2s (f := fun i j => .int (i.fmod j)) (fun d1 d2 d e => a2q (C := fun _ j => j ≠ 0) (f := fun i j => .int (i.fmod j)) e) fun _ _ _ _ _ => by simp only [Rep]
theorem X9 : R2D K (rI a3z fun i j => .int (i ^ j.toNat)) E2 := a2s (f := fun i j => .int (i ^ j.toNat)) (fun d1 d2 d e => a2q (C := fun i j => 0 ≤ j ∧ j ≤ 1000000 ∧ i.natAbs < 2 ^ 64) (f := fun i j => .int (i ^ j.toNat)) e) fun _ _ _ _ _ => by simp only [Rep]
theorem o6 : R1D K (rU fun i => .int (-i)) j8 := by
 intro g σ H fa O s x d1 d Q I r1 e k
 cases d1 with
 | int i => cases e; simp only [RepB, Rep] at r1; exact ⟨i, r1, k _ H StE.refl I (by simp only [Rep])⟩
 | _ => cases e
end
section
variable {X : Cx} {pins : List (Addr × Obj)} {σ : L2.St} {H : Hp} {s : Shared} {N : Addr → Prop} {fa : Option Addr}
mutual
theorem S4 (I : Inv X pins σ H s) : ∀ (d : D) (v : V) (u : Value), G2 X.K N fa H d v → RelV v u → d.plain = true → ∃ as, Reads s.heap u d.py as
 | .non, v, u, r, ru, _ => by
  simp only [G2, Rep] at r; subst r; cases ru
  simp only [D.py]; exact ⟨[], .none⟩
 | .bl b, v, u, r, ru, _ => by
  simp only [G2, Rep] at r; subst r; cases ru
  simp only [D.py]; exact ⟨[], .bool b⟩
 | .int i, v, u, r, ru, _ => by
  simp only [G2, Rep] at r; subst r
  obtain ⟨t, rfl⟩ := ru
  simp only [D.py]; exact ⟨[], .int i t⟩
 | .str x, v, u, r, ru, _ => by
  simp only [G2, Rep] at r; obtain ⟨r, _⟩ := r; subst r
  obtain ⟨t, rfl⟩ := ru
  simp only [D.py]; exact ⟨[], .str x t⟩
 | .tup ds, v, u, r, ru, hp => by
  simp only [G2, Rep] at r
  obtain ⟨a, xs, rfl, q, w⟩ := r
  cases ru
  obtain ⟨its, rv, ⟨o, h1, h2, n, h3⟩, _⟩ := I.tuple q
  obtain ⟨as, ra⟩ := a0o I ds xs its w rv (by simpa only [D.plain] using hp)
  simp only [D.py]
  exact ⟨as, .tuple h1 h2 h3 (by simpa using ra)⟩
 | .lst ds, v, u, r, ru, hp => by
  obtain ⟨a, xs, rfl, q, w⟩ := r
  cases ru
  obtain ⟨its, rv, ⟨o, n, h1, h2, h3, h4⟩, _⟩ := I.list (SqL.of q)
  obtain ⟨as, ra⟩ := a0o I ds xs its w rv (by simpa only [D.plain] using hp)
  simp only [D.py]
  exact ⟨_, .list h1 h2 h4 (by simpa using ra)⟩
 | .feed, v, u, r, ru, hp => by simp only [D.plain] at hp; cases hp
 | .scr _, v, u, r, ru, hp => by simp only [D.plain] at hp; cases hp
theorem a0o (I : Inv X pins σ H s) : ∀ (ds : List D) (xs : List V) (us : List Value), Reps X.K N fa H ds xs → Vals xs us → D.plains ds = true → ∃ as, ReadsAll s.heap us (D.pys ds) as
 | [], xs, us, r, ru, _ => by
  simp only [Reps] at r; subst r; cases ru
  simp only [D.pys]; exact ⟨[], .nil⟩
 | d :: ds, xs, us, r, ru, hp => by
  simp only [Reps] at r
  obtain ⟨x, ys, rfl, r1, r2⟩ := r
  cases ru with
  | cons q qs =>
   simp only [D.plains, Bool.and_eq_true] at hp
   obtain ⟨as, h1⟩ := S4 I d x _ r1.o q hp.1
   obtain ⟨bs, h2⟩ := a0o I ds ys _ r2 qs hp.2
   simp only [D.pys]; exact ⟨_, .cons h1 h2⟩
end
end
noncomputable def y7 (d : D) : Bool := d.plain && SeqAt.shaped d.py
noncomputable def pEq (d1 d2 : D) : Option D := match d1, d2 with
 | .str x, .str y => some (.bl (decide (x = y)))
 | d1, d2 => if y7 d1 && y7 d2 then some (.bl (PyData.eqv d1.py d2.py)) else none
noncomputable def pNe (d1 d2 : D) : Option D := match d1, d2 with
 | .str x, .str y => some (.bl (!decide (x = y)))
 | d1, d2 => if y7 d1 && y7 d2 then some (.bl (!PyData.eqv d1.py d2.py)) else none
noncomputable def S5 (K : PySem.W.Frag) (f : Bool → Bool) : R2 := fun x y H Q => ∃ N fa d1 d2, RepB K N fa H d1 x ∧ RepB K N fa H d2 y ∧ y7 d1 = true ∧ y7 d2 = true ∧ Q (.bl (f (PyData.eqv d1.py d2.py))) H
section
variable {X : Cx} {K : PySem.W.Frag}
theorem a81 (hu : X.A.units + 64 < cLine) : OpR X (compareOp .Eq) (S5 X.K id) := by
 intro pins s σ H x y v u Q I rx ry h
 obtain ⟨N, fa, d1, d2, r1, r2, o1, o2, q⟩ := h
 unfold y7 at o1 o2
 rw [Bool.and_eq_true] at o1 o2
 obtain ⟨as, h1⟩ := S4 I d1 x v r1.o rx o1.1
 obtain ⟨bs, h2⟩ := S4 I d2 y u r2.o ry o2.1
 exact PyProof.Rows.eq_dataH h1 h2 o1.2 o2.2 hu ⟨.bl _, H, I, rfl, q⟩
theorem a8s (hu : X.A.units + 64 < cLine) : OpR X (compareOp .NotEq) (S5 X.K not) := by
 intro pins s σ H x y v u Q I rx ry h
 obtain ⟨N, fa, d1, d2, r1, r2, o1, o2, q⟩ := h
 unfold y7 at o1 o2
 rw [Bool.and_eq_true] at o1 o2
 obtain ⟨as, h1⟩ := S4 I d1 x v r1.o rx o1.1
 obtain ⟨bs, h2⟩ := S4 I d2 y u r2.o ry o2.1
 exact PyProof.Rows.ne_dataH h1 h2 o1.2 o2.2 hu ⟨.bl _, H, I, rfl, q⟩
theorem A2 (hu : X.A.units + 64 < cLine) : OpR X (compareOp .Eq) (fun x y H Q => rEq x y H Q ∨ S5 X.K id x y H Q) := op_eq.or (a81 hu)
theorem M1 (hu : X.A.units + 64 < cLine) : OpR X (compareOp .NotEq) (fun x y H Q => rNe x y H Q ∨ S5 X.K not x y H Q) := op_ne.or (a8s hu)
theorem a8c {d1 d2 d : D} (h : pEq d1 d2 = some d) : (∃ x y, d1 = .str x ∧ d2 = .str y ∧ d = .bl (decide (x = y))) ∨ (y7 d1 = true ∧ y7 d2 = true ∧ d = .bl (PyData.eqv d1.py d2.py)) := by
 unfold pEq at h
 split at h
 ·cases h; exact .inl ⟨_, _, rfl, rfl, rfl⟩
 ·split at h
  ·rename_i q
   rw [Bool.and_eq_true] at q
   cases h; exact .inr ⟨q.1, q.2, rfl⟩
  ·cases h
theorem a9b {d1 d2 d : D} (h : pNe d1 d2 = some d) : (∃ x y, d1 = .str x ∧ d2 = .str y ∧ d = .bl (!decide (x = y))) ∨ (y7 d1 = true ∧ y7 d2 = true ∧ d = .bl (!PyData.eqv d1.py d2.py)) := by
 unfold pNe at h
 split at h
 ·cases h; exact .inl ⟨_, _, rfl, rfl, rfl⟩
 ·split at h
  ·rename_i q
   rw [Bool.and_eq_true] at q
   cases h; exact .inr ⟨q.1, q.2, rfl⟩
  ·cases h
theorem a3m (x y : Str) : decide (V.str x = V.str y) = decide (x = y) := by
 by_cases h : x = y
 ·subst h; simp
 ·rw [decide_eq_false h, decide_eq_false fun z => h (V.str.inj z)]
theorem A3 : R2D K (fun x y H Q => rEq x y H Q ∨ S5 K id x y H Q) pEq := by
 intro g σ H fa O s x y d1 d2 d Q I r1 r2 e k
 rcases a8c e with ⟨a, b, rfl, rfl, rfl⟩ | ⟨h1, h2, rfl⟩
 ·simp only [RepB, Rep] at r1 r2
  obtain ⟨rfl, _⟩ := r1
  obtain ⟨rfl, _⟩ := r2
  exact .inl ⟨rfl, k _ H StE.refl I (by simp only [Rep, a3m])⟩
 ·exact .inr ⟨_, _, d1, d2, r1, r2, h1, h2, k _ H StE.refl I (by simp only [Rep, id])⟩
theorem N9 : R2D K (fun x y H Q => rNe x y H Q ∨ S5 K not x y H Q) pNe := by
 intro g σ H fa O s x y d1 d2 d Q I r1 r2 e k
 rcases a9b e with ⟨a, b, rfl, rfl, rfl⟩ | ⟨h1, h2, rfl⟩
 ·simp only [RepB, Rep] at r1 r2
  obtain ⟨rfl, _⟩ := r1
  obtain ⟨rfl, _⟩ := r2
  exact .inl ⟨rfl, k _ H StE.refl I (by simp only [Rep, a3m])⟩
 ·exact .inr ⟨_, _, d1, d2, r1, r2, h1, h2, k _ H StE.refl I (by simp only [Rep])⟩
noncomputable def pIx : D → D → Option D
 | .tup ds, .int i => atI ds i
 | .lst ds, .int i => atI ds i
 | _, _ => none
theorem a2I {N : Addr → Prop} {fa : Option Addr} {H : Hp} {ds : List D} {xs : List V} {i : Int} {d : D} (r : Reps K N fa H ds xs) (h : atI ds i = some d) : ∃ v, atI xs i = some v ∧ Rep K N fa H d v := by
 unfold atI at h ⊢
 rw [r.length]
 cases e : ixN ds.length i with
 | none => rw [e] at h; cases h
 | some j =>
  rw [e] at h
  simp only [Option.bind_some] at h ⊢
  exact Reps.get r h
theorem e7 : R2D K (fun x y H Q => a0O K x y H Q ∨ a2v K x y H Q) pIx := by
 intro g σ H fa O s x y d1 d2 d Q I r1 r2 e k
 cases d1 with
 | tup ds =>
  cases d2 with
  | int i =>
   simp only [RepB, Rep] at r1 r2
   obtain ⟨a, xs, rfl, q, w⟩ := r1
   obtain ⟨v, hv, rv⟩ := a2I w (show atI ds i = some d from e)
   exact .inr ⟨a, xs, i, v, rfl, r2, q, hv, k v H StE.refl I rv⟩
  | _ => cases e
 | lst ds =>
  cases d2 with
  | int i =>
   obtain ⟨a, xs, rfl, _, q, w⟩ := r1
   simp only [RepB, Rep] at r2
   obtain ⟨v, hv, rv⟩ := a2I w (show atI ds i = some d from e)
   exact .inl ⟨a, xs, i, v, rfl, r2, SqL.of q, hv, k v H StE.refl I rv⟩
  | _ => cases e
 | _ => cases e
theorem d0 : IxR X (fun x y H Q => a0O X.K x y H Q ∨ a2v X.K x y H Q) := ix_list.or b0q
end
noncomputable def dCB (p : List D → Option D) (f : DA) : DE := fun s => (f s).bind fun x => (p x.1).map fun d => (d, x.2)
noncomputable def dCF (p : List D → Option (List D)) (f : DA) : DA := fun s => (f s).bind fun x => (p x.1).map fun d => (d, x.2)
section
variable {X : Cx} {g : Gh} {x : Str} {p pos : Pos} {e : Expr} {es : List Expr} {t : DA} {id T : String} {r : List V → Hp → VK → Prop} {pr : List D → Option D} {pf : List D → Option (List D)}
theorem a4S (hr : RCD X.K r pr) (σ : L2.St) (H : Hp) (Q : VK) (h : liftE X.K g (dCB pr t) σ H Q) : tCB r (liftBA X.K g t) σ H Q := by
 obtain ⟨f0, O, s, d, s', I, e, k⟩ := h
 refine m6 e fun ds s1 h1 h => ?_
 refine L4 h fun d' h3 h => ?_
 simp only [Prod.mk.injEq] at h
 obtain ⟨e1, e2⟩ := h
 subst e1; subst e2
 exact ⟨f0, O, s, ds, s1, I, h1, fun vs H1 f1 O1 a1 I1 r1 => hr g σ H1 f1 O1 s1 vs ds d' Q I1 r1 h3 fun z H3 a3 I3 r3 => k z H3 f1 O1 (a1.trans a3) I3 r3⟩
theorem a9d (hr : RCF X.K r pf) (σ : L2.St) (H : Hp) (Q : VK) (h : liftF X.K g (dCF pf t) σ H Q) : tCB r (liftBA X.K g t) σ H Q := by
 obtain ⟨f0, O, s, d, s', I, e, k⟩ := h
 refine m6 e fun ds s1 h1 h => ?_
 refine L4 h fun d' h3 h => ?_
 simp only [Prod.mk.injEq] at h
 obtain ⟨e1, e2⟩ := h
 subst e1; subst e2
 exact ⟨f0, O, s, ds, s1, I, h1, fun vs H1 f1 O1 a1 I1 r1 => hr g σ H1 f1 O1 s1 vs ds d' Q I1 r1 h3 fun q ys H3 a3 L e3 => k q ys H3 f1 O1 (a1.trans a3) L (a1.mon _ e3)⟩
theorem v7 (hc : CallR X (.builtin id) r) (hr : RCD X.K r pr) (hg : Gl X x) (hm : X.mg x = none) (hv : bootBuiltins x = some (.builtin id)) (ha : BAO X g (e :: es) t) (hn : x ≠ "__name__" := by decide) (hdb : (x == ("__debug__" : Str)) = false := by decide)
  (he : starEach (e :: es) X.env = (false, eval e X.env) :: starEach es X.env := by rfl) (hpl : (backTo pos (starEach es X.env)).any (·.1) = false := by rfl) : EO X g (.Call (.Name x p) (e :: es) [] pos) (dCB pr t) :=
 EO.w (a6P hc hg hm hv ha.pe hn hdb he hpl) (a4S hr)
theorem O6 (hc : CallR X (.type T) r) (hr : RCD X.K r pr) (hg : Gl X x) (hm : X.mg x = none) (hv : bootBuiltins x = some (.type T)) (ha : BAO X g (e :: es) t) (hn : x ≠ "__name__" := by decide) (hdb : (x == ("__debug__" : Str)) = false := by decide)
  (he : starEach (e :: es) X.env = (false, eval e X.env) :: starEach es X.env := by rfl) (hpl : (backTo pos (starEach es X.env)).any (·.1) = false := by rfl) : EO X g (.Call (.Name x p) (e :: es) [] pos) (dCB pr t) :=
 EO.w (a4Q hc hg hm hv ha.pe hn hdb he hpl) (a4S hr)
theorem a4s (hc : CallR X (.type T) r) (hr : RCF X.K r pf) (hg : Gl X x) (hm : X.mg x = none) (hv : bootBuiltins x = some (.type T)) (ha : BAO X g (e :: es) t) (hn : x ≠ "__name__" := by decide) (hdb : (x == ("__debug__" : Str)) = false := by decide)
  (he : starEach (e :: es) X.env = (false, eval e X.env) :: starEach es X.env := by rfl) (hpl : (backTo pos (starEach es X.env)).any (·.1) = false := by rfl) : FO X g (.Call (.Name x p) (e :: es) [] pos) (dCF pf t) :=
 FO.w (a4Q hc hg hm hv ha.pe hn hdb he hpl) (a9d hr)
end
theorem a3X {K : PySem.W.Frag} {N : Addr → Prop} {fa : Option Addr} {H : Hp} {d : D} {xs : List V} (r : K6 K N fa H [d] xs) : ∃ x, xs = [x] ∧ RepB K N fa H d x := by
 obtain ⟨x, ys, rfl, r1, r2⟩ := r
 simp only [K6] at r2; subst r2
 exact ⟨x, rfl, r1⟩
noncomputable def one {α : Type} (p : D → Option α) : List D → Option α
 | [d] => p d
 | _ => none
theorem a4Z {α : Type} {p : D → Option α} {ds : List D} {a : α} (h : one p ds = some a) : ∃ d, ds = [d] ∧ p d = some a := by
 cases ds with
 | nil => cases h
 | cons d r =>
  cases r with
  | nil => exact ⟨d, rfl, h⟩
  | cons _ _ => cases h
noncomputable def l4 : D → Option D
 | .tup ds => some (.int (ds.length : Nat))
 | .lst ds => some (.int (ds.length : Nat))
 | .str x => some (.int (x.length : Nat))
 | _ => none
noncomputable def K8 : D → Option D
 | .int i => some (.int (if i < 0 then -i else i))
 | _ => none
noncomputable def C4 : D → Option D
 | .tup ds => some (.tup ds)
 | .lst ds => some (.tup ds)
 | _ => none
noncomputable def a1h : D → Option (List D)
 | .tup ds => some ds
 | .lst ds => some ds
 | _ => none
noncomputable def K0 (d : D) : Bool := d.plain && d.py.showable && d.py.canLay0 && decide (d.py.depth ≤ 64) && decide (d.py.shown.length ≤ sizeLine)
noncomputable def A6 (d : D) : Option D := if K0 d then some (.str d.py.shown) else none
section
variable {X : Cx} {K : PySem.W.Frag}
theorem E3 : CallR X (.builtin "len") (fun xs H Q => (∃ p ys, xs = [.ref p] ∧ (SqL X.K H p ys ∨ SqT X.K H p ys) ∧ Q (.int ys.length) H) ∨ (∃ z, xs = [.str z] ∧ z.length ≤ sizeLine ∧ Q (.int z.length) H)) := call_len_seq.or a5W
theorem rc1 {r : List V → Hp → VK → Prop} {p : D → Option D} (h : ∀ (g : Gh) (σ : L2.St) (H : Hp) (fa : Option Addr) (O : List Addr) (s : DS) (x : V) (d1 d : D) (Q : VK), GI K g σ H fa O s → RepB K (NN g.F fa O) fa H d1 x → p d1 = some d →
  (∀ v H', StE fa O H fa O H' → GI K g σ H' fa O s → Rep K (NN g.F fa O) fa H' d v → Q v H') → r [x] H Q) : RCD K r (one p) := by
 intro g σ H fa O s xs ds d Q I rs e k
 obtain ⟨d1, rfl, e1⟩ := a4Z e
 obtain ⟨x, rfl, rx⟩ := a3X rs
 exact h g σ H fa O s x d1 d Q I rx e1 k
theorem E8 : RCD K (fun xs H Q => (∃ p ys, xs = [.ref p] ∧ (SqL K H p ys ∨ SqT K H p ys) ∧ Q (.int ys.length) H) ∨ (∃ z, xs = [.str z] ∧ z.length ≤ sizeLine ∧ Q (.int z.length) H)) (one l4) := rc1 fun g σ H fa O s x d1 d Q I r e k => by
 cases d1 with
 | tup es =>
  cases e
  simp only [RepB, Rep] at r
  obtain ⟨a, ys, rfl, q, w⟩ := r
  exact .inl ⟨a, ys, rfl, .inr q, k _ H StE.refl I (by rw [w.length]; simp only [Rep])⟩
 | lst es =>
  cases e
  obtain ⟨a, ys, rfl, _, q, w⟩ := r
  exact .inl ⟨a, ys, rfl, .inl (SqL.of q), k _ H StE.refl I (by rw [w.length]; simp only [Rep])⟩
 | str z =>
  cases e
  simp only [RepB, Rep] at r
  obtain ⟨rfl, l⟩ := r
  exact .inr ⟨z, rfl, l, k _ H StE.refl I (by simp only [Rep])⟩
 | _ => cases e
theorem W5 : RCD K (fun xs H Q => ∃ i, xs = [.int i] ∧ Q (.int (if i < 0 then -i else i)) H) (one K8) := rc1 fun g σ H fa O s x d1 d Q I r e k => by
 cases d1 with
 | int i =>
  cases e
  simp only [RepB, Rep] at r
  subst r
  exact ⟨i, rfl, k _ H StE.refl I (by simp only [Rep])⟩
 | _ => cases e
theorem M6 : RCD K (fun xs H Q => ∃ p ys, xs = [.ref p] ∧ ((SqL K H p ys ∧ ∀ l, H l = none → Q (.ref l) (upd H l (.tup ys))) ∨ (SqT K H p ys ∧ Q (.ref p) H))) (one C4) := rc1 fun g σ H fa O s x d1 d Q I r e k => by
 cases d1 with
 | tup es =>
  cases e
  simp only [RepB, Rep] at r
  obtain ⟨a, ys, rfl, q, w⟩ := r
  exact ⟨a, ys, rfl, .inr ⟨q, k _ H StE.refl I (by simp only [Rep]; exact ⟨a, ys, rfl, q, w⟩)⟩⟩
 | lst es =>
  cases e
  obtain ⟨a, ys, rfl, _, q, w⟩ := r
  refine ⟨a, ys, rfl, .inl ⟨SqL.of q, fun p hp => ?_⟩⟩
  have a2 : StE fa O H fa O (upd H p (.tup ys)) := A4 hp
  refine k _ _ a2 (I.new hp) ?_
  simp only [Rep]
  exact ⟨p, ys, rfl, SqT.of u9, Reps.stp I a2.stp w⟩
 | _ => cases e
theorem a3p : RCF K (fun xs H Q => ∃ p ys, xs = [.ref p] ∧ (SqL K H p ys ∨ SqT K H p ys) ∧ ∀ l, H l = none → Q (.ref l) (upd H l (.lst ys))) (one a1h) := by
 intro g σ H fa O s xs ds es Q I rs e k
 obtain ⟨d1, rfl, e1⟩ := a4Z e
 obtain ⟨x, rfl, r⟩ := a3X rs
 cases d1 with
 | tup es' =>
  cases e1
  simp only [RepB, Rep] at r
  obtain ⟨a, ys, rfl, q, w⟩ := r
  exact ⟨a, ys, rfl, .inr q, fun p hp => k p ys _ (A4 hp) (L1 I hp w) hp⟩
 | lst es' =>
  cases e1
  obtain ⟨a, ys, rfl, _, q, w⟩ := r
  exact ⟨a, ys, rfl, .inl (SqL.of q), fun p hp => k p ys _ (A4 hp) (L1 I hp w) hp⟩
 | _ => cases e1
noncomputable def a4y (K : PySem.W.Frag) : List V → Hp → VK → Prop := fun xs H Q => ∃ N fa d x, xs = [x] ∧ RepB K N fa H d x ∧ K0 d = true ∧ Q (.str d.py.shown) H
theorem P8 (hu : X.A.units + 66 < cLine) (hg : X.A.guards = some []) : CallR X (.builtin "repr") (a4y X.K) := by
 intro pins s σ H xs us Q I r h
 obtain ⟨N, fa, d, x, rfl, rx, ok, q⟩ := h
 obtain ⟨u, rfl, ru⟩ := Q6 r
 unfold K0 at ok
 simp only [Bool.and_eq_true, decide_eq_true_eq] at ok
 obtain ⟨⟨⟨⟨hp, hs⟩, hl⟩, hd⟩, hz⟩ := ok
 obtain ⟨as, ra⟩ := S4 I d x u rx.o ru hp
 have fin : ∀ (h' : Heap) (tk : Nat) (t : Tok), (∀ b o, s.heap.get? b = some o → h'.get? b = some o) → EP X pins σ Q (.str d.py.shown t) { s with heap := h', toks := tk } := fun h' tk t hk => ⟨.str d.py.shown, H, I.kept hk, ⟨t, rfl⟩, q⟩
 cases d with
 | non =>
  simp only [RepB, Rep] at rx; subst rx; cases ru
  exact P.repr_of_none (fin s.heap _ _ fun _ _ e => e)
 | bl b =>
  simp only [RepB, Rep] at rx; subst rx; cases ru
  have := fin s.heap (s.toks + 1) s.toks fun _ _ e => e
  refine P.repr_of_bool ?_
  cases b <;> simpa only [D.py, PyData.shown] using this
 | int i =>
  simp only [RepB, Rep] at rx; subst rx
  obtain ⟨t, rfl⟩ := ru
  have := fin s.heap (s.toks + 1) s.toks fun _ _ e => e
  simp only [D.py, PyData.showable, decide_eq_true_eq] at hs
  exact P.repr_of_int hs (by simpa only [D.py, PyData.shown] using this)
 | str z =>
  simp only [RepB, Rep] at rx; obtain ⟨rx, _⟩ := rx; subst rx
  obtain ⟨t, rfl⟩ := ru
  have := fin s.heap (s.toks + 1) s.toks fun _ _ e => e
  exact P.repr_of_str (by simpa only [D.py, PyData.shown] using this) (by simpa only [D.py, PyData.shown] using hz)
 | tup ds =>
  simp only [RepB, Rep] at rx
  obtain ⟨a, ys, rfl, _⟩ := rx
  cases ru
  exact repr_of_reads' ra hs (PyData.noDict_hsm (PyData.hasDict_of_canLay _ hl)) hg (by omega) (fun _ _ e => e) (fun h' t tk hk => fin h' tk t hk) hz
 | lst ds =>
  obtain ⟨a, ys, rfl, _⟩ := rx
  cases ru
  exact repr_of_reads' ra hs (PyData.noDict_hsm (PyData.hasDict_of_canLay _ hl)) hg (by omega) (fun _ _ e => e) (fun h' t tk hk => fin h' tk t hk) hz
 | feed => cases hp
 | scr _ => cases hp
theorem Q2 : RCD K (a4y K) (one A6) := rc1 fun g σ H fa O s x d1 d Q I r e k => by
 unfold A6 at e
 by_cases h : K0 d1 = true
 ·rw [if_pos h] at e
  cases e
  refine ⟨_, _, d1, x, rfl, r, h, k _ H StE.refl I ?_⟩
  simp only [Rep]
  unfold K0 at h
  simp only [Bool.and_eq_true, decide_eq_true_eq] at h
  exact ⟨trivial, h.2⟩
 ·rw [if_neg h] at e; cases e
end
end DL
namespace DL
open PySem PySem.Spec L2
noncomputable def FS.get (key : Str) (f : FS) : Option D :=
 if f.kind = 0 then if key = "cells" then some (.lst (f.cells.map .int)) else if key = "at" then some (.int f.pos) else if key = "left" then some (.int f.left) else if key = "turn" then some (.int f.turn) else none else none
noncomputable def FS.put (key : Str) (n : Int) (f : FS) : Option FS :=
 if f.kind = 0 then if key = "at" then some { f with pos := n } else if key = "left" then some { f with left := n } else if key = "turn" then some { f with turn := n } else none else none
noncomputable def dFG (i : Nat) (key : Str) : DE := fun s => match s.sl[i]? with
 | some (.val .feed) => s.fs.bind fun f => (f.get key).map fun d => (d, s)
 | _ => none
section
variable {X : Cx} {g : Gh} {i : Nat} {x key : Str} {p1 p2 pos pos' : Pos} {j : Nat}
theorem a6r (xs : List V) (h : xs.length ≤ 63) : D6 xs none (some 63) = xs := by
 unfold D6
 have e1 : HT.sIx xs.length 0 none = 0 := rfl
 have e2 : HT.sIx xs.length xs.length (some 63) = xs.length := by
  have := HT.sIx_nat xs.length xs.length 63
  rw [show ((63 : Nat) : Int) = 63 from rfl] at this
  rw [this]; omega
 rw [e1, e2, List.drop_zero, Nat.sub_zero, List.take_length]
end
noncomputable def FS.tget (n : Int) (f : FS) : Option D :=
 if f.kind = 0 then none else if n = 0 then some (.lst (f.cells.map .int)) else if n = 1 then some (.int f.pos) else if n = 2 then some (.int f.left) else if n = 3 ∧ f.kind ≠ 1 then some (.int f.turn) else none
noncomputable def FS.tput (n v : Int) (f : FS) : Option FS :=
 if f.kind = 0 then none else if n = 1 then some { f with pos := v } else if n = 2 then some { f with left := v } else if n = 3 ∧ f.kind ≠ 1 then some { f with turn := v } else none
noncomputable def dTG (i : Nat) (n : Int) : DE := fun s => match s.sl[i]? with
 | some (.val .feed) => s.fs.bind fun f => (f.tget n).map fun d => (d, s)
 | _ => none
noncomputable def dTP (i : Nat) (n : Int) (fe : DE) : DM := fun s => (fe s).bind fun x => match x.2.sl[i]?, x.1 with
 | some (.val .feed), .int v => x.2.fs.bind fun f => (f.tput n v).map fun f' => (.next, { x.2 with fs := some f' })
 | _, _ => none
noncomputable def dTN (i : Nat) : DE := fun s => match s.sl[i]?, s.fs with
 | some (.val (.scr ns)), none => some (.feed, { s with fs := some ⟨ns, 0, 0, 0, 1⟩ })
 | _, _ => none
theorem FS.tget_val {n : Int} {f : FS} {d : D} (h : f.tget n = some d) (c : Addr) : ∃ v, atI (A9 c f) n = some v ∧ ((v = .ref c ∧ d = .lst (f.cells.map .int)) ∨ ∃ i, v = .int i ∧ d = .int i) ∧ f.kind ≠ 0 := by
 unfold FS.tget at h
 split at h
 ·cases h
 rename_i hk
 unfold A9
 split at h
 ·rename_i e; subst e; cases h
  refine ⟨.ref c, ?_, .inl ⟨rfl, rfl⟩, hk⟩
  split <;> rfl
 split at h
 ·rename_i e; subst e; cases h
  refine ⟨.int f.pos, ?_, .inr ⟨_, rfl, rfl⟩, hk⟩
  split <;> rfl
 split at h
 ·rename_i e; subst e; cases h
  refine ⟨.int f.left, ?_, .inr ⟨_, rfl, rfl⟩, hk⟩
  split <;> rfl
 split at h
 ·rename_i e; obtain ⟨e, e2⟩ := e; subst e; cases h
  refine ⟨.int f.turn, ?_, .inr ⟨_, rfl, rfl⟩, hk⟩
  rw [if_neg e2]; rfl
 ·cases h
theorem FS.tput_val {n v : Int} {f f' : FS} (h : f.tput n v = some f') (c : Addr) : ∃ j, ixN (A9 c f).length n = some j ∧ (A9 c f).set j (.int v) = A9 c f' ∧ f'.cells = f.cells ∧ f.kind ≠ 0 ∧ f'.kind ≠ 0 := by
 unfold FS.tput at h
 split at h
 ·cases h
 rename_i hk
 split at h
 ·rename_i e; subst e; cases h
  refine ⟨1, ?_, ?_, rfl, hk, hk⟩
  ·unfold A9; split <;> rfl
  ·by_cases z : f.kind = 1
   ·simp [A9, z]
   ·simp [A9, z]
 split at h
 ·rename_i e; subst e; cases h
  refine ⟨2, ?_, ?_, rfl, hk, hk⟩
  ·unfold A9; split <;> rfl
  ·by_cases z : f.kind = 1
   ·simp [A9, z]
   ·simp [A9, z]
 split at h
 ·rename_i e; obtain ⟨e, e2⟩ := e; subst e; cases h
  refine ⟨3, ?_, ?_, rfl, hk, hk⟩
  ·unfold A9; rw [if_neg e2]; rfl
  ·simp [A9, e2]
 ·cases h
section
variable {X : Cx} {g : Gh} {i : Nat} {x : Str} {n : Int} {p1 p2 pos pos' : Pos} {j : Nat}
theorem L7 (hv : PE X (.Name x p1) (L0 i)) : EO X g (.Subscript (.Name x p1) (.Constant (.int n) j p2) pos) (dTG i n) :=
 EO.w (a4N ix_list hv P4 (fun _ _ => rfl)) fun σ H Q hQ => by
  refine hQ.elim fun fa O s d s' I e k => ?_
  unfold dTG at e
  cases q : s.sl[i]? with
  | none => rw [q] at e; cases e
  | some z =>
   rw [q] at e
   cases z with
   | no => cases e
   | own _ => cases e
   | val dz =>
    cases dz with
    | feed =>
     refine J0 e fun f h1 h2 => ?_
     refine L4 h2 fun d' h3 h4 => ?_
     cases h4
     obtain ⟨u, e1, r⟩ := SlR.val I.sl q
     simp only [Rep] at r
     obtain ⟨a, ha, rfl⟩ := r
     have fd := I.fd
     rw [h1, ha] at fd
     obtain ⟨_, c, hc, nc, lc⟩ := fd
     obtain ⟨v, hval, hd, hk⟩ := FS.tget_val h3 c
     rw [a2m hk] at hc
     refine ⟨_, e1, a, _, n, v, rfl, rfl, SqL.of hc, hval, k v H fa O StE.refl I ?_⟩
     rcases hd with ⟨rfl, rfl⟩ | ⟨n, rfl, rfl⟩
     ·simp only [Rep]
      exact ⟨c, _, rfl, by rw [ha]; exact nc, lc, Reps.ints⟩
     ·simp only [Rep]
    | _ => cases e
theorem a1Q {e : Expr} {fe : DE} (hv : PE X (.Name x p1) (L0 i)) (he : EO X g e fe) (hs : swapsWithSole [.Subscript (.Name x p1) (.Constant (.int n) j p2) pos'] e pos.line X.env = pure false := by rfl) (hw : swappedStores [.Subscript (.Name x p1) (.Constant (.int n) j p2) pos'] e X.env = pure none := by rfl) :
  SO X g (.Assign [.Subscript (.Name x p1) (.Constant (.int n) j p2) pos'] e pos) (dTP i n fe) :=
 SO.w (a2H he.pe (a8U hv P4 a7H) hs hw) fun E σ H hQ => by
  refine hQ.elim fun fa O s fl s' I q k => ?_
  refine m6 q fun d s1 h1 h2 => ?_
  simp only [] at h2
  cases q1 : s1.sl[i]? with
  | none => rw [q1] at h2; cases h2
  | some z =>
   rw [q1] at h2
   cases z with
   | no => cases h2
   | own _ => cases h2
   | val dz =>
    cases dz with
    | feed =>
     cases d with
     | int w =>
      simp only [] at h2
      refine J0 h2 fun f h3 h4 => ?_
      refine L4 h4 fun f' h5 h6 => ?_
      cases h6
      refine ⟨fa, O, s, .int w, s1, I, h1, fun v H1 f1 O1 a1 I1 r => ?_⟩
      simp only [Rep] at r
      subst r
      obtain ⟨u, e1, ru⟩ := SlR.val I1.sl q1
      simp only [Rep] at ru
      obtain ⟨a, ha, rfl⟩ := ru
      have fd := I1.fd
      rw [h3, ha] at fd
      obtain ⟨lc63, c, hc, nc, lc⟩ := fd
      obtain ⟨m, hix, hput, hcell, hk, hk'⟩ := FS.tput_val h5 c
      rw [a2m hk] at hc
      refine ⟨_, e1, a, _, n, m, rfl, rfl, hc, hix, ?_⟩
      rw [hput]
      have a2 : StE f1 O1 H1 f1 O1 (upd H1 a (.lst (A9 c f'))) := ⟨fun _ h => h, .inl rfl, fun b w e nb => by rw [l8 (fun z => nb (by rw [z]; exact ha))]; exact e, fun b z => by
       by_cases hb : b = a
       ·subst hb; rw [u9] at z; cases z
       ·rw [l8 hb] at z; exact z⟩
      have cr := I1.car a2.stp
      refine k σ _ f1 O1 (a1.stp.trans a2.stp) ⟨I1.nd, SlR.go cr (fun b xs hb e => a2.same b _ e fun z => I1.nf b z hb) I1.sl, I1.fr, ?_, I1.tr, I1.ff, ?_, I1.nf⟩
      ·refine ⟨fun b hb => (by cases hb), I1.st.fe, fun b w e _ nb => ?_, fun b z => I1.st.mon b (a2.mon b z)⟩
       refine a2.same b w (I1.st.same b w e (by simp) nb) fun z => ?_
       rcases I1.st.fe with y | ⟨y, y2⟩
       ·rw [y] at z; exact nb z
       ·rw [y2 b z] at e; cases e
      ·rw [ha]
       refine ⟨by rw [hcell]; exact lc63, c, by rw [a2m hk', u9], nc, ?_⟩
       rw [l8 (fun z => nc (.inr (.inr (by rw [z])))), hcell]
       exact lc
     | _ => cases h2
    | _ => cases h2
theorem a6A {j63 j0 j1 : Nat} {q5 q6 q7 q8 q9 : Pos} (hv : PE X (.Name x p1) (L0 i)) :
  EO X g (.List [.Subscript (.Name x p1) (.Slice none (some (.Constant (.int 63) j63 q5)) none q6) q7, .Constant (.int 0) j0 q8, .Constant (.int 0) j1 q9] pos) (dTN i) :=
 EO.w (a4I (Q4 (a34 a36 hv a4V (a3i P4)) (Q4 P4 (Q4 P4 a0a)))) fun σ H Q hQ => by
  refine hQ.elim fun fa O s d s' I e k => ?_
  unfold dTN at e
  cases q : s.sl[i]? with
  | none => rw [q] at e; cases e
  | some z =>
   rw [q] at e
   cases z with
   | no => cases e
   | own _ => cases e
   | val dz =>
    cases dz with
    | scr ns =>
     cases hf : s.fs with
     | some f => rw [hf] at e; cases e
     | none =>
      rw [hf] at e
      cases e
      obtain ⟨u, e1, r⟩ := SlR.val I.sl q
      simp only [Rep] at r
      obtain ⟨l63, a, rfl, sq⟩ := r
      have fd := I.fd
      rw [hf] at fd
      have fan : fa = none := by cases fa with | none => rfl | some _ => exact fd.elim
      subst fan
      refine ⟨_, e1, 63, rfl, a, _, rfl, sq.sq, fun c hcH => ?_⟩
      rw [a6r _ (by rw [List.length_map]; exact l63)]
      refine ⟨by show 3 ≤ sizeLine; decide, fun p hp' => ?_⟩
      have npc : c ≠ p := fun z => by rw [← z, u9] at hp'; cases hp'
      have hp : H p = none := by rw [l8 (Ne.symm npc)] at hp'; exact hp'
      have fresh : ∀ b u, H b = some u → b ≠ p ∧ b ≠ c := fun b u e => ⟨F3 e hp, F3 e hcH⟩
      have a2 : StE none O H (some p) O (upd (upd H c (.lst (ns.map V.int))) p (.lst [V.ref c, V.int 0, V.int 0])) := by
       refine ⟨fun _ h => h, .inr ⟨rfl, fun b z => by cases z; exact hp⟩, fun b u e _ => ?_, fun b z => ?_⟩
       ·obtain ⟨n1, n2⟩ := fresh b u e
        rw [l8 n1, l8 n2]; exact e
       ·by_cases h1 : b = p
        ·subst h1; exact hp
        ·by_cases h2 : b = c
         ·subst h2; exact hcH
         ·rw [l8 h1, l8 h2] at z; exact z
      have cr := I.car a2.stp
      refine k _ _ (some p) O a2 ⟨I.nd, SlR.go cr (fun b xs hb e => a2.same b _ e (by simp)) I.sl, I.fr, I.st.trans ⟨fun b hb => (by cases hb), a2.fe, fun b u e _ n => a2.same b u e n, a2.mon⟩, I.tr, I.ff, ?_, I.nf_step a2.fe⟩ (by simp only [Rep]; exact ⟨p, rfl, rfl⟩)
      refine ⟨l63, c, u9, ?_, ?_⟩
      ·rintro (z | z | z)
       ·exact I.trF z hcH
       ·obtain ⟨xs, e⟩ := I.owned z
        rw [hcH] at e; cases e
       ·exact npc (Option.some.inj z).symm
      ·rw [l8 npc, u9]
    | _ => cases e
end
structure Cal (P : Program) (w : World) (K : PySem.W.Frag) (mg : Str → Option Value) (base : Heap) (k : Nat) (x : Str) (ps : List Str) (m : DFn) : Prop where
 ex : ∃ (f : Addr) (fd : FuncData), FnD P w K mg base k f fd ps m ∧ mg x = some (.ref f) ∧ PySem.W.keepIn K (.ref f) = true ∧ Binds K fd ps []
structure Blt (mg : Str → Option Value) : Prop where
 len : mg "len" = none
 range : mg "range" = none
 abs : mg "abs" = none
 tuple : mg "tuple" = none
 list : mg "list" = none
 int : mg "int" = none
 bool : mg "bool" = none
 str : mg "str" = none
 repr : mg "repr" = none
 all : mg "all" = none
 isinstance : mg "isinstance" = none
 zip : mg "zip" = none
 enumerate : mg "enumerate" = none
 min : mg "min" = none
 max : mg "max" = none
 reversed : mg "reversed" = none
 any : mg "any" = none
 sum : mg "sum" = none
 sorted : mg "sorted" = none
section
variable {X : Cx} {g : Gh} {k : Nat} {ps : List Str} {m : DFn} {x : Str} {p pos : Pos} {e : Expr} {es : List Expr} {t : DA}
theorem i9 (C : Cal X.prog X.w X.K X.mg X.base k x ps m) (k' : Nat) (hr : Room k' X.A) (hk : k ≤ k') (hg : Gl X x)
  (ha : AO X g (e :: es) t) (hn : ∀ s ds s', t s = some (ds, s') → ds.length = ps.length) (hdb : (x == ("__debug__" : Str)) = false := by decide) (he : starEach (e :: es) X.env = (false, eval e X.env) :: starEach es X.env := by rfl) (hpl : (backTo pos (starEach es X.env)).any (·.1) = false := by rfl) :
  EO X g (.Call (.Name x p) (e :: es) [] pos) (c9 m t) := by
 obtain ⟨f, fd, F, hm, hkp, hb⟩ := C.ex
 exact a5x F (hr.mono hk) hg hm hkp hb ha hn hdb he hpl
end
theorem a85 {P : Program} {w : World} {K : PySem.W.Frag} {mg : Str → Option Value} {base : Heap} {x : Str} {st : Stmt} {f : Addr} {fd : FuncData} {N ps : List Str} {k : Nat} {b : DM} (F : Fun K x x st f fd) (hm : mg x = some (.ref f)) (hb : Binds K fd ps []) (S : FnScope N ps (k3 st))
  (hbody : ∀ (cdv : Value) (A : Around) (outer : List Env) (s : Shared) (H : Hp) (E : XK) (g : Gh), Room k (A.deeper (PyProof.Rows.envOfC x (k3 st) s.heap.objs.size f cdv)) → SSO (J9 CX0 P w K mg base N x (k3 st) f cdv A outer s H E).nox g (D4 st) b) :
  Cal P w K mg base (k + 1) x ps (mFn N.length b) := ⟨f, fd, a4G F S hbody, hm, F.kp, hb⟩
theorem u64 {A : Around} {k : Nat} (hr : Room k A) : A.units + 64 < cLine := by have := hr.un; omega
theorem u66 {A : Around} {k : Nat} (hr : Room k A) : A.units + 66 < cLine := by have := hr.un; omega
theorem E4 : bootBuiltins ("len" : Str) = some (.builtin "len") := by decide +kernel
theorem X3 : bootBuiltins ("abs" : Str) = some (.builtin "abs") := by decide +kernel
theorem S8 : bootBuiltins ("repr" : Str) = some (.builtin "repr") := by decide +kernel
theorem M8 : bootBuiltins ("tuple" : Str) = some (.type "tuple") := by decide +kernel
theorem a3V : bootBuiltins ("list" : Str) = some (.type "list") := by decide +kernel
theorem Y0 {κ : Type} [BEq κ] [LawfulBEq κ] {β : Type} : ∀ {l : List (κ × β)} {x : κ} {v : β}, l.lookup x = some v → (x, v) ∈ l
 | [], _, _, h => by simp at h
 | (a, b) :: r, x, v, h => by
  rw [List.lookup_cons] at h
  cases e : x == a with
  | true =>
   rw [e] at h
   cases h
   rw [eq_of_beq e]
   exact List.mem_cons_self ..
  | false =>
   rw [e] at h
   exact List.mem_cons_of_mem _ (Y0 h)
noncomputable def hasAll (names : List (Str × NameKind)) (cl : List (Str × Addr)) : Bool := names.all fun p => !(p.2 == .cell || p.2 == .free) || (cl.lookup p.1).isSome
theorem a4F {names : List (Str × NameKind)} {cl : List (Str × Addr)} (h : hasAll names cl = true) : ∀ x, (names.lookup x = some .cell ∨ names.lookup x = some .free) → ∃ c, cl.lookup x = some c := fun x hx => by
 have key : ∀ kd, names.lookup x = some kd → (kd == NameKind.cell || kd == NameKind.free) = true → ∃ c, cl.lookup x = some c := fun kd e q => by
  have m := Y0 e
  have z := List.all_eq_true.mp h _ m
  simp only [q, Bool.not_true, Bool.false_or] at z
  exact Option.isSome_iff_exists.mp z
 rcases hx with e | e
 ·exact key _ e rfl
 ·exact key _ e rfl
inductive CapL (X : Cx) (scope : Scope) : List Nat → List Str → Prop where
 | nil : CapL X scope [] []
 | cons {i : Nat} {y : Str} {r : List Nat} {ys : List Str} (h1 : X.N[i]? = some y) (h2 : X.env.scope.names.lookup y = some .cell ∨ X.env.scope.names.lookup y = some .free)
   (h3 : (relabel scope X.env).names.lookup y = some .cell ∨ (relabel scope X.env).names.lookup y = some .free) (t : CapL X scope r ys) : CapL X scope (i :: r) (y :: ys)
theorem CapL.len {X : Cx} {scope : Scope} : ∀ {idx : List Nat} {ys : List Str}, CapL X scope idx ys → ys.length = idx.length
:= by
 intro idx ys h
 induction h with
 | nil => rfl
 | cons _ _ _ t ih => rw [List.length_cons, List.length_cons, ih]
theorem CapL.at {X : Cx} {scope : Scope} : ∀ {idx : List Nat} {ys : List Str}, CapL X scope idx ys → ∀ (j i : Nat) (y : Str), idx[j]? = some i → ys[j]? = some y →
  X.N[i]? = some y ∧ (X.env.scope.names.lookup y = some .cell ∨ X.env.scope.names.lookup y = some .free) ∧ ((relabel scope X.env).names.lookup y = some .cell ∨ (relabel scope X.env).names.lookup y = some .free)
:= by
 intro idx ys h
 induction h with
 | nil => intro j i y h; cases h
 | cons h1 h2 h3 t ih =>
  intro j i y e1 e2
  cases j with
  | zero =>
   cases e1
   cases e2
   exact ⟨h1, h2, h3⟩
  | succ j => exact ih j i y e1 e2
inductive SubL (cells : List (Str × Addr)) : List (Str × Addr) → Prop where
 | nil : SubL cells []
 | cons {x : Str} {c : Addr} {r : List (Str × Addr)} (h : cells.lookup x = some c) (t : SubL cells r) : SubL cells ((x, c) :: r)
theorem SubL.mem {cells : List (Str × Addr)} : ∀ {cl : List (Str × Addr)}, SubL cells cl → ∀ x c, (x, c) ∈ cl → cells.lookup x = some c
:= by
 intro cl h
 induction h with
 | nil => intro x c h; cases h
 | cons e t ih =>
  intro x c h
  rcases List.mem_cons.mp h with z | z
  ·cases z; exact e
  ·exact ih x c z
theorem P5 {X : Cx} {scope : Scope} {cl : List (Str × Addr)} {x : Str} {caps : List Str} {idx : List Nat} (clos : closureFor scope X.env = pure cl) (sub : SubL X.env.cells cl) (cell : ∀ y ∈ scope.names, y.2 ≠ .cell) (kind : scope.kind = .function)
  (names : ∀ y ∈ scope.names, y.2 = .local → scope.names.lookup y.1 = some .local) (has : hasAll (relabel scope X.env).names cl = true) (cap : CapL X scope idx caps) : CompOk X scope cl (x :: caps) 1 idx :=
 ⟨clos, fun y c e => sub.mem y c (Y0 e), cell, kind, names, a4F has, by rw [List.length_cons, cap.len, Nat.add_comm], fun j i y e1 e2 => cap.at j i y e1 (by rw [Nat.add_comm] at e2; simpa using e2)⟩
noncomputable def y8 (i j : Nat) (f : DA) : DM := fun s => (f s).bind fun x => match x.1 with
 | [a, b] => some (.next, { x.2 with sl := (x.2.sl.set i (.val a)).set j (.val b) })
 | _ => none
section
variable {X : Cx} {g : Gh}
theorem a1G {i j : Nat} {x y : Str} {a b : Expr} {f : DA} {px py pt pos : Pos} {kt k2 pt2} (hc : X.calm = true) (hN : X.N.Nodup) (hi : X.N[i]? = some x) (hj : X.N[j]? = some y) (hij : i ≠ j)
  (hx : X.env.scope.names.lookup x = some .local) (hy : X.env.scope.names.lookup y = some .local) (ha : AO X g [a, b] f)
  (hw : swappedStores [.Tuple [.Name x px, .Name y py] kt pt] (.Tuple [a, b] k2 pt2) X.env = pure (some [x, y]))
  (hs : swapsWithSole [.Tuple [.Name x px, .Name y py] kt pt] (.Tuple [a, b] k2 pt2) pos.line X.env = pure false := by rfl) :
  SO X g (.Assign [.Tuple [.Name x px, .Name y py] kt pt] (.Tuple [a, b] k2 pt2) pos) (y8 i j f) := SO.w (a9r hc hN hi hj hij hx hy ha.pe hw hs) fun E σ H hQ => by
 refine hQ.elim fun fa O s fl s' I q k => ?_
 refine m6 q fun ds s1 h1 h2 => ?_
 refine ⟨fa, O, s, ds, s1, I, h1, fun vs H1 f1 O1 a1 I1 r => ?_⟩
 match ds, h2, r with
 | [d1, d2], h2, r =>
  simp only [Option.some.injEq, Prod.mk.injEq] at h2
  obtain ⟨e1, e2⟩ := h2
  subst e1; subst e2
  simp only [Reps] at r
  obtain ⟨v, ys, rfl, rv, u, zs, rfl, ru, rfl⟩ := r
  refine ⟨v, u, rfl, ?_⟩
  obtain ⟨P, sub, I2⟩ := I1.put i rv
  have a2 : StE f1 O1 H1 f1 P H1 := V6 sub
  obtain ⟨P3, sub3, I3⟩ := I2.put j (Rep.stp I1 a2.stp ru)
  exact k _ H1 f1 P3 (a1.stp.trans (a2.stp.trans (V6 sub3).stp)) I3
end
theorem walkD {l : PySem.W.OpenLaw} {q : Program} {loose : List Str} {XP : (Str → Option Value) → Heap → Prop} {YP : World → Heap → Prop} {d : DefRec} {K : Params → PySem.W.Frag} {m : DFn} {k : Nat} (hn : l.most = some 63) (hdf : d.params.defaults = []) (hr : Room k callerA)
  (hY : ∀ (w : World) (h : Heap), YP w h → (K w.params).In h)
  (F : ∀ (w : World) (mg : Str → Option Value) (fa : Addr) (h : Heap), (K w.params).In h → h.Ns mainGlobals mg → mg d.name = some (.ref fa) →
   ∃ fd : FuncData, (∀ (s : Shared) (u : Value), BindsTo s fd ⟨[u], []⟩ [("_law_script", u)]) ∧ ∀ base : Heap, (K w.params).In base → base.Ns mainGlobals mg → FnOk l.prog w (K w.params) mg base CX0 k fa fd ["_law_script"] (spD (K w.params) 1 m))
  (math : ∀ ns : List Int, ns.length ≤ 63 → ∃ fs', m [.scr ns] none = some (.bl true, fs')) :
  PySem.W.WalkO q loose XP YP l.row.toRowW d [] (fun f vs => PySem.call f vs) :=
 L2.walk_of (n := 63) (k := k) (x := "_law_script") (CX := fun _ => CX0) (sp := fun w => spD (K w.params) 1 m) hn (by decide) hdf hr hY F (fun w H a ns hl hO hS => by
  obtain ⟨fs', e⟩ := math ns hl
  refine ⟨fun _ => False, none, [.scr ns], none, .bl true, fs', fun b z => z.elim, fun a z => (by cases z), ?_, trivial, e, rfl, fun v H' fa' _ _ r => by simpa only [Rep] using r⟩
  simp only [Reps, Rep]
  refine ⟨_, _, rfl, ⟨hl, a, rfl, ?_⟩, rfl⟩
  rcases hS with (z | ⟨o, z⟩) | z
  ·rcases hO a with y | ⟨o, xs, y⟩ <;> · rw [z] at y; cases y
  ·exact .inl ⟨o, z⟩
  ·exact .inr z) fun _ _ _ _ _ z => z
section
variable {X : Cx} {g : Gh} {a b c : Expr} {fa fb fc : DE} {pos : Pos}
noncomputable def N8 (p p' : D → D → Option D) (fa fb fc : DE) : DE := fun s => (fa s).bind fun x => (fb x.2).bind fun y => (p x.1 y.1).bind fun z => match z with
 | .bl true => (fc y.2).bind fun w => (p' y.1 w.1).map fun d => (d, w.2)
 | .bl false => some (.bl false, y.2)
 | _ => none
theorem a9K {r r' : R2} {p p' : D → D → Option D} (hr : R2D X.K r p) (hr' : R2D X.K r' p') (σ : L2.St) (H : Hp) (Q : VK) (h : liftE X.K g (N8 p p' fa fb fc) σ H Q) : a4q r r' (liftB X.K g fa) (liftB X.K g fb) (liftB X.K g fc) σ H Q := by
 obtain ⟨f0, O, s, d, s', I, e, k⟩ := h
 refine m6 e fun x s1 h1 e => ?_
 refine m6 e fun y s2 h2 e => ?_
 refine J0 e fun z h3 e => ?_
 refine ⟨f0, O, s, x, s1, I, h1, fun v H1 f1 O1 a1 I1 r1 => ⟨f1, O1, s1, y, s2, I1, h2, fun u H2 f2 O2 a2 I2 r2 => ?_⟩⟩
 refine hr g σ H2 f2 O2 s2 v u x y z _ I2 (RepB.stp I1 a2 r1) r2 h3 fun zz H3 a3 I3 r3 => ?_
 cases z with
 | bl b =>
  simp only [Rep] at r3
  subst r3
  refine ⟨b, rfl, ?_⟩
  cases b with
  | false =>
   simp only [Option.some.injEq, Prod.mk.injEq] at e
   obtain ⟨e1, e2⟩ := e
   subst e1; subst e2
   exact a3g (k _ H3 f2 O2 (a1.trans (a2.trans a3)) I3 (by simp only [Rep]))
  | true =>
   refine m6 e fun w s3 h4 e => ?_
   refine L4 e fun d' h5 e => ?_
   simp only [Prod.mk.injEq] at e
   obtain ⟨e1, e2⟩ := e
   subst e1; subst e2
   refine a2L ⟨f2, O2, s2, w, s3, I3, h4, fun w' H4 f4 O4 a4 I4 r4 => ?_⟩
   exact hr' g σ H4 f4 O4 s3 u w' y w d' Q I4 (RepB.stp I3 a4 (RepB.stp I2 a3 r2)) r4 h5 fun q H5 a5 I5 r5 => k q H5 f4 O4 (a1.trans (a2.trans (a3.trans (a4.trans a5)))) I5 r5
 | _ => cases e
theorem a8y {op op' : CmpOp} {r r' : R2} {p p' : D → D → Option D} (ho : OpR X (compareOp op) r) (hr : R2D X.K r p) (ho' : OpR X (compareOp op') r') (hr' : R2D X.K r' p') (ha : BO X g a fa) (hb : BO X g b fb) (hc : BO X g c fc)
  (hm : lastMarks [op, op'] [b, c] = false := by with_unfolding_all rfl) : EO X g (.Compare a [op, op'] [b, c] pos) (N8 p p' fa fb fc) := EO.w (a6R ho ho' ha.pe hb.pe hc.pe hm) (a9K hr hr')
noncomputable abbrev DO := DS → Option (Option Int × DS)
noncomputable def liftO (K : PySem.W.Frag) (g : Gh) (f : DO) : L2.TO := fun σ H Q => ∃ fa O s d s', GI K g σ H fa O s ∧ f s = some (d, s') ∧ ∀ H' fa' O', StE fa O H fa' O' H' → GI K g σ H' fa' O' s' → Q d H'
theorem liftO.elim {K : PySem.W.Frag} {g : Gh} {σ : L2.St} {H : Hp} {G : Prop} {f : DO} {Q : Option Int → Hp → Prop} (h : liftO K g f σ H Q) (k : ∀ fa O s d s', GI K g σ H fa O s → f s = some (d, s') → (∀ H' fa' O', StE fa O H fa' O' H' → GI K g σ H' fa' O' s' → Q d H') → G) : G := by
 obtain ⟨fa, O, s, d, s', a, b, c⟩ := h
 exact k fa O s d s' a b c
structure OO (X : Cx) (g : Gh) (e : Option Expr) (f : DO) : Prop where
 pe : PO X e (liftO X.K g f)
noncomputable def dNo : DO := fun s => some (none, s)
noncomputable def dAt (f : DE) : DO := fun s => (f s).bind fun x => match x.1 with | .int i => some (some i, x.2) | _ => none
theorem POw {e : Option Expr} {t t' : L2.TO} (h : PO X e t) (w : ∀ σ H Q, t' σ H Q → t σ H Q) : PO X e t' := fun pins s σ H Q I q => h pins s σ H Q I (w σ H Q q)
theorem OO.w {e : Option Expr} {f : DO} {t : L2.TO} (h : PO X e t) (w : ∀ σ H Q, liftO X.K g f σ H Q → t σ H Q) : OO X g e f := ⟨POw h w⟩
theorem L9 : OO X g none dNo := OO.w a4V fun σ H Q hQ => by
 refine hQ.elim fun f0 O s d s' I e k => ?_
 cases e
 exact k H f0 O StE.refl I
theorem N2 (h : BO X g a fa) : OO X g (some a) (dAt fa) := OO.w (a3i h.pe) fun σ H Q hQ => by
 refine hQ.elim fun f0 O s d s' I e k => ?_
 refine m6 e fun x s1 h1 e => ?_
 cases x with
 | int i =>
  simp only [Option.some.injEq, Prod.mk.injEq] at e
  obtain ⟨e1, e2⟩ := e
  subst e1; subst e2
  exact ⟨f0, O, s, .int i, s1, I, h1, fun v H1 f1 O1 a1 I1 r1 => ⟨i, by simpa only [RepB, Rep] using r1, k H1 f1 O1 a1 I1⟩⟩
 | _ => cases e
noncomputable def D5 (xs : List D) (lo hi : Option Int) : List D := (xs.drop (HT.sIx xs.length 0 lo)).take (HT.sIx xs.length xs.length hi - HT.sIx xs.length 0 lo)
theorem a0F {K : PySem.W.Frag} {N : Addr → Prop} {fa : Option Addr} {H : Hp} {ds : List D} {xs : List V} (r : Reps K N fa H ds xs) (lo hi : Option Int) : Reps K N fa H (D5 ds lo hi) (D6 xs lo hi) := by
 unfold D5 D6
 rw [r.length]
 exact (r.drop _).take _
end
end DL
namespace HT2
open PySem PyProof.Rows HT
section
variable {prog : Program} {w : World} {A : Around} {E : Value → Shared → Prop} {s : Shared}
theorem getItem_tuple_whole {t sl : Addr} {items : Array Value} {vl vu : Value} {lo hi : Option Int} {Q : Value → Shared → Prop} (ht : IsTup s.heap t items) (hs : s.heap.IsSliceOf sl vl vu .none) (pl : IsPart vl lo) (pu : IsPart vu hi)
  (hw : sIx items.size 0 lo = 0 ∧ sIx items.size items.size hi = items.size) (h : Q (.ref t) s) : wpAny (model prog w) A (getItem (.ref t) (.ref sl)) Q E s := by
 obtain ⟨os, hos, hcs, hds⟩ := id hs
 have hTs : s.TypeIs (.ref sl) "slice" := ⟨os, hos, hcs⟩
 unfold getItem
 try with_reducible refine wpAny_holding ?_
 first | refine wpAny_bind (wpAny_pure ?_) | skip
 refine wpAny_bind (wpAny_sequenceKey ht.typeIs (by decide) ?_)
 refine wpAny_bind (wpAny_callSpecial?_slot (name := Str.ofString "__getitem__") ht.typeIs PyProof.Rows.slot_tuple_getitem
  (wpAny_call_entry PyProof.Rows.slot_tuple_getitem ht.typeIs entry_tuple_getitem ?_ (args_tuple_getitem _ _)))
 show wpAny _ _ (Builtin.Tuple.tupleItemsOf (.ref t) >>= _) _ _ s
 refine wpAny_bind (tupleItemsOf_ ht ?_)
 refine wpAny_bind (wpAny_typeOf hTs ?_)
 rw [if_pos (by decide)]
 refine wpAny_bind (a32 hs pl pu ?_)
 have hyes : (((sIx items.size 0 lo : Nat) : Int) == 0 && (1 : Int) == 1 && (sIx items.size items.size hi - sIx items.size 0 lo) == items.size) = true := by
  rw [hw.1, hw.2]; simp
 show wpAny _ _ (if (((sIx items.size 0 lo : Nat) : Int) == 0 && (1 : Int) == 1 && (sIx items.size items.size hi - sIx items.size 0 lo) == items.size) = true then _ else _) _ _ s
 rw [if_pos hyes]
 refine wpAny_bind (m := Builtin.Tuple.tupleIsExact _) (wpAny_bind (wpAny_typeOf ht.typeIs (wpAny_pure ?_)))
 rw [if_pos (by decide)]
 first
  | exact wpAny_bind (wpAny_rule (wpAny_bind (wpAny_pure (wpAny_pure ⟨_, rfl, wpAny_pure h⟩))))
  | exact wpAny_bind (wpAny_rule (wpAny_pure ⟨_, rfl, wpAny_pure h⟩))
  | exact wpAny_bind (wpAny_rule (wpAny_bind (wpAny_pure ⟨_, rfl, wpAny_pure h⟩)))
end
end HT2
namespace DL
open PySem PySem.Spec L2
section
variable {X : Cx} {g : Gh} {a : Expr} {fa : DE} {pos : Pos}
noncomputable def a56 (K : PySem.W.Frag) : V → Option Int → Option Int → Hp → VK → Prop := fun x lo hi H Q => ∃ a xs, x = .ref a ∧ SqT K H a xs ∧ (HT.sIx xs.length 0 lo = 0 ∧ HT.sIx xs.length xs.length hi = xs.length) ∧ Q (.ref a) H
theorem a9I : L2.SlR X (a56 X.K) := by
 intro pins s σ H x v vl vu lo hi sl Q I rx hs pl pu h
 obtain ⟨a, xs, rfl, hx, hw, q⟩ := h
 cases rx
 obtain ⟨its, r, ht, hz⟩ := I.tuple hx
 have hlen : its.toArray.size = xs.length := by rw [List.size_toArray]; exact r.length.symm
 refine ⟨"tuple", _, PyProof.Rows.slot_tuple_getitem.lookup, ht.typeIs, ?_⟩
 exact HT2.getItem_tuple_whole ht hs pl pu (by rw [hlen]; exact hw) ⟨.ref a, H, I, rfl, q⟩
theorem a9o {xs : List D} {lo hi : Option Int} (h : HT.sIx xs.length 0 lo = 0 ∧ HT.sIx xs.length xs.length hi = xs.length) : D5 xs lo hi = xs := by
 unfold D5
 rw [h.1, h.2, List.drop_zero, Nat.sub_zero, List.take_length]
noncomputable def dSl (f : DE) (lo hi : DO) : DE := fun s => (f s).bind fun x => (lo x.2).bind fun l => (hi l.2).bind fun h => match x.1 with
 | .tup ds => some (.tup (D5 ds l.1 h.1), h.2)
 | .lst ds => some (.lst (D5 ds l.1 h.1), h.2)
 | _ => none
theorem b0E {x r : D} {F : List D → List D} {t z : DS} (e : (match x with
 | .tup ds => some (D.tup (F ds), t)
 | .lst ds => some (D.lst (F ds), t)
 | _ => none) = some (r, z)) : t = z ∧ ((∃ ds, x = .lst ds ∧ r = .lst (F ds)) ∨ ∃ ds, x = .tup ds ∧ r = .tup (F ds)) := by
 cases x with
 | tup ds => cases e; exact ⟨rfl, .inr ⟨ds, rfl, rfl⟩⟩
 | lst ds => cases e; exact ⟨rfl, .inl ⟨ds, rfl, rfl⟩⟩
 | _ => cases e
theorem N3 {lo hi : Option Expr} {fl fh : DO} {p2 : Pos} (ha : BO X g a fa) (hl : OO X g lo fl) (hh : OO X g hi fh) : EO X g (.Subscript a (.Slice lo hi none p2) pos) (dSl fa fl fh) :=
 EO.w (a34 (L2.SlR.or (L2.SlR.or a9x a9I) a36) ha.pe hl.pe hh.pe) fun σ H Q hQ => by
  refine hQ.elim fun f0 O s d s' I e k => ?_
  refine m6 e fun x s1 h1 e => ?_
  refine m6 e fun l s2 h2 e => ?_
  refine m6 e fun h s3 h3 e => ?_
  obtain ⟨rfl, c⟩ := b0E (F := fun ds => D5 ds l h) e
  refine ⟨f0, O, s, x, s1, I, h1, fun v H1 f1 O1 a1 I1 r1 => ⟨f1, O1, s1, l, s2, I1, h2, fun H2 f2 O2 a2 I2 => ⟨f2, O2, s2, h, s3, I2, h3, fun H3 f3 O3 a3 I3 => ?_⟩⟩⟩
  have r3 := RepB.stp I2 a3 (RepB.stp I1 a2 r1)
  rcases c with ⟨ds, rfl, rfl⟩ | ⟨ds, rfl, rfl⟩
  ·obtain ⟨c, xs, rfl, _, q, w⟩ := r3
   refine .inr ⟨c, xs, rfl, SqL.of q, fun p hp => ?_⟩
   have a4 : StE f3 O3 H3 f3 O3 (upd H3 p (.lst (D6 xs l h))) := A4 hp
   have L := L1 I3 hp (a0F w l h)
   refine k _ _ f3 O3 (a1.trans (a2.trans (a3.trans a4))) L.gi ?_
   simp only [Rep]
   exact ⟨p, _, rfl, X2 I3 a4 L.gi hp L.nf, u9, Reps.stp I3 a4.stp (a0F w l h)⟩
  ·simp only [RepB, Rep] at r3
   obtain ⟨c, xs, rfl, q, w⟩ := r3
   by_cases hw : HT.sIx xs.length 0 l = 0 ∧ HT.sIx xs.length xs.length h = xs.length
   ·refine .inl (.inr ⟨c, xs, rfl, q, hw, k _ H3 f3 O3 (a1.trans (a2.trans a3)) I3 ?_⟩)
    rw [w.length] at hw
    rw [a9o hw]
    simp only [Rep]
    exact ⟨c, xs, rfl, q, w⟩
   ·refine .inl (.inl ⟨c, xs, rfl, q, hw, fun p hp => ?_⟩)
    have a4 : StE f3 O3 H3 f3 O3 (upd H3 p (.tup (D6 xs l h))) := A4 hp
    refine k _ _ f3 O3 (a1.trans (a2.trans (a3.trans a4))) (I3.new hp) ?_
    simp only [Rep]
    exact ⟨p, _, rfl, SqT.of u9, Reps.stp I3 a4.stp (a0F w l h)⟩
end
end DL
namespace HT3
open PySem PyProof.Rows HT
section
variable {prog : Program} {w : World} {A : Around} {E : Value → Shared → Prop} {s : Shared}
theorem a8K (n : Nat) : Builtin.Slice.sliceAdjust none none (-1) (n : Int) = ((n : Int) - 1, -1) := by
 have h1 : ((-1 : Int) < 0) := by omega
 unfold Builtin.Slice.sliceAdjust
 simp only [h1, if_true]
theorem a93 (n : Nat) : Builtin.Slice.slicePlaces ((n : Int) - 1) (-1) (-1) = n := by
 unfold Builtin.Slice.slicePlaces
 have h1 : ¬ ((-1 : Int) > 0) := by omega
 simp only [h1, if_false]
 have e : -(-1 : Int) = 1 := rfl
 rw [e, Int.ediv_one]
 split <;> omega
theorem a8S {sl : Addr} {t : Tok} {n : Nat} {Q : Int × Int × Nat → Shared → Prop} (hs : s.heap.IsSliceOf sl .none .none (.int (-1) t))
  (h : Q ((n : Int) - 1, -1, n) s) : wpAny (model prog w) A (Builtin.Slice.sliceApplied (.ref sl) (pure (n : Int))) Q E s := by
 obtain ⟨os, hos, hcs, hds⟩ := id hs
 unfold Builtin.Slice.sliceApplied Builtin.Slice.sliceFields
 refine wpAny_bind (wpAny_bind (wpAny_field hos hds (x := .none) rfl (wpAny_bind (wpAny_field hos hds (x := .none) rfl (wpAny_bind (wpAny_field hos hds (x := .int (-1) t) rfl (wpAny_pure ?_)))))))
 refine wpAny_bind (slicePart_int ?_)
 show wpAny _ _ (if ((-1 : Int) == 0) = true then _ else _) _ _ s
 rw [if_neg (by decide)]
 refine wpAny_bind (slicePart_none (wpAny_bind (slicePart_none (wpAny_bind (wpAny_pure ?_)))))
 show wpAny _ _ (match Builtin.Slice.sliceAdjust none none (-1) (n : Int) with | (lo, hi) => pure (lo, (-1 : Int), Builtin.Slice.slicePlaces lo hi (-1))) _ _ s
 rw [a8K n]
 show wpAny _ _ (pure ((n : Int) - 1, (-1 : Int), Builtin.Slice.slicePlaces ((n : Int) - 1) (-1) (-1))) _ _ s
 rw [a93]
 exact wpAny_pure h
theorem a5S (xs : Array Value) : ((List.range xs.size).filterMap fun (m : Nat) => xs[(((xs.size : Int) - 1) + (m : Int) * (-1)).toNat]?).toArray = xs.toList.reverse.toArray := by
 congr 1
 have e : ((List.range xs.size).filterMap fun (m : Nat) => xs[(((xs.size : Int) - 1) + (m : Int) * (-1)).toNat]?) = ((List.range xs.size).filterMap fun (m : Nat) => xs.toList.reverse[m]?) := by
  have cg : ∀ (l : List Nat) (f g : Nat → Option Value), (∀ m ∈ l, f m = g m) → l.filterMap f = l.filterMap g := by
   intro l f g
   induction l with
   | nil => intro _; rfl
   | cons a r ih => intro h; rw [List.filterMap_cons, List.filterMap_cons, h a (List.mem_cons_self ..), ih fun m hm => h m (List.mem_cons_of_mem _ hm)]
  refine cg _ _ _ fun m hm => ?_
  have hm' : m < xs.size := List.mem_range.mp hm
  have : (((xs.size : Int) - 1) + (m : Int) * (-1)).toNat = xs.size - 1 - m := by omega
  rw [this, List.getElem?_reverse (by simpa using hm')]
  simp
 rw [e]
 have hl : xs.size = xs.toList.reverse.length := by simp
 rw [hl]
 generalize xs.toList.reverse = l
 clear e hl
 induction l with
 | nil => rfl
 | cons a r ih =>
  rw [List.length_cons, List.range_succ_eq_map, List.filterMap_cons]
  simp only [List.getElem?_cons_zero, List.filterMap_map]
  congr 1
theorem getItem_tuple_rev {t sl : Addr} {items : Array Value} {tk : Tok} {Q : Value → Shared → Prop} (ht : IsTup s.heap t items) (hs : s.heap.IsSliceOf sl .none .none (.int (-1) tk))
  (h : Q (.ref s.heap.objs.size) { s with heap := s.heap.push { cls := .type "tuple", data := .seq items.toList.reverse.toArray } })
  (hsz : items.size ≤ sizeLine) : wpAny (model prog w) A (getItem (.ref t) (.ref sl)) Q E s := by
 have htake : sizeOk (.seq items.toList.reverse.toArray) := by
  show items.toList.reverse.toArray.size ≤ sizeLine
  rw [List.size_toArray, List.length_reverse, Array.length_toList]
  exact hsz
 obtain ⟨os, hos, hcs, hds⟩ := id hs
 have hTs : s.TypeIs (.ref sl) "slice" := ⟨os, hos, hcs⟩
 unfold getItem
 try with_reducible refine wpAny_holding ?_
 first | refine wpAny_bind (wpAny_pure ?_) | skip
 refine wpAny_bind (wpAny_sequenceKey ht.typeIs (by decide) ?_)
 refine wpAny_bind (wpAny_callSpecial?_slot (name := Str.ofString "__getitem__") ht.typeIs PyProof.Rows.slot_tuple_getitem
  (wpAny_call_entry PyProof.Rows.slot_tuple_getitem ht.typeIs entry_tuple_getitem ?_ (args_tuple_getitem _ _)))
 show wpAny _ _ (Builtin.Tuple.tupleItemsOf (.ref t) >>= _) _ _ s
 refine wpAny_bind (tupleItemsOf_ ht ?_)
 refine wpAny_bind (wpAny_typeOf hTs ?_)
 rw [if_pos (by decide)]
 refine wpAny_bind (a8S hs ?_)
 have hno : ¬ ((((items.size : Int) - 1) == 0 && (-1 : Int) == 1 && items.size == items.size) = true) := by
  intro q
  rw [Bool.and_eq_true, Bool.and_eq_true] at q
  exact absurd q.1.2 (by decide)
 show wpAny _ _ (if (((items.size : Int) - 1) == 0 && (-1 : Int) == 1 && items.size == items.size) = true then _ else _) _ _ s
 rw [if_neg hno, a5S]
 first
  | exact wpAny_bind (m := Builtin.Tuple.tupleExact _) (wpAny_newObj_type (wpAny_pure ⟨_, rfl, wpAny_pure h⟩) htake)
  | exact wpAny_bind (m := Builtin.Tuple.tupleExact _) (wpAny_newObj_type (wpAny_bind (wpAny_pure (wpAny_pure ⟨_, rfl, wpAny_pure h⟩))) htake)
  | exact wpAny_bind (wpAny_bind (m := Builtin.Tuple.tupleExact _) (wpAny_newObj_type (wpAny_pure (wpAny_pure ⟨_, rfl, wpAny_pure h⟩)) htake))
  | exact wpAny_bind (wpAny_bind (m := Builtin.Tuple.tupleExact _) (wpAny_newObj_type (wpAny_pure ⟨_, rfl, wpAny_pure h⟩) htake))
theorem a6J {sl : Addr} {t : Tok} {n : Nat} {Q : Int × Int × Nat → Shared → Prop} (hs : s.heap.IsSliceOf sl .none .none (.int 1 t))
  (h : Q (0, 1, n) s) : wpAny (model prog w) A (Builtin.Slice.sliceApplied (.ref sl) (pure (n : Int))) Q E s := by
 obtain ⟨os, hos, hcs, hds⟩ := id hs
 unfold Builtin.Slice.sliceApplied Builtin.Slice.sliceFields
 refine wpAny_bind (wpAny_bind (wpAny_field hos hds (x := .none) rfl (wpAny_bind (wpAny_field hos hds (x := .none) rfl (wpAny_bind (wpAny_field hos hds (x := .int 1 t) rfl (wpAny_pure ?_)))))))
 refine wpAny_bind (slicePart_int ?_)
 show wpAny _ _ (if ((1 : Int) == 0) = true then _ else _) _ _ s
 rw [if_neg (by decide)]
 refine wpAny_bind (slicePart_none (wpAny_bind (slicePart_none (wpAny_bind (wpAny_pure ?_)))))
 show wpAny _ _ (match Builtin.Slice.sliceAdjust none none 1 (n : Int) with | (lo, hi) => pure (lo, (1 : Int), Builtin.Slice.slicePlaces lo hi 1)) _ _ s
 rw [a41 none none n]
 show wpAny _ _ (pure (((sIx n 0 none : Nat) : Int), (1 : Int), Builtin.Slice.slicePlaces ((sIx n 0 none : Nat) : Int) ((sIx n n none : Nat) : Int) 1)) _ _ s
 rw [a3I]
 exact wpAny_pure h
theorem getItem_tuple_one {t sl : Addr} {items : Array Value} {tk : Tok} {Q : Value → Shared → Prop} (ht : IsTup s.heap t items) (hs : s.heap.IsSliceOf sl .none .none (.int 1 tk)) (h : Q (.ref t) s) : wpAny (model prog w) A (getItem (.ref t) (.ref sl)) Q E s := by
 obtain ⟨os, hos, hcs, hds⟩ := id hs
 have hTs : s.TypeIs (.ref sl) "slice" := ⟨os, hos, hcs⟩
 unfold getItem
 try with_reducible refine wpAny_holding ?_
 first | refine wpAny_bind (wpAny_pure ?_) | skip
 refine wpAny_bind (wpAny_sequenceKey ht.typeIs (by decide) ?_)
 refine wpAny_bind (wpAny_callSpecial?_slot (name := Str.ofString "__getitem__") ht.typeIs PyProof.Rows.slot_tuple_getitem
  (wpAny_call_entry PyProof.Rows.slot_tuple_getitem ht.typeIs entry_tuple_getitem ?_ (args_tuple_getitem _ _)))
 show wpAny _ _ (Builtin.Tuple.tupleItemsOf (.ref t) >>= _) _ _ s
 refine wpAny_bind (tupleItemsOf_ ht ?_)
 refine wpAny_bind (wpAny_typeOf hTs ?_)
 rw [if_pos (by decide)]
 refine wpAny_bind (a6J hs ?_)
 have hyes : ((0 : Int) == 0 && (1 : Int) == 1 && items.size == items.size) = true := by simp
 show wpAny _ _ (if ((0 : Int) == 0 && (1 : Int) == 1 && items.size == items.size) = true then _ else _) _ _ s
 rw [if_pos hyes]
 refine wpAny_bind (m := Builtin.Tuple.tupleIsExact _) (wpAny_bind (wpAny_typeOf ht.typeIs (wpAny_pure ?_)))
 rw [if_pos (by decide)]
 first
  | exact wpAny_bind (wpAny_rule (wpAny_bind (wpAny_pure (wpAny_pure ⟨_, rfl, wpAny_pure h⟩))))
  | exact wpAny_bind (wpAny_rule (wpAny_pure ⟨_, rfl, wpAny_pure h⟩))
  | exact wpAny_bind (wpAny_rule (wpAny_bind (wpAny_pure ⟨_, rfl, wpAny_pure h⟩)))
end
end HT3
namespace DL
open PySem PySem.Spec L2 PyProof.Rows
section
variable {X : Cx} {g : Gh} {a st : Expr} {fa fs : DE} {pos p2 : Pos}
noncomputable def a5q (K : PySem.W.Frag) (te ts : TE) : TE := fun σ H Q => te σ H fun x H1 => ts σ H1 fun y H2 => (y = .int (-1) ∧ ∃ p xs, x = .ref p ∧ SqT K H2 p xs ∧ ∀ l, H2 l = none → Q (.ref l) (upd H2 l (.tup xs.reverse))) ∨ (y = .int 1 ∧ ∃ p xs, x = .ref p ∧ SqT K H2 p xs ∧ Q (.ref p) H2)
theorem b0z {te ts : TE} (he : PE X a te) (hs : PE X st ts) : PE X (.Subscript a (.Slice none none (some st) p2) pos) (a5q X.K te ts) := by
 intro pins s σ H Q I h
 refine Subscript_ (thn (he pins s σ H _ I h) fun v s1 ⟨x, H1, I1, r1, q1⟩ => ?_)
 refine wpAny_Slice ?_
 rw [evalPart_none]
 refine wpAny_pure (wpAny_pure ?_)
 rw [evalPart_some]
 refine thn (hs pins s1 σ H1 _ I1 q1) fun u s3 ⟨y, H3, I3, r3, q3⟩ => ?_
 rcases q3 with ⟨rfl, p, xs, rfl, hx, q⟩ | ⟨rfl, p, xs, rfl, hx, q⟩
 case inr =>
  obtain ⟨tk, rfl⟩ := r3
  cases r1
  have I4 : Inv X pins σ H3 { s3 with heap := s3.heap.push { cls := .type "slice", data := .fields #[.none, .none, .int 1 tk] } } := I3.kept (t' := s3.toks) fun b ob q => Heap.get?_push_of_some _ q
  obtain ⟨its, r, ht, hz⟩ := I4.tuple hx
  show wpAny (model X.prog X.w) X.A (subscriptTail a (.Slice none none (some st) p2) (.ref p) (.ref s3.heap.objs.size)) (EP X pins σ Q) X.xe { s3 with heap := s3.heap.push { cls := .type "slice", data := .fields #[.none, .none, .int 1 tk] } }
  refine tail_any (ops := [.ref p, .ref s3.heap.objs.size]) ht.typeIs PyProof.Rows.slot_tuple_getitem.lookup ?_ (by with_unfolding_all rfl)
  exact HT3.getItem_tuple_one ht (Heap.IsSliceOf.new ..) ⟨.ref p, H3, I4, rfl, q⟩
 obtain ⟨tk, rfl⟩ := r3
 cases r1
 have I4 : Inv X pins σ H3 { s3 with heap := s3.heap.push { cls := .type "slice", data := .fields #[.none, .none, .int (-1) tk] } } := I3.kept (t' := s3.toks) fun b ob q => Heap.get?_push_of_some _ q
 obtain ⟨its, r, ht, hz⟩ := I4.tuple hx
 have hlen : its.toArray.size = xs.length := by rw [List.size_toArray]; exact r.length.symm
 show wpAny (model X.prog X.w) X.A (subscriptTail a (.Slice none none (some st) p2) (.ref p) (.ref s3.heap.objs.size)) (EP X pins σ Q) X.xe { s3 with heap := s3.heap.push { cls := .type "slice", data := .fields #[.none, .none, .int (-1) tk] } }
 refine tail_any (ops := [.ref p, .ref s3.heap.objs.size]) ht.typeIs PyProof.Rows.slot_tuple_getitem.lookup ?_ (by with_unfolding_all rfl)
 refine HT3.getItem_tuple_rev ht (Heap.IsSliceOf.new ..) ?_ (by rw [hlen]; exact hz)
 refine ⟨.ref (s3.heap.push { cls := .type "slice", data := .fields #[.none, .none, .int (-1) tk] }).objs.size, _, I4.laid (t' := s3.toks) (o := .tup xs.reverse) (fun b ob q => Heap.get?_push_of_some _ q) (Nat.le_refl _) ?_, rfl, q _ (I4.hok.fresh (Nat.le_refl _))⟩
 exact ⟨by rw [List.length_reverse]; exact hz, _, r.reverse, IsTup.new _ _⟩
noncomputable def W2 (f h : DE) : DE := fun s => (f s).bind fun x => (h x.2).bind fun y => match x.1, y.1 with
 | .tup ds, .int i => if i = -1 then some (.tup ds.reverse, y.2) else if i = 1 then some (.tup ds, y.2) else none
 | _, _ => none
theorem a7b {x y r : D} {t : DS} {z : DS} (e : (match x, y with
 | .tup ds, .int i => if i = -1 then some (D.tup ds.reverse, t) else if i = 1 then some (.tup ds, t) else none
 | _, _ => none) = some (r, z)) : ∃ ds i, x = .tup ds ∧ y = .int i ∧ t = z ∧ ((i = -1 ∧ r = .tup ds.reverse) ∨ (i = 1 ∧ r = .tup ds)) := by
 cases x with
 | tup ds =>
  cases y with
  | int i =>
   have e : (if i = -1 then some (D.tup ds.reverse, t) else if i = 1 then some (.tup ds, t) else none) = some (r, z) := e
   by_cases hi : i = -1
   ·rw [if_pos hi] at e
    cases e
    exact ⟨ds, i, rfl, rfl, rfl, .inl ⟨hi, rfl⟩⟩
   ·rw [if_neg hi] at e
    by_cases h1 : i = 1
    ·rw [if_pos h1] at e
     cases e
     exact ⟨ds, i, rfl, rfl, rfl, .inr ⟨h1, rfl⟩⟩
    ·rw [if_neg h1] at e
     cases e
  | _ => cases e
 | _ => cases e
theorem a7q (ha : BO X g a fa) (hs : BO X g st fs) : EO X g (.Subscript a (.Slice none none (some st) p2) pos) (W2 fa fs) := EO.w (b0z ha.pe hs.pe) fun σ H Q hQ => by
 refine hQ.elim fun f0 O s d s' I e k => ?_
 refine m6 e fun x s1 h1 e => ?_
 refine m6 e fun y s2 h2 e => ?_
 obtain ⟨ds, i, rfl, rfl, rfl, c⟩ := a7b e
 refine ⟨f0, O, s, _, s1, I, h1, fun v H1 f1 O1 a1 I1 r1 => ⟨f1, O1, s1, _, s2, I1, h2, fun u H2 f2 O2 a2 I2 r2 => ?_⟩⟩
 have r3 := RepB.stp I1 a2 r1
 simp only [RepB, Rep] at r2 r3
 subst r2
 obtain ⟨c', xs, rfl, q, w⟩ := r3
 rcases c with ⟨rfl, rfl⟩ | ⟨rfl, rfl⟩
 ·refine .inl ⟨rfl, c', xs, rfl, q, fun l hl => ?_⟩
  have a4 : StE f2 O2 H2 f2 O2 (upd H2 l (.tup xs.reverse)) := A4 hl
  refine k _ _ f2 O2 (a1.trans (a2.trans a4)) (I2.new hl) ?_
  simp only [Rep]
  exact ⟨l, _, rfl, SqT.of u9, Reps.stp I2 a4.stp (Reps.reverse w)⟩
 ·refine .inr ⟨rfl, c', xs, rfl, q, k _ _ f2 O2 (a1.trans a2) I2 ?_⟩
  simp only [Rep]
  exact ⟨c', xs, rfl, q, w⟩
end
end DL
namespace DL
open PySem PySem.Spec L2
noncomputable def a0K : Expr → Bool
 | .Starred _ _ => false
 | _ => true
theorem a38 {a : Expr} {es : List Expr} {env : Env} (h : a0K a = true) : starEach (a :: es) env = (false, eval a env) :: starEach es env := by
 cases a <;> first | rfl | (cases h)
section
variable {X : Cx} {g : Gh} {a : Expr} {es : List Expr} {fa : DE} {fr : DA}
theorem ac (ha : EO X g a fa) (hr : AO X g es fr) (hs : a0K a = true := by rfl) : AO X g (a :: es) (a6 fa fr) := a4X ha hr (a38 hs)
theorem bc (ha : BO X g a fa) (hr : BAO X g es fr) (hs : a0K a = true := by rfl) : BAO X g (a :: es) (a6 fa fr) := a66 ha hr (a38 hs)
end
noncomputable def mk2 (idx : List Nat) (sl : List Sl) : D → Option (List Sl)
 | .tup [a, b] => some (.val a :: .val b :: E5 idx sl)
 | _ => none
theorem a5H {idx : List Nat} {sl : List Sl} {d : D} {r : List Sl} (h : mk2 idx sl d = some r) : ∃ a b, d = .tup [a, b] ∧ r = .val a :: .val b :: E5 idx sl := by
 cases d with
 | tup ds =>
  match ds, h with
  | [a, b], h => cases h; exact ⟨a, b, rfl, rfl⟩
 | _ => cases h
noncomputable def M3 (idx : List Nat) (fi : DA) (fc : DT) (fe : DE) : DA := fun s => (fi s).bind fun x => if x.1.length ≤ sizeLine then (v8 (mk2 idx x.2.sl) fc fe x.1 x.2.fs).map fun y => (y.1, { x.2 with fs := y.2 }) else none
section
variable {X : Cx} {g : Gh} {scope : Scope} {cl : List (Str × Addr)} {N' : List Str} {idx : List Nat} {iter elt tg : Expr} {ifs : List Expr} {pos : Pos} {fi : DA} {fc : DT} {fe : DE}
theorem a7v {G : TG} (k : CompOk X scope cl N' 2 idx)
  (hG : ∀ (a : Addr) (x y : V) (σ : L2.St) (H : Hp) (Q : L2.St → Hp → Prop), SqT X.K H a [x, y] → Q ((σ.set 0 (some x)).set 1 (some y)) H → G (.ref a) σ H Q) : ∀ σ H Q, liftF X.K g (M3 idx fi fc fe) σ H Q → S3 2 idx (liftI X.K g fi) G (fun σ H Q => ∃ g', liftT X.K g' fc σ H Q) (fun σ H Q => ∃ g', liftE X.K g' fe σ H Q) σ H Q :=
 a2X (mk := mk2 idx) fun N fa sl d sl0 x σ H Q hm rx hc kk => by
  obtain ⟨da, db, rfl, rfl⟩ := a5H hm
  simp only [Rep, Reps] at rx
  obtain ⟨ad, xs0, rfl, hsq, u, ys0, rfl, ru, w, ys1, rfl, rw', rfl⟩ := rx
  refine hG ad u w _ _ _ hsq (kk _ ⟨by simp, fun j v hj => ?_⟩ ?_)
  ·cases j with
   | zero => simp [u7] at hj
   | succ j =>
    cases j with
    | zero => simp [u7] at hj
    | succ j => rw [List.getElem?_set_ne (by simp), List.getElem?_set_ne (by simp)]; exact hj
  ·have eb : ((u7 2 idx σ).set 0 (some u)).set 1 (some w) = some u :: some w :: idx.map fun i => (σ[i]?).join := by simp [u7]
   rw [eb]
   simp only [SlR]
   exact ⟨u, _, rfl, ru, w, _, rfl, rw', hc⟩
theorem a7d {G : TG} (hc : X.calm = true) (k : CompOk X scope cl N' 2 idx) (hi : IO X g tg iter fi) (hg : ∀ C s0 H0 ex, PG (blk X N' scope cl C s0 H0 ex) tg G)
  (hG : ∀ (a : Addr) (x y : V) (σ : L2.St) (H : Hp) (Q : L2.St → Hp → Prop), SqT X.K H a [x, y] → Q ((σ.set 0 (some x)).set 1 (some y)) H → G (.ref a) σ H Q)
  (ht : ∀ C s0 H0 ex g', R4 (blk X N' scope cl C s0 H0 ex) g' ifs fc) (he : ∀ C s0 H0 ex g', EO (blk X N' scope cl C s0 H0 ex) g' elt fe) (hs : ∀ x, foldedSetIterable iter X.env x = pure x := by intro _; rfl) :
  FO X g (.ListComp elt [⟨tg, iter, ifs, 0⟩] scope pos) (M3 idx fi fc fe) := by
 exact FO.w (a3K (tc := fun σ H Q => ∃ g', liftT X.K g' fc σ H Q) (te := fun σ H Q => ∃ g', liftE X.K g' fe σ H Q) hc k hi.pe hg (fun C s0 H0 ex pins s σ H Q I ⟨g', h⟩ => ht C s0 H0 ex g' pins s σ H Q I h) (fun C s0 H0 ex pins s σ H Q I ⟨g', h⟩ => (he C s0 H0 ex g').pe pins s σ H Q I h) hs) (a7v k hG)
theorem a39 {X : Cx} {scope : Scope} {cl : List (Str × Addr)} {x y : Str} {caps : List Str} {idx : List Nat} (clos : closureFor scope X.env = pure cl) (sub : SubL X.env.cells cl) (cell : ∀ y ∈ scope.names, y.2 ≠ .cell) (kind : scope.kind = .function)
  (names : ∀ y ∈ scope.names, y.2 = .local → scope.names.lookup y.1 = some .local) (has : hasAll (relabel scope X.env).names cl = true) (cap : CapL X scope idx caps) : CompOk X scope cl (x :: y :: caps) 2 idx :=
 ⟨clos, fun y c e => sub.mem y c (Y0 e), cell, kind, names, a4F has, by rw [List.length_cons, List.length_cons, cap.len]; omega, fun j i y e1 e2 => cap.at j i y e1 (by
  rw [show 2 + j = j + 1 + 1 by omega] at e2; simpa using e2)⟩
end
section
variable {X : Cx} {g : Gh} {scope : Scope} {cl : List (Str × Addr)} {idx : List Nat} {iter elt : Expr} {ifs : List Expr} {pos : Pos} {fi : DA} {fc : DT} {fe : DE} {x y : Str} {px py pp : Pos} {kt : Nat} {caps : List Str}
theorem a4v (hc : X.calm = true) (k : CompOk X scope cl (x :: y :: caps) 2 idx) (hi : IO X g (.Tuple [.Name x px, .Name y py] kt pp) iter fi) (nd : (x :: y :: caps).Nodup)
  (hx : ∀ C s0 H0 ex, (blk X (x :: y :: caps) scope cl C s0 H0 ex).env.scope.names.lookup x = some .local) (hy : ∀ C s0 H0 ex, (blk X (x :: y :: caps) scope cl C s0 H0 ex).env.scope.names.lookup y = some .local)
  (ht : ∀ C s0 H0 ex g', R4 (blk X (x :: y :: caps) scope cl C s0 H0 ex) g' ifs fc) (he : ∀ C s0 H0 ex g', EO (blk X (x :: y :: caps) scope cl C s0 H0 ex) g' elt fe) (hs : ∀ x, foldedSetIterable iter X.env x = pure x := by intro _; rfl) :
  FO X g (.ListComp elt [⟨.Tuple [.Name x px, .Name y py] kt pp, iter, ifs, 0⟩] scope pos) (M3 idx fi fc fe) :=
 a7d (G := a4M X.K 2 (a1q (F5 0) (a1q (F5 1) a4K))) hc k hi (fun C s0 H0 ex => a2Z (X := blk X (x :: y :: caps) scope cl C s0 H0 ex) (n := 2) hc (a11 (X := blk X (x :: y :: caps) scope cl C s0 H0 ex) (n6 (X := blk X (x :: y :: caps) scope cl C s0 H0 ex) (i := 0) nd rfl (Or.inl (hx C s0 H0 ex)) (Or.inr (hx C s0 H0 ex))) (a11 (X := blk X (x :: y :: caps) scope cl C s0 H0 ex) (n6 (X := blk X (x :: y :: caps) scope cl C s0 H0 ex) (i := 1) nd rfl (Or.inl (hy C s0 H0 ex)) (Or.inr (hy C s0 H0 ex))) a3h)))
  (fun a x y σ H Q h q => ⟨a, [x, y], rfl, h, rfl, x, [y], rfl, y, [], rfl, rfl, q⟩) ht he hs
end
noncomputable def PC (X : Cx) (e : Expr) (te : TE) : Prop := ∀ (i : Nat) (y : Str) (py spos : Pos), X.N.Nodup → X.N[i]? = some y → Loc X.env.scope y → swapsWith e (some (.Name y py)) spos.line X.env = pure true → (X.fn y = true ∨ X.env.scope.names.lookup y = some .local) → PS X (.Assign [.Name y py] e spos) (V0 te (F5 i))
structure CO (X : Cx) (g : Gh) (e : Expr) (f : DA) : Prop where
 pe : PC X e (liftF X.K g f)
theorem CO.w {X : Cx} {g : Gh} {e : Expr} {f : DA} {t : TE} (h : PC X e t) (w : ∀ σ H Q, liftF X.K g f σ H Q → t σ H Q) : CO X g e f :=
 ⟨fun i y py spos h1 h2 h3 h4 h5 pins s σ H D I q => h i y py spos h1 h2 h3 h4 h5 pins s σ H D I (w σ H _ q)⟩
section
variable {X : Cx} {g : Gh} {scope : Scope} {cl : List (Str × Addr)} {N' : List Str} {idx : List Nat} {iter elt tg : Expr} {ifs : List Expr} {pos : Pos} {fi : DA} {fc : DT} {fe : DE}
theorem a6V (hc : X.calm = true) (k : CompOk X scope cl N' 1 idx) (hi : IO X g tg iter fi) (hg : ∀ C s0 H0 ex, PG (blk X N' scope cl C s0 H0 ex) tg (F5 0))
  (ht : ∀ C s0 H0 ex g', R4 (blk X N' scope cl C s0 H0 ex) g' ifs fc) (he : ∀ C s0 H0 ex g', EO (blk X N' scope cl C s0 H0 ex) g' elt fe) (hs : ∀ x, foldedSetIterable iter X.env x = pure x := by intro _; rfl) :
  CO X g (.ListComp elt [⟨tg, iter, ifs, 0⟩] scope pos) (F2 idx fi fc fe) :=
 CO.w (fun i y py spos h1 h2 h3 h4 h5 => a9i (tc := fun σ H Q => ∃ g', liftT X.K g' fc σ H Q) (te := fun σ H Q => ∃ g', liftE X.K g' fe σ H Q) h1 h2 h3 hc k hi.pe hg (fun C s0 H0 ex pins s σ H Q I ⟨g', h⟩ => ht C s0 H0 ex g' pins s σ H Q I h) (fun C s0 H0 ex pins s σ H Q I ⟨g', h⟩ => (he C s0 H0 ex g').pe pins s σ H Q I h) hs h4 h5) (a21 k)
theorem a6X {e : Expr} {i : Nat} {x : Str} {f : DA} {pos' : Pos} (hN : X.N.Nodup) (hi : X.N[i]? = some x) (hx : Loc X.env.scope x) (he : CO X g e f) (hs : swapsWith e (some (.Name x pos')) pos.line X.env = pure true := by rfl) (hf : X.fn x = true ∨ X.env.scope.names.lookup x = some .local := by first | exact .inl rfl | exact .inr rfl | assumption) :
  SO X g (.Assign [.Name x pos'] e pos) (w9 i f) := SO.w (he.pe i x pos' pos hN hi hx hs hf) fun E σ H hQ => by
 refine hQ.elim fun fa O s fl s' I q k => ?_
 refine m6 q fun ds s1 h1 h2 => ?_
 by_cases hl : i < s1.sl.length
 ·simp only [] at h2
  rw [if_pos hl] at h2
  cases h2
  refine ⟨fa, O, s, ds, s1, I, h1, fun p xs H1 f1 O1 a1 L hp => ?_⟩
  have np : p ∉ O1 := fun z => by
   obtain ⟨ys, e⟩ := I.owned (a1.sub p z)
   rw [hp] at e; cases e
  obtain ⟨P, sub, I'⟩ := L.put i hl (I.st.mon p hp) np
  refine k _ H1 f1 P ⟨fun b hb => ?_, a1.fe, fun b u e _ n => a1.same b u e n, a1.mon⟩ I'
  rcases sub b hb with y | y
  ·exact .inr (by rw [y]; exact hp)
  ·exact .inl (a1.sub b y)
 ·simp only [] at h2
  rw [if_neg hl] at h2; cases h2
end
theorem on1 {α : Type _} {P : List α → Prop} (h : ∀ a1 : α, P [a1]) : ∀ us : List α, us.length = 1 → P us := by
 intro us e
 match us, e with | [a1], _ => exact h a1
theorem on2 {α : Type _} {P : List α → Prop} (h : ∀ a1 a2 : α, P [a1, a2]) : ∀ us : List α, us.length = 2 → P us := by
 intro us e
 match us, e with | [a1, a2], _ => exact h a1 a2
theorem on3 {α : Type _} {P : List α → Prop} (h : ∀ a1 a2 a3 : α, P [a1, a2, a3]) : ∀ us : List α, us.length = 3 → P us := by
 intro us e
 match us, e with | [a1, a2, a3], _ => exact h a1 a2 a3
structure GF (K : PySem.W.Frag) (mg : Str → Option Value) (n : Str) (st : Stmt) (f : Addr) (fd : FuncData) : Prop where
 F : Fun K n n st f fd
 m : mg n = some (.ref f)
section
variable {K : PySem.W.Frag} {h : Heap} {mg : Str → Option Value} {n : Str} {st : Stmt} {f : Addr} {fd : FuncData}
theorem gf_mk (X : K.In h) (G : h.Ns mainGlobals mg) {oc : Value} {od an : Option Addr} {osl : Array (Option Value)} {kV doc pm cdv ct : Value} (a : PySem.W.nsIn K mainGlobals n = some (some (.ref f))) (l : K.lookup f = some ⟨oc, od, .func (PySem.W.fnOf n n (L5 st) (D4 st) (k3 st) .none kV doc pm an cdv ct), osl⟩)
  (c : PySem.W.codeIn K cdv n = true) (k : PySem.W.keepIn K (.ref f) = true) : GF K mg n st f (PySem.W.fnOf n n (L5 st) (D4 st) (k3 st) .none kV doc pm an cdv ct) := ⟨a7t l c k, PySem.W.mg_of X G a⟩
theorem b0a {x : Str} (F : Fun K n n st f fd) (q : ∀ (kV doc pm : Value) (an : Option Addr) (cdv ct : Value) (s : Shared) (v : Value), BindsTo s (PySem.W.fnOf n n (L5 st) (D4 st) (k3 st) .none kV doc pm an cdv ct) ⟨[v], []⟩ [(x, v)]) : ∀ (s : Shared) (v : Value), BindsTo s fd ⟨[v], []⟩ [(x, v)] := by
 obtain ⟨oc, od, kV, doc, pm, an, cdv, ct, osl, rfl, lk, hcd⟩ := F.ex
 exact fun s v => q kV doc pm an cdv ct s v
theorem blt_mk (X : K.In h) (G : h.Ns mainGlobals mg) (z0 : PySem.W.nsIn K mainGlobals "len" = some none) (z1 : PySem.W.nsIn K mainGlobals "range" = some none) (z2 : PySem.W.nsIn K mainGlobals "abs" = some none) (z3 : PySem.W.nsIn K mainGlobals "tuple" = some none) (z4 : PySem.W.nsIn K mainGlobals "list" = some none) (z5 : PySem.W.nsIn K mainGlobals "int" = some none) (z6 : PySem.W.nsIn K mainGlobals "bool" = some none) (z7 : PySem.W.nsIn K mainGlobals "str" = some none) (z8 : PySem.W.nsIn K mainGlobals "repr" = some none) (z9 : PySem.W.nsIn K mainGlobals "all" = some none) (z10 : PySem.W.nsIn K mainGlobals "isinstance" = some none) (z11 : PySem.W.nsIn K mainGlobals "zip" = some none) (z12 : PySem.W.nsIn K mainGlobals "enumerate" = some none) (z13 : PySem.W.nsIn K mainGlobals "min" = some none) (z14 : PySem.W.nsIn K mainGlobals "max" = some none) (z15 : PySem.W.nsIn K mainGlobals "reversed" = some none) (z16 : PySem.W.nsIn K mainGlobals "any" = some none) (z17 : PySem.W.nsIn K mainGlobals "sum" = some none) (z18 : PySem.W.nsIn K mainGlobals "sorted" = some none) : Blt mg := ⟨PySem.W.mg_none_of X G z0, PySem.W.mg_none_of X G z1, PySem.W.mg_none_of X G z2, PySem.W.mg_none_of X G z3, PySem.W.mg_none_of X G z4, PySem.W.mg_none_of X G z5, PySem.W.mg_none_of X G z6, PySem.W.mg_none_of X G z7, PySem.W.mg_none_of X G z8, PySem.W.mg_none_of X G z9, PySem.W.mg_none_of X G z10, PySem.W.mg_none_of X G z11, PySem.W.mg_none_of X G z12, PySem.W.mg_none_of X G z13, PySem.W.mg_none_of X G z14, PySem.W.mg_none_of X G z15, PySem.W.mg_none_of X G z16, PySem.W.mg_none_of X G z17, PySem.W.mg_none_of X G z18⟩
theorem n0 {P : Program} {w : World} {base : Heap} {N ps : List Str} {k : Nat} {b : DM} (F : GF K mg n st f fd) (q : ∀ (kV doc pm : Value) (an : Option Addr) (cdv ct : Value) (us : List Value), us.length = ps.length → bindArgs (PySem.W.fnOf n n (L5 st) (D4 st) (k3 st) .none kV doc pm an cdv ct) ⟨us, []⟩ = pure (ps.zip us)) (S : FnScope N ps (k3 st))
  (hbody : ∀ (cdv : Value) (A : Around) (outer : List Env) (s : Shared) (H : Hp) (E : XK) (g : Gh), Room k (A.deeper (PyProof.Rows.envOfC n (k3 st) s.heap.objs.size f cdv)) → SSO (J9 CX0 P w K mg base N n (k3 st) f cdv A outer s H E).nox g (D4 st) b) :
  Cal P w K mg base (k + 1) n ps (mFn N.length b) := a85 F.F F.m (F.F.binds q) S hbody
end
end DL
namespace DL
open PySem PySem.Spec L2 PyProof.Rows
noncomputable def C5 (kvs : List (Str × Str)) (k : Str) : Option Str := kvs.foldl (fun acc kv => if kv.1 = k then some kv.2 else acc) none
noncomputable def a46 : D → Option Str
 | .str k => some k
 | _ => none
theorem a6B {d : D} {k : Str} (h : a46 d = some k) : d = .str k := by
 cases d with
 | str x => cases h; rfl
 | _ => cases h
noncomputable def M2 (kvs : List (Str × Str)) (f : DE) : DE := fun s => (f s).bind fun x => (a46 x.1).bind fun k => (C5 kvs k).bind fun v => if v.length ≤ sizeLine then some (.str v, x.2) else none
theorem a3l {kvs : List (Str × Str)} {f : DE} {s : DS} {r : D × DS} (e : M2 kvs f s = some r) : ∃ k v s1, f s = some (.str k, s1) ∧ C5 kvs k = some v ∧ v.length ≤ sizeLine ∧ r = (.str v, s1) := by
 refine m6 e fun x s1 h1 e => ?_
 refine J0 e fun k h2 e => ?_
 refine J0 e fun v h3 e => ?_
 cases a6B h2
 by_cases hl : v.length ≤ sizeLine
 ·exact ⟨k, v, s1, h1, h3, hl, (Option.some.inj ((if_pos hl).symm.trans e)).symm⟩
 ·cases (if_neg hl).symm.trans e
noncomputable abbrev D9 (kvs : List (Str × Str)) : List (Key × V) := kvs.map fun kv => (Sum.inr kv.1, V.str kv.2)
theorem a8J (k : Str) : ∀ (kvs : List (Str × Str)) (acc : List (Key × V)) (o : Option Str), t6 acc (Sum.inr k) = o.map V.str → t6 (F8 acc (D9 kvs)) (Sum.inr k) = (kvs.foldl (fun acc kv => if kv.1 = k then some kv.2 else acc) o).map V.str := by
 intro kvs
 induction kvs with
 | nil => intro acc o h; exact h
 | cons p r ih =>
  intro acc o h
  show t6 (F8 (F1 acc (Sum.inr p.1) (V.str p.2)) (D9 r)) (Sum.inr k) = _
  rw [List.foldl_cons]
  refine ih _ _ ?_
  rw [a91]
  by_cases e : p.1 = k
  ·rw [if_pos (congrArg Sum.inr e.symm), if_pos e]
   rfl
  ·rw [if_neg (fun z => e (Sum.inr.inj z).symm), if_neg e]
   exact h
theorem a7j {kvs : List (Str × Str)} {k v : Str} (h : C5 kvs k = some v) : t6 (F8 [] (D9 kvs)) (Sum.inr k) = some (V.str v) := by
 rw [a8J k kvs [] none rfl]
 show (C5 kvs k).map V.str = _
 rw [h]
 rfl
theorem a5M (σ : L2.St) : ∀ (kvs : List (Str × Str)) (H : Hp) (Q : List (V × V) → Hp → Prop), Q ((D9 kvs).map fun kv => (kV kv.1, kv.2)) H → Y9 (kvs.map fun kv => (tC (V.str kv.1), tC (V.str kv.2))) σ H Q := by
 intro kvs
 induction kvs with
 | nil => intro H Q h; exact h
 | cons p r ih =>
  intro H Q h
  exact ih H _ h
section
variable {X : Cx} {g : Gh} {e : Expr} {f : DE} {pos p2 p1 : Pos} {keys : List (Option Expr)} {values : List Expr} {kvs : List (Str × Str)}
theorem a5N (hu : X.A.units + 1 < cLine) (h : PPs X p2 keys values (kvs.map fun kv => (tC (V.str kv.1), tC (V.str kv.2)))) (he : BO X g e f) (hs : Z8 e := by exact fun _ _ => rfl) (hall : keys.all (·.isSome) = true := by rfl) (hl : keys.length = values.length := by rfl) (h0 : keys ≠ [] := by exact List.cons_ne_nil _ _)
  (h15 : keys.length ≤ 15 := by decide) (hk : kvs.length ≤ 15 := by decide) : EO X g (.Subscript (.Dict keys values p2) e pos) (M2 kvs f) := EO.w (a69 hu (a6e h hall hl h0 h15) he.pe hs) fun σ H Q hQ => by
 refine hQ.elim fun f0 O s d s' I e k => ?_
 obtain ⟨kk, v, s1, h1, h2, hv, er⟩ := a3l e
 cases er
 intro p hp
 refine a5M σ kvs _ _ ?_
 refine ⟨u9, D9 kvs, rfl, by rw [List.length_map]; exact hk, ?_⟩
 rw [a8L]
 have nf : f0 ≠ some p := (L1 I hp (show Reps X.K (NN g.F f0 O) f0 H [] [] from rfl)).nf
 have a0 : StE f0 O H f0 O (upd H p (.dK (F8 [] (D9 kvs)))) := A4 hp
 refine ⟨f0, O, s, _, s', I.new hp, h1, fun y H1 f1 O1 a1 I1 r1 => ?_⟩
 simp only [RepB, Rep] at r1
 obtain ⟨rfl, _⟩ := r1
 have e2 : H1 p = some (.dK (F8 [] (D9 kvs))) := a1.same p _ u9 nf
 have gg := DGet.k (k := Sum.inr kk) e2
 rw [a7j h2] at gg
 refine ⟨p, V.str v, rfl, gg, k _ H1 f1 O1 (a0.trans a1) I1 ?_⟩
 simp only [Rep, true_and]
 exact hv
structure ConT (P : Program) (w : World) (K : PySem.W.Frag) (mg : Str → Option Value) (x : Str) (kvs : List (Str × Str)) : Prop where
 ex : ∃ (p : Addr) (vs : List (Key × Value)), mg x = some (.ref p) ∧ KV (D9 kvs) vs ∧ (∀ k, t6 (D9 kvs) (Sum.inr k) = (C5 kvs k).map V.str) ∧ ∀ h : Heap, K.In h → h.DictOf (A0 P w) p vs
theorem a6S {x : Str} (C : ConT X.prog X.w X.K X.mg x kvs) (hg : Gl X x) (he : BO X g e f) (hs : Z8 e := by exact fun _ _ => rfl) (hd : (x == ("__debug__" : Str)) = false := by decide) : EO X g (.Subscript (.Name x p1) e pos) (M2 kvs f) := by
 obtain ⟨p, vs, hm, kv, hv, hD⟩ := C.ex
 have pe : PE X (.Subscript (.Name x p1) e pos) (fun σ H Q => liftB X.K g f σ H fun y H2 => ∃ k v, y = V.str k ∧ C5 kvs k = some v ∧ Q (V.str v) H2) := by
  intro pins s σ H Q I h
  refine a3f PySem.F.slot_dict_getitem.lookup hs (a5e I hg hm (thn (he.pe pins s σ H _ I h) fun iv s2 ⟨y, H2, I2, ry, k, v, ey, hk, q2⟩ => ?_) hd)
  subst ey
  have dd := hD s2.heap I2.kIn
  obtain ⟨w', hw, rw'⟩ := RelO.some_of (v := V.str v) (o := valueAt vs (Sum.inr k)) (by
   have e := kv.val (Sum.inr k)
   rw [hv k, hk] at e
   exact e)
  exact ⟨dd.typeIs, wpAny_getItem_of (W7 (k := Sum.inr k) ry) dd.mapOf hw ⟨V.str v, H2, I2.tok _, rw', q2⟩⟩
 refine EO.w pe fun σ H Q hQ => ?_
 refine hQ.elim fun f0 O s d s' I e k => ?_
 obtain ⟨kk, v, s1, h1, h2, hv, er⟩ := a3l e
 cases er
 refine ⟨f0, O, s, _, s', I, h1, fun y H1 f1 O1 a1 I1 r1 => ?_⟩
 simp only [RepB, Rep] at r1
 obtain ⟨rfl, _⟩ := r1
 refine ⟨kk, v, rfl, h2, k _ H1 f1 O1 a1 I1 ?_⟩
 simp only [Rep, true_and]
 exact hv
end
inductive TabR (w : World) : List DictEntry → List (Str × Str) → List (Key × Value) → Prop
 | nil : TabR w [] [] []
 | cons {k v : Str} {t u : Tok} {es : List DictEntry} {kvs : List (Str × Str)} {vs : List (Key × Value)} (r : TabR w es kvs vs) : TabR w (⟨PyData.keyHash w.params k, .str k t, .str v u⟩ :: es) ((k, v) :: kvs) ((Sum.inr k, .str v u) :: vs)
section
variable {w : World} {es : List DictEntry} {kvs : List (Str × Str)} {vs : List (Key × Value)}
theorem TabR.kv (r : TabR w es kvs vs) : KV (D9 kvs) vs := by
 induction r with
 | nil => exact .nil
 | cons r ih => exact .cons ⟨rfl, _, rfl⟩ ih
theorem TabR.keys (r : TabR w es kvs vs) : vs.map (·.1) = kvs.map fun kv => Sum.inr kv.1 := by
 induction r with
 | nil => rfl
 | cons r ih => rw [List.map_cons, List.map_cons, ih]
theorem TabR.pairs {P : Program} (r : TabR w es kvs vs) : Pairs (A0 P w) es vs := by
 induction r with
 | nil => exact .nil
 | @cons k v t u es kvs vs r ih => exact .cons (show M0 (Sum.inr k) (.str k t) = true from a1u k t) rfl ih
theorem TabR.hash {P : Program} (r : TabR w es kvs vs) : ∀ e ∈ es, ∃ k, (A0 P w).is k e.key = true ∧ e.hash = (A0 P w).hash k := by
 induction r with
 | nil => intro e he; cases he
 | @cons k v t u es kvs vs r ih =>
  intro e he
  rcases List.mem_cons.mp he with rfl | he
  ·exact ⟨Sum.inr k, a1u k t, rfl⟩
  ·exact ih e he
end
theorem a9E {k : Str} : ∀ (kvs : List (Str × Str)) (o : Option Str), k ∉ kvs.map (·.1) → kvs.foldl (fun acc kv => if kv.1 = k then some kv.2 else acc) o = o := by
 intro kvs
 induction kvs with
 | nil => exact fun _ _ => rfl
 | cons p r ih =>
  intro o h
  rw [List.map_cons] at h
  rw [List.foldl_cons, if_neg (fun z => h (by rw [z]; exact List.mem_cons_self ..))]
  exact ih o fun z => h (List.mem_cons_of_mem _ z)
theorem a57 (k : Str) : ∀ kvs : List (Str × Str), (kvs.map (·.1)).Nodup → t6 (D9 kvs) (Sum.inr k) = (C5 kvs k).map V.str := by
 intro kvs
 induction kvs with
 | nil => exact fun _ => rfl
 | cons p r ih =>
  intro h
  rw [List.map_cons, List.nodup_cons] at h
  unfold C5
  rw [List.foldl_cons]
  by_cases e : p.1 = k
  ·rw [if_pos e, a9E r _ (by rw [← e]; exact h.1)]
   exact C9 (congrArg Sum.inr e)
  ·rw [if_neg e]
   exact (D1 (fun z => e (Sum.inr.inj z))).trans (ih h.2)
theorem a80 {P : Program} {w : World} {K : PySem.W.Frag} {mg : Str → Option Value} {x : Str} {kvs : List (Str × Str)} {p : Addr} {es : List DictEntry} {ep : Nat} {vs : List (Key × Value)} (hm : mg x = some (.ref p)) (l : K.lookup p = some ⟨.type "dict", none, .dict es.toArray ep, #[]⟩)
  (r : TabR w es kvs vs) (nd : (kvs.map (·.1)).Nodup) : ConT P w K mg x kvs :=
 ⟨p, vs, hm, r.kv, fun k => a57 k kvs nd, fun h hK => ⟨_, es.toArray, ep, hK _ _ l, ⟨rfl, rfl, rfl⟩, rfl, fun e he => r.hash e (by simpa using he), by simpa using r.pairs, by
  rw [r.keys]
  have : kvs.map (fun kv => (Sum.inr kv.1 : Key)) = (kvs.map (·.1)).map Sum.inr := by rw [List.map_map]; rfl
  rw [this]
  exact List.Pairwise.map _ (fun a b h z => h (Sum.inr.inj z)) nd⟩⟩
end DL
namespace T
open PySem PySem.Spec L2 DL
noncomputable abbrev b0A : DM := (i4 (j4 (dOp r8 (dL 2) (dL 3)) (i5 4)) (i4 (j4 (dV 3) (i5 2)) (j4 (dV 4) (i5 3))))
noncomputable def a2h : DM := (i4 (j4 (dCB (one K8) (a6 (dL 0) a8)) (i5 2)) (i4 (j4 (dCB (one K8) (a6 (dL 1) a8)) (i5 3)) (i4 (D2 (dB (dOp pNe (dL 3) (dC (.int 0)))) (b0A)) (j6 (dV 2)))))
noncomputable def p9 : DFn := mFn 5 (a2h)
noncomputable abbrev U3 (m_divisor_of_two : DFn) : DM := (j4 (c9 m_divisor_of_two (a6 (dV 1) (a6 (dV 2) a8))) (i5 1))
noncomputable def a1s (m_divisor_of_two : DFn) : DM := (i4 (j4 (dC (.int 0)) (i5 1)) (i4 (G3 (dV 0) (i5 2) (U3 m_divisor_of_two)) (j6 (dV 1))))
noncomputable def B1 (m_divisor_of_two : DFn) : DFn := mFn 3 (a1s m_divisor_of_two)
noncomputable def a04 (m_divisor : DFn) : DM := (i4 (j4 (c9 m_divisor (a6 (dV 0) a8)) (i5 1)) (i4 (k4 (dB (dOp (k8 (fun i j => decide (i < j))) (dOp pIx (dL 0) (dUn j8 (dC (.int 1)))) (dC (.int 0)))) (j4 (dUn j8 (dL 1)) (i5 1)) k9) (j6 (dCB (one C4) (a6 (l6 (F2 [1] (J2 (dV 0)) C0 (dOp v6 (dL 0) (dL 1)))) a8)))))
noncomputable def E7 (m_divisor : DFn) : DFn := mFn 2 (a04 m_divisor)
noncomputable def a4u (m_lowest : DFn) : DM := (j6 (c9 m_lowest (a6 (c7 (a6 (dV 0) (a6 (dV 1) a8))) a8)))
noncomputable def O5 (m_lowest : DFn) : DFn := mFn 2 (a4u m_lowest)
noncomputable def a1g (m_divisor_of_two : DFn) : DM := (i4 (j4 (c9 m_divisor_of_two (a6 (dOp pIx (dL 0) (dC (.int 1))) (a6 (dOp pIx (dL 1) (dC (.int 1))) a8))) (i5 2)) (i4 (j4 (dOp n4 (dOp k0 (dOp pIx (dL 0) (dC (.int 0))) (dOp v6 (dOp pIx (dL 1) (dC (.int 1))) (dL 2))) (dOp k0 (dOp pIx (dL 1) (dC (.int 0))) (dOp v6 (dOp pIx (dL 0) (dC (.int 1))) (dL 2)))) (i5 3)) (i4 (j4 (c9 m_divisor_of_two (a6 (dV 3) (a6 (dV 2) a8))) (i5 4)) (j6 (c7 (a6 (dOp v6 (dL 3) (dL 4)) (a6 (dOp k0 (dOp v6 (dOp pIx (dL 0) (dC (.int 1))) (dL 2)) (dOp v6 (dOp pIx (dL 1) (dC (.int 1))) (dL 4))) a8)))))))
noncomputable def Z7 (m_divisor_of_two : DFn) : DFn := mFn 5 (a1g m_divisor_of_two)
noncomputable def a0p (m_fraction : DFn) : DM := (j6 (c9 m_fraction (a6 (dOp k0 (dOp pIx (dL 0) (dC (.int 0))) (dOp pIx (dL 1) (dC (.int 0)))) (a6 (dOp k0 (dOp pIx (dL 0) (dC (.int 1))) (dOp pIx (dL 1) (dC (.int 1)))) a8))))
noncomputable def a0W (m_fraction : DFn) : DFn := mFn 2 (a0p m_fraction)
noncomputable def a1e (m_lowest : DFn) : DM := (j6 (c9 m_lowest (a6 (c7 (a6 (dOp k0 (dOp pIx (dL 0) (dC (.int 0))) (dOp pIx (dL 1) (dC (.int 1)))) (a6 (dOp k0 (dOp pIx (dL 1) (dC (.int 0))) (dOp pIx (dL 0) (dC (.int 1)))) (a6 (dOp k0 (dOp pIx (dL 0) (dC (.int 1))) (dOp pIx (dL 1) (dC (.int 1)))) a8)))) a8)))
noncomputable def G9 (m_lowest : DFn) : DFn := mFn 2 (a1e m_lowest)
noncomputable def a1F (m_fraction : DFn) : DM := (j6 (c9 m_fraction (a6 (dOp pIx (dL 0) (dC (.int 0))) (a6 (dOp pIx (dL 0) (dC (.int 2))) a8))))
noncomputable def G8 (m_fraction : DFn) : DFn := mFn 1 (a1F m_fraction)
noncomputable def a2G (m_fraction : DFn) : DM := (j6 (c9 m_fraction (a6 (dOp pIx (dL 0) (dC (.int 1))) (a6 (dOp pIx (dL 0) (dC (.int 2))) a8))))
noncomputable def J8 (m_fraction : DFn) : DFn := mFn 1 (a2G m_fraction)
noncomputable def a09 : DM := (j6 (dTN 0))
noncomputable def M7 : DFn := mFn 1 (a09)
noncomputable def M4 : DM := (i4 (k4 (dB (dOp (k8 (fun i j => decide (j < i))) (dTG 0 2) (dC (.int 0)))) (i4 (j4 (dOp r8 (dTG 0 2) (dL 1)) (i5 2)) (i4 (dTP 0 2 (dOp v6 (dTG 0 2) (dL 1))) (j6 (dV 2)))) k9) (i4 (j4 (dTG 0 1) (i5 3)) (i4 (dTP 0 1 (dOp n4 (dL 3) (dC (.int 1)))) (i4 (j4 (dC (.int 0)) (i5 4)) (i4 (k4 (dB (dOp (k8 (fun i j => decide (j < i))) (dCB (one l4) (a6 (dTG 0 0) a8)) (dC (.int 0)))) (j4 (dOp pIx (dTG 0 0) (dOp r8 (dL 3) (dCB (one l4) (a6 (dTG 0 0) a8)))) (i5 4)) k9) (i4 (k4 (v3 (dB (dOp (k8 (fun i j => decide (j ≤ i))) (dL 4) (dOp E2 (dC (.int 10)) (dC (.int 18))))) (dB (dOp (k8 (fun i j => decide (i < j))) (dL 3) (dCB (one l4) (a6 (dTG 0 0) a8))))) (i4 (dTP 0 2 (dOp v6 (dL 4) (dL 1))) (j6 (dOp r8 (dL 4) (dL 1)))) k9) (i4 (j4 (dOp r8 (dOp k0 (dOp n4 (dOp n4 (dOp r8 (dL 4) (dC (.int 1000033))) (dOp k0 (dOp k0 (dC (.int 37)) (dL 3)) (dL 3))) (dC (.int 11))) (dC (.int 69621))) (dC (.int 999983))) (i5 5)) (j6 (dOp r8 (dOp v6 (dOp r8 (dOp k0 (dOp r8 (dOp n4 (dOp k0 (dL 5) (dC (.int 48271))) (dOp k0 (dL 3) (dC (.int 6007)))) (dC (.int 999979))) (dC (.int 40692))) (dC (.int 1048573))) (dC (.int 64))) (dL 1))))))))))
noncomputable def C2 : DFn := mFn 6 (M4)
noncomputable abbrev a8H : DM := (y8 0 1 (a6 (dV 1) (a6 (dOp r8 (dL 0) (dL 1)) a8)))
noncomputable def a2e : DM := (i4 (y8 0 1 (a6 (dCB (one K8) (a6 (dL 0) a8)) (a6 (dCB (one K8) (a6 (dL 1) a8)) a8))) (i4 (D2 (dB (dOp (k8 (fun i j => decide (j < i))) (dL 1) (dC (.int 0)))) (a8H)) (j6 (dV 0))))
noncomputable def w8 : DFn := mFn 2 (a2e)
noncomputable def a0P (m_law_divisor : DFn) : DM := (i4 (j4 (c9 m_law_divisor (a6 (dV 0) (a6 (dV 1) a8))) (i5 2)) (i4 (k4 (dB (dOp (k8 (fun i j => decide (i < j))) (dL 1) (dC (.int 0)))) (j4 (dUn j8 (dL 2)) (i5 2)) k9) (j6 (c7 (a6 (dOp v6 (dL 0) (dL 2)) (a6 (dOp v6 (dL 1) (dL 2)) a8))))))
noncomputable def C1 (m_law_divisor : DFn) : DFn := mFn 3 (a0P m_law_divisor)
noncomputable def a0q (m_law_draw : DFn) : DM := (i4 (w9 1 (l5 (a6 (c7 (a6 (dC (.int 0)) (a6 (dC (.int 1)) a8))) (a6 (c7 (a6 (dC (.int 1)) (a6 (dC (.int 1)) a8))) (a6 (c7 (a6 (dUn j8 (dC (.int 1))) (a6 (dC (.int 2)) a8))) (a6 (c7 (a6 (dC (.int 5)) (a6 (dC (.int 3)) a8))) (a6 (c7 (a6 (dUn j8 (dC (.int 7))) (a6 (dC (.int 1)) a8))) (a6 (c7 (a6 (dC (.int 3)) (a6 (dC (.int 2)) a8))) a8)))))))) (i4 (j4 (dOp pIx (dL 1) (c9 m_law_draw (a6 (dV 0) (a6 (dC (.int 6)) a8)))) (i5 2)) (j6 (c7 (a6 (dV 2) (a6 (dOp pIx (dL 1) (c9 m_law_draw (a6 (dV 0) (a6 (dC (.int 6)) a8)))) a8))))))
noncomputable def Y6 (m_law_draw : DFn) : DFn := mFn 3 (a0q m_law_draw)
noncomputable def a8W (m_law_low : DFn) : DM := (j6 (c9 m_law_low (a6 (dOp k0 (dOp pIx (dL 0) (dC (.int 0))) (dOp pIx (dL 1) (dC (.int 0)))) (a6 (dOp k0 (dOp pIx (dL 0) (dC (.int 1))) (dOp pIx (dL 1) (dC (.int 1)))) a8))))
noncomputable def S9 (m_law_low : DFn) : DFn := mFn 2 (a8W m_law_low)
noncomputable def a0J (m_law_divisor : DFn) : DM := (i4 (j4 (c7 (a6 (dOp k0 (dOp pIx (dL 0) (dC (.int 0))) (dOp pIx (dL 1) (dC (.int 1)))) (a6 (dOp k0 (dOp pIx (dL 1) (dC (.int 0))) (dOp pIx (dL 0) (dC (.int 1)))) (a6 (dOp k0 (dOp pIx (dL 0) (dC (.int 1))) (dOp pIx (dL 1) (dC (.int 1)))) a8)))) (i5 2)) (i4 (j4 (c9 m_law_divisor (a6 (c9 m_law_divisor (a6 (dOp pIx (dL 2) (dC (.int 0))) (a6 (dOp pIx (dL 2) (dC (.int 1))) a8))) (a6 (dOp pIx (dL 2) (dC (.int 2))) a8))) (i5 3)) (j6 (dCB (one C4) (a6 (l6 (F2 [3] (J2 (dV 2)) C0 (dOp v6 (dL 0) (dL 1)))) a8)))))
noncomputable def L3 (m_law_divisor : DFn) : DFn := mFn 4 (a0J m_law_divisor)
noncomputable def a9J (m_law_low : DFn) : DM := (j6 (c9 m_law_low (a6 (dOp n4 (dOp k0 (dOp pIx (dL 0) (dC (.int 0))) (dOp pIx (dL 1) (dC (.int 1)))) (dOp k0 (dOp pIx (dL 1) (dC (.int 0))) (dOp pIx (dL 0) (dC (.int 1))))) (a6 (dOp k0 (dOp pIx (dL 0) (dC (.int 1))) (dOp pIx (dL 1) (dC (.int 1)))) a8))))
noncomputable def R8 (m_law_low : DFn) : DFn := mFn 2 (a9J m_law_low)
noncomputable abbrev Y3 (m_law_spot : DFn) (m_law_plus : DFn) (m_law_product : DFn) (m_law_start : DFn) (m_law_draw : DFn) : DM := (i4 (j4 (c9 m_law_product (a6 (dV 7) (a6 (c7 (a6 (dOp t9 (dOp k0 (dL 11) (dL 4)) (dOp k0 (dL 12) (dL 5))) (a6 (dV 6) a8))) a8))) (i5 13)) (i4 (j4 (c9 m_law_product (a6 (dV 7) (a6 (c7 (a6 (dOp n4 (dOp k0 (dL 11) (dL 5)) (dOp k0 (dL 12) (dL 4))) (a6 (dV 6) a8))) a8))) (i5 14)) (C8 10 (c9 m_law_spot (a6 (c9 m_law_plus (a6 (dV 8) (a6 (dV 13) a8))) (a6 (c9 m_law_plus (a6 (dV 9) (a6 (dV 14) a8))) a8))))))
noncomputable def a1K (m_law_spot : DFn) (m_law_plus : DFn) (m_law_product : DFn) (m_law_start : DFn) (m_law_draw : DFn) : DM := (i4 (w9 1 (l5 (a6 (c7 (a6 (c7 (a6 (dC (.int 0)) (a6 (dC (.int 0)) a8))) (a6 (c7 (a6 (dC (.int 4)) (a6 (dC (.int 0)) a8))) (a6 (c7 (a6 (dC (.int 0)) (a6 (dC (.int 3)) a8))) a8)))) (a6 (c7 (a6 (c7 (a6 (dC (.int 0)) (a6 (dC (.int 0)) a8))) (a6 (c7 (a6 (dC (.int 14)) (a6 (dC (.int 0)) a8))) (a6 (c7 (a6 (dC (.int 5)) (a6 (dC (.int 12)) a8))) a8)))) (a6 (c7 (a6 (c7 (a6 (dC (.int 0)) (a6 (dC (.int 0)) a8))) (a6 (c7 (a6 (dC (.int 2)) (a6 (dC (.int 0)) a8))) (a6 (c7 (a6 (dC (.int 2)) (a6 (dC (.int 2)) a8))) (a6 (c7 (a6 (dC (.int 0)) (a6 (dC (.int 2)) a8))) a8))))) a8))))) (i4 (w9 1 (L6 N6 (dL 1) (l6 (l5 (a6 (c7 (a6 (c7 (a6 (dC (.int 0)) (a6 (dC (.int 0)) a8))) (a6 (c7 (a6 (dC (.int 3)) (a6 (dC (.int 4)) a8))) (a6 (c7 (a6 (dC (.int 3)) (a6 (dC (.int 0)) a8))) (a6 (c7 (a6 (dC (.int 0)) (a6 (dC (.int 4)) a8))) a8))))) (a6 (c7 (a6 (c7 (a6 (dC (.int 0)) (a6 (dC (.int 0)) a8))) (a6 (c7 (a6 (dC (.int 5)) (a6 (dC (.int 0)) a8))) (a6 (c7 (a6 (dC (.int 0)) (a6 (dC (.int 0)) a8))) (a6 (c7 (a6 (dC (.int 3)) (a6 (dC (.int 4)) a8))) a8))))) a8)))))) (i4 (w9 1 (L6 N6 (dL 1) (l6 (l5 (a6 (c7 (a6 (c7 (a6 (dC (.int 0)) (a6 (dC (.int 0)) a8))) (a6 (c7 (a6 (dC (.int 3)) (a6 (dC (.int 0)) a8))) (a6 (c7 (a6 (dC (.int 3)) (a6 (dC (.int 4)) a8))) (a6 (c7 (a6 (dC (.int 6)) (a6 (dC (.int 8)) a8))) (a6 (c7 (a6 (dC (.int 0)) (a6 (dC (.int 8)) a8))) (a6 (c7 (a6 (dC (.int 3)) (a6 (dC (.int 4)) a8))) a8))))))) a8))))) (i4 (w9 1 (L6 N6 (dL 1) (l6 (l5 (a6 (c7 (a6 (c7 (a6 (dC (.int 0)) (a6 (dC (.int 0)) a8))) (a6 (c7 (a6 (dC (.int 6)) (a6 (dC (.int 0)) a8))) (a6 (c7 (a6 (dC (.int 6)) (a6 (dC (.int 2)) a8))) (a6 (c7 (a6 (dC (.int 2)) (a6 (dC (.int 2)) a8))) (a6 (c7 (a6 (dC (.int 2)) (a6 (dC (.int 4)) a8))) (a6 (c7 (a6 (dC (.int 6)) (a6 (dC (.int 4)) a8))) (a6 (c7 (a6 (dC (.int 6)) (a6 (dC (.int 6)) a8))) (a6 (c7 (a6 (dC (.int 0)) (a6 (dC (.int 6)) a8))) a8))))))))) a8))))) (i4 (j4 (dOp pIx (dL 1) (c9 m_law_draw (a6 (dV 0) (a6 (dC (.int 7)) a8)))) (i5 2)) (i4 (j4 (c9 m_law_draw (a6 (dV 0) (a6 (dCB (one l4) (a6 (dL 2) a8)) a8))) (i5 3)) (i4 (j4 (W2 (dOp n4 (dSl (dL 2) (dAt (dL 3)) dNo) (dSl (dL 2) dNo (dAt (dL 3)))) (dOp t9 (dC (.int 1)) (dOp k0 (dC (.int 2)) (c9 m_law_draw (a6 (dV 0) (a6 (dC (.int 2)) a8)))))) (i5 2)) (i4 (j4 (dOp pIx (l6 (l5 (a6 (c7 (a6 (dC (.int 1)) (a6 (dC (.int 0)) (a6 (dC (.int 1)) a8)))) (a6 (c7 (a6 (dC (.int 0)) (a6 (dC (.int 1)) (a6 (dC (.int 1)) a8)))) (a6 (c7 (a6 (dC (.int 3)) (a6 (dC (.int 4)) (a6 (dC (.int 5)) a8)))) (a6 (c7 (a6 (dUn j8 (dC (.int 4))) (a6 (dC (.int 3)) (a6 (dC (.int 5)) a8)))) (a6 (c7 (a6 (dC (.int 5)) (a6 (dC (.int 12)) (a6 (dC (.int 13)) a8)))) a8))))))) (c9 m_law_draw (a6 (dV 0) (a6 (dC (.int 5)) a8)))) (t3 3 (m5 (i5 4) (m5 (i5 5) (m5 (i5 6) t7))))) (i4 (j4 (dOp pIx (l6 (l5 (a6 (c7 (a6 (dC (.int 1)) (a6 (dC (.int 1)) a8))) (a6 (c7 (a6 (dC (.int 1)) (a6 (dC (.int 2)) a8))) (a6 (c7 (a6 (dC (.int 3)) (a6 (dC (.int 1)) a8))) a8))))) (c9 m_law_draw (a6 (dV 0) (a6 (dC (.int 3)) a8)))) (i5 7)) (i4 (j4 (c9 m_law_start (a6 (dV 0) a8)) (t3 2 (m5 (i5 8) (m5 (i5 9) t7)))) (i4 (w9 10 (l5 a8)) (i4 (G3 (dV 2) (t3 2 (m5 (i5 11) (m5 (i5 12) t7))) (Y3 m_law_spot m_law_plus m_law_product m_law_start m_law_draw)) (j6 (c7 (a6 (dC (.bl true)) (a6 (dCB (one C4) (a6 (dL 10) a8)) a8))))))))))))))))
noncomputable def a2l (m_law_spot : DFn) (m_law_plus : DFn) (m_law_product : DFn) (m_law_start : DFn) (m_law_draw : DFn) : DFn := mFn 15 (a1K m_law_spot m_law_plus m_law_product m_law_start m_law_draw)
noncomputable abbrev a1N (m_law_draw : DFn) : DM := (w9 7 (L6 N6 (dL 7) (l6 (l5 (a6 (c7 (a6 (dV 8) (a6 (dV 9) (a6 (dV 6) a8)))) (a6 (c7 (a6 (dUn j8 (dL 9)) (a6 (dV 8) (a6 (dV 6) a8)))) (a6 (c7 (a6 (dUn j8 (dL 8)) (a6 (dUn j8 (dL 9)) (a6 (dV 6) a8)))) (a6 (c7 (a6 (dV 9) (a6 (dUn j8 (dL 8)) (a6 (dV 6) a8)))) a8))))))))
noncomputable def U0 (m_law_draw : DFn) : DM := (i4 (j4 (dOp pIx (l6 (l5 (a6 (dC (.int 1)) (a6 (dC (.int 1)) (a6 (dC (.int 1)) (a6 (dC (.int 1)) (a6 (dC (.int 1)) (a6 (dC (.int 1)) (a6 (dC (.int 1)) (a6 (dOp E2 (dC (.int 10)) (dC (.int 12))) a8)))))))))) (c9 m_law_draw (a6 (dV 0) (a6 (dC (.int 8)) a8)))) (i5 1)) (i4 (j4 (c9 m_law_draw (a6 (dV 0) (a6 (dC (.int 5)) a8))) (i5 2)) (i4 (k4 (dB (dOp pEq (dL 2) (dC (.int 0)))) (i4 (w9 3 (l5 (a6 (c7 (a6 (dC (.int 1)) (a6 (dC (.int 1)) a8))) (a6 (c7 (a6 (dC (.int 2)) (a6 (dC (.int 1)) a8))) (a6 (c7 (a6 (dC (.int 1)) (a6 (dC (.int 2)) a8))) (a6 (c7 (a6 (dC (.int 40)) (a6 (dC (.int 1)) a8))) (a6 (c7 (a6 (dC (.int 7)) (a6 (dC (.int 3)) a8))) a8))))))) (j6 (c7 (a6 (l6 (l5 (a6 (c7 (a6 (dC (.int 1)) (a6 (dC (.int 0)) (a6 (dC (.int 1)) a8)))) (a6 (c7 (a6 (dC (.int 0)) (a6 (dC (.int 1)) (a6 (dC (.int 1)) a8)))) (a6 (c7 (a6 (dUn j8 (dC (.int 1))) (a6 (dC (.int 0)) (a6 (dC (.int 1)) a8)))) (a6 (c7 (a6 (dC (.int 0)) (a6 (dUn j8 (dC (.int 1))) (a6 (dC (.int 1)) a8)))) a8)))))) (a6 (l6 (M3 [1] (J2 (dV 3)) C0 (c7 (a6 (dOp k0 (dL 2) (dL 0)) (a6 (dV 1) a8))))) a8))))) k9) (i4 (j4 (dOp pIx (l6 (l5 (a6 (c7 (a6 (dC (.int 3)) (a6 (dC (.int 4)) (a6 (dC (.int 5)) a8)))) (a6 (c7 (a6 (dC (.int 3)) (a6 (dC (.int 4)) (a6 (dC (.int 5)) a8)))) (a6 (c7 (a6 (dC (.int 5)) (a6 (dC (.int 12)) (a6 (dC (.int 13)) a8)))) (a6 (c7 (a6 (dC (.int 8)) (a6 (dC (.int 15)) (a6 (dC (.int 17)) a8)))) a8)))))) (dOp t9 (dL 2) (dC (.int 1)))) (t3 3 (m5 (i5 4) (m5 (i5 5) (m5 (i5 6) t7))))) (i4 (w9 7 (l5 (a6 (c7 (a6 (dV 6) (a6 (dC (.int 0)) (a6 (dV 6) a8)))) (a6 (c7 (a6 (dC (.int 0)) (a6 (dV 6) (a6 (dV 6) a8)))) (a6 (c7 (a6 (dUn j8 (dL 6)) (a6 (dC (.int 0)) (a6 (dV 6) a8)))) (a6 (c7 (a6 (dC (.int 0)) (a6 (dUn j8 (dL 6)) (a6 (dV 6) a8)))) a8)))))) (i4 (G3 (l6 (l5 (a6 (c7 (a6 (dV 4) (a6 (dV 5) a8))) (a6 (c7 (a6 (dV 5) (a6 (dV 4) a8))) a8)))) (t3 2 (m5 (i5 8) (m5 (i5 9) t7))) (a1N m_law_draw)) (j6 (c7 (a6 (dV 7) (a6 (l6 (M3 [1] (J2 (l6 (l5 (a6 (c7 (a6 (dV 6) (a6 (dC (.int 1)) a8))) (a6 (c7 (a6 (dC (.int 1)) (a6 (dC (.int 1)) a8))) (a6 (c7 (a6 (dV 6) (a6 (dC (.int 2)) a8))) (a6 (c7 (a6 (dC (.int 2)) (a6 (dC (.int 1)) a8))) a8))))))) C0 (c7 (a6 (dOp k0 (dL 2) (dL 0)) (a6 (dV 1) a8))))) a8))))))))))
noncomputable def a0I (m_law_draw : DFn) : DFn := mFn 10 (U0 m_law_draw)
noncomputable abbrev Y1 (m_law_spot : DFn) (m_law_plus : DFn) (m_law_product : DFn) (m_law_draw : DFn) (m_law_start : DFn) (m_law_menu : DFn) : DM := (i4 (w9 9 (F2 [7] (J2 (dV 2)) (dB (dOp pNe (dL 0) (dL 1))) (dV 0))) (i4 (j4 (dOp pIx (dL 9) (c9 m_law_draw (a6 (dV 0) (a6 (dCB (one l4) (a6 (dL 9) a8)) a8)))) (i5 7)) (i4 (j4 (dOp pIx (dL 3) (c9 m_law_draw (a6 (dV 0) (a6 (dCB (one l4) (a6 (dL 3) a8)) a8)))) (i5 10)) (i4 (j4 (c9 m_law_plus (a6 (dV 4) (a6 (c9 m_law_product (a6 (dV 10) (a6 (c7 (a6 (dOp pIx (dL 7) (dC (.int 0))) (a6 (dOp pIx (dL 7) (dC (.int 2))) a8))) a8))) a8))) (i5 4)) (i4 (j4 (c9 m_law_plus (a6 (dV 5) (a6 (c9 m_law_product (a6 (dV 10) (a6 (c7 (a6 (dOp pIx (dL 7) (dC (.int 1))) (a6 (dOp pIx (dL 7) (dC (.int 2))) a8))) a8))) a8))) (i5 5)) (C8 6 (c9 m_law_spot (a6 (dV 4) (a6 (dV 5) a8)))))))))
noncomputable def a2r (m_law_spot : DFn) (m_law_plus : DFn) (m_law_product : DFn) (m_law_draw : DFn) (m_law_start : DFn) (m_law_menu : DFn) : DM := (i4 (j4 (c9 m_law_menu (a6 (dV 0) a8)) (t3 2 (m5 (i5 2) (m5 (i5 3) t7)))) (i4 (j4 (c9 m_law_start (a6 (dV 0) a8)) (t3 2 (m5 (i5 4) (m5 (i5 5) t7)))) (i4 (w9 6 (l5 (a6 (c9 m_law_spot (a6 (dV 4) (a6 (dV 5) a8))) a8))) (i4 (j4 (dC .non) (i5 7)) (i4 (Q0 (a6 (dOp n4 (dC (.int 1)) (c9 m_law_draw (a6 (dV 0) (a6 (dOp t9 (dL 1) (dC (.int 1))) a8)))) a8) (i5 8) (Y1 m_law_spot m_law_plus m_law_product m_law_draw m_law_start m_law_menu)) (j6 (c7 (a6 (dC (.bl false)) (a6 (dCB (one C4) (a6 (dL 6) a8)) a8)))))))))
noncomputable def a2o (m_law_spot : DFn) (m_law_plus : DFn) (m_law_product : DFn) (m_law_draw : DFn) (m_law_start : DFn) (m_law_menu : DFn) : DFn := mFn 11 (a2r m_law_spot m_law_plus m_law_product m_law_draw m_law_start m_law_menu)
noncomputable def a9F (m_law_draw : DFn) (m_law_closed : DFn) (m_law_open : DFn) : DM := (j6 (dIf (dB (dOp pEq (c9 m_law_draw (a6 (dV 0) (a6 (dC (.int 3)) a8))) (dC (.int 0)))) (c9 m_law_closed (a6 (dV 0) a8)) (c9 m_law_open (a6 (dV 0) (a6 (dV 1) a8)))))
noncomputable def a02 (m_law_draw : DFn) (m_law_closed : DFn) (m_law_open : DFn) : DFn := mFn 2 (a9F m_law_draw m_law_closed m_law_open)
noncomputable def a7K (m_law_low : DFn) : DM := (j6 (c7 (a6 (c9 m_law_low (a6 (dOp pIx (dL 0) (dC (.int 0))) (a6 (dOp pIx (dL 0) (dC (.int 2))) a8))) (a6 (c9 m_law_low (a6 (dOp pIx (dL 0) (dC (.int 1))) (a6 (dOp pIx (dL 0) (dC (.int 2))) a8))) a8))))
noncomputable def Z6 (m_law_low : DFn) : DFn := mFn 1 (a7K m_law_low)
noncomputable def J4 (m_lowest : DFn) (m_place : DFn) (m_plus : DFn) (m_up : DFn) (m_across : DFn) : DM := (i4 (k4 (dB (dOp pEq (dOp pIx (dL 0) (dC (.int 0))) (dC (.str "move")))) (j6 (c9 m_place (a6 (c9 m_plus (a6 (c9 m_across (a6 (dV 1) a8)) (a6 (dOp pIx (dL 0) (dC (.int 1))) a8))) (a6 (c9 m_plus (a6 (c9 m_up (a6 (dV 1) a8)) (a6 (dOp pIx (dL 0) (dC (.int 2))) a8))) a8)))) k9) (i4 (k4 (dB (dOp pEq (dOp pIx (dL 0) (dC (.int 0))) (dC (.str "quarter")))) (j6 (c7 (a6 (dUn j8 (dOp pIx (dL 1) (dC (.int 1)))) (a6 (dOp pIx (dL 1) (dC (.int 0))) (a6 (dOp pIx (dL 1) (dC (.int 2))) a8))))) k9) (i4 (k4 (dB (dOp pEq (dOp pIx (dL 0) (dC (.int 0))) (dC (.str "mirror")))) (j6 (c7 (a6 (dUn j8 (dOp pIx (dL 1) (dC (.int 0)))) (a6 (dOp pIx (dL 1) (dC (.int 1))) (a6 (dOp pIx (dL 1) (dC (.int 2))) a8))))) k9) (i4 (j4 (dOp pIx (dL 0) (dC (.int 1))) (i5 2)) (j6 (c9 m_lowest (a6 (c7 (a6 (dOp k0 (dOp pIx (dL 1) (dC (.int 0))) (dOp pIx (dL 2) (dC (.int 0)))) (a6 (dOp k0 (dOp pIx (dL 1) (dC (.int 1))) (dOp pIx (dL 2) (dC (.int 0)))) (a6 (dOp k0 (dOp pIx (dL 1) (dC (.int 2))) (dOp pIx (dL 2) (dC (.int 1)))) a8)))) a8)))))))
noncomputable def a0d (m_lowest : DFn) (m_place : DFn) (m_plus : DFn) (m_up : DFn) (m_across : DFn) : DFn := mFn 3 (J4 m_lowest m_place m_plus m_up m_across)
noncomputable def a6W (m_changed_place : DFn) : DM := (j6 (dCB (one C4) (a6 (l6 (F2 [0] (J2 (dV 1)) C0 (c9 m_changed_place (a6 (dV 1) (a6 (dV 0) a8))))) a8)))
noncomputable def a1f (m_changed_place : DFn) : DFn := mFn 2 (a6W m_changed_place)
noncomputable def a9k (m_changed_places : DFn) : DM := (j6 (c7 (a6 (dOp pIx (dL 1) (dC (.int 0))) (a6 (c9 m_changed_places (a6 (dV 0) (a6 (dOp pIx (dL 1) (dC (.int 1))) a8))) a8))))
noncomputable def a0e (m_changed_places : DFn) : DFn := mFn 2 (a9k m_changed_places)
noncomputable def N7 (m_law_draw : DFn) : DM := (i4 (j4 (c9 m_law_draw (a6 (dV 0) (a6 (dC (.int 4)) a8))) (i5 1)) (i4 (k4 (dB (dOp pEq (dL 1) (dC (.int 0)))) (i4 (w9 2 (l5 (a6 (c7 (a6 (dC (.int 0)) (a6 (dC (.int 1)) a8))) (a6 (c7 (a6 (dC (.int 1)) (a6 (dC (.int 1)) a8))) (a6 (c7 (a6 (dUn j8 (dC (.int 3))) (a6 (dC (.int 2)) a8))) (a6 (c7 (a6 (dC (.int 7)) (a6 (dC (.int 3)) a8))) (a6 (c7 (a6 (dUn j8 (dC (.int 20))) (a6 (dC (.int 1)) a8))) a8))))))) (i4 (j4 (dOp pIx (dL 2) (c9 m_law_draw (a6 (dV 0) (a6 (dC (.int 5)) a8)))) (i5 3)) (j6 (c7 (a6 (dC (.str "move")) (a6 (dV 3) (a6 (dOp pIx (dL 2) (c9 m_law_draw (a6 (dV 0) (a6 (dC (.int 5)) a8)))) a8))))))) k9) (i4 (k4 (dB (dOp pEq (dL 1) (dC (.int 3)))) (j6 (c7 (a6 (dC (.str "scale")) (a6 (dOp pIx (l6 (l5 (a6 (c7 (a6 (dC (.int 1)) (a6 (dC (.int 1)) a8))) (a6 (c7 (a6 (dC (.int 2)) (a6 (dC (.int 1)) a8))) (a6 (c7 (a6 (dC (.int 1)) (a6 (dC (.int 3)) a8))) (a6 (c7 (a6 (dC (.int 3)) (a6 (dC (.int 2)) a8))) (a6 (c7 (a6 (dC (.int 12)) (a6 (dC (.int 1)) a8))) a8))))))) (c9 m_law_draw (a6 (dV 0) (a6 (dC (.int 5)) a8)))) a8)))) k9) (j6 (dOp pIx (l6 (l5 (a6 (c7 (a6 (dC (.str "quarter")) a8)) (a6 (c7 (a6 (dC (.str "mirror")) a8)) a8)))) (dOp t9 (dL 1) (dC (.int 1))))))))
noncomputable def a1m (m_law_draw : DFn) : DFn := mFn 4 (N7 m_law_draw)
noncomputable def a1U (m_law_spot : DFn) (m_law_low : DFn) (m_law_draw : DFn) : DM := (i4 (j4 (c9 m_law_low (a6 (dOp t9 (c9 m_law_draw (a6 (dV 0) (a6 (dC (.int 13)) a8))) (dC (.int 6))) (a6 (dOp pIx (l6 (l5 (a6 (dC (.int 1)) (a6 (dC (.int 1)) (a6 (dC (.int 2)) (a6 (dC (.int 3)) a8)))))) (c9 m_law_draw (a6 (dV 0) (a6 (dC (.int 4)) a8)))) a8))) (i5 1)) (j6 (c9 m_law_spot (a6 (dV 1) (a6 (c9 m_law_low (a6 (dOp t9 (c9 m_law_draw (a6 (dV 0) (a6 (dC (.int 13)) a8))) (dC (.int 6))) (a6 (dOp pIx (l6 (l5 (a6 (dC (.int 1)) (a6 (dC (.int 1)) (a6 (dC (.int 2)) (a6 (dC (.int 3)) a8)))))) (c9 m_law_draw (a6 (dV 0) (a6 (dC (.int 4)) a8)))) a8))) a8)))))
noncomputable def Y7 (m_law_spot : DFn) (m_law_low : DFn) (m_law_draw : DFn) : DFn := mFn 2 (a1U m_law_spot m_law_low m_law_draw)
noncomputable def a54 : DM := (j6 (c7 (a6 (dOp t9 (dOp k0 (dOp pIx (dL 1) (dC (.int 0))) (dOp pIx (dL 0) (dC (.int 2)))) (dOp k0 (dOp pIx (dL 0) (dC (.int 0))) (dOp pIx (dL 1) (dC (.int 2))))) (a6 (dOp t9 (dOp k0 (dOp pIx (dL 1) (dC (.int 1))) (dOp pIx (dL 0) (dC (.int 2)))) (dOp k0 (dOp pIx (dL 0) (dC (.int 1))) (dOp pIx (dL 1) (dC (.int 2))))) a8))))
noncomputable def P9 : DFn := mFn 2 (a54)
noncomputable def a03 (m_law_way : DFn) : DM := (i4 (y8 3 4 (a6 (c9 m_law_way (a6 (dV 0) (a6 (dV 1) a8))) (a6 (c9 m_law_way (a6 (dV 1) (a6 (dV 2) a8))) a8))) (j6 (t5 (dOp pEq (dOp k0 (dOp pIx (dL 3) (dC (.int 0))) (dOp pIx (dL 4) (dC (.int 1)))) (dOp k0 (dOp pIx (dL 3) (dC (.int 1))) (dOp pIx (dL 4) (dC (.int 0))))) (dOp (k8 (fun i j => decide (j < i))) (dOp n4 (dOp k0 (dOp pIx (dL 3) (dC (.int 0))) (dOp pIx (dL 4) (dC (.int 0)))) (dOp k0 (dOp pIx (dL 3) (dC (.int 1))) (dOp pIx (dL 4) (dC (.int 1))))) (dC (.int 0))))))
noncomputable def X4 (m_law_way : DFn) : DFn := mFn 5 (a03 m_law_way)
noncomputable abbrev R3 (m_law_spot : DFn) (m_law_plus : DFn) (m_law_xy : DFn) (m_law_goes_on : DFn) (m_law_draw : DFn) (m_law_near : DFn) : DM := (i4 (j4 (dIf (dB (dOp (k8 (fun i j => decide (j < i))) (c9 m_law_draw (a6 (dV 0) (a6 (dC (.int 4)) a8))) (dC (.int 0)))) (c9 m_law_near (a6 (dV 0) a8)) (dOp pIx (dL 3) (c9 m_law_draw (a6 (dV 0) (a6 (dCB (one l4) (a6 (dL 3) a8)) a8))))) (i5 6)) (k4 (v3 (dB (dOp (k8 (fun i j => decide (i < j))) (dCB (one l4) (a6 (dL 3) a8)) (dL 4))) (v3 (dB (dOp pNe (dL 6) (dOp pIx (dL 3) (dUn j8 (dC (.int 1)))))) (dOr (dB (dOp (k8 (fun i j => decide (i < j))) (dCB (one l4) (a6 (dL 3) a8)) (dC (.int 2)))) (A8 (dTr (c9 m_law_goes_on (a6 (dOp pIx (dL 3) (dUn j8 (dC (.int 2)))) (a6 (dOp pIx (dL 3) (dUn j8 (dC (.int 1)))) (a6 (dV 6) a8))))))))) (C8 3 (dV 6)) k9))
noncomputable def a1S (m_law_spot : DFn) (m_law_plus : DFn) (m_law_xy : DFn) (m_law_goes_on : DFn) (m_law_draw : DFn) (m_law_near : DFn) : DM := (i4 (w9 3 (dCF (one a1h) (a6 (dL 1) a8))) (i4 (j4 (dOp n4 (dC (.int 2)) (c9 m_law_draw (a6 (dV 0) (a6 (dOp t9 (dL 2) (dC (.int 1))) a8)))) (i5 4)) (i4 (Q0 (a6 (dC (.int 14)) a8) (i5 5) (R3 m_law_spot m_law_plus m_law_xy m_law_goes_on m_law_draw m_law_near)) (i4 (k4 (dB (dOp (k8 (fun i j => decide (i < j))) (dCB (one l4) (a6 (dL 3) a8)) (dC (.int 2)))) (i4 (j4 (c9 m_law_xy (a6 (dOp pIx (dL 3) (dC (.int 0))) a8)) (t3 2 (m5 (i5 7) (m5 (i5 8) t7)))) (C8 3 (c9 m_law_spot (a6 (dV 7) (a6 (c9 m_law_plus (a6 (dV 8) (a6 (c7 (a6 (dC (.int 1)) (a6 (dC (.int 1)) a8))) a8))) a8))))) k9) (j6 (dCB (one C4) (a6 (dL 3) a8)))))))
noncomputable def a1k (m_law_spot : DFn) (m_law_plus : DFn) (m_law_xy : DFn) (m_law_goes_on : DFn) (m_law_draw : DFn) (m_law_near : DFn) : DFn := mFn 9 (a1S m_law_spot m_law_plus m_law_xy m_law_goes_on m_law_draw m_law_near)
noncomputable def a2u (m_law_draw : DFn) (m_law_goes_on : DFn) (m_law_chain : DFn) (m_law_near : DFn) : DM := (i4 (w9 2 (l5 (a6 (c9 m_law_near (a6 (dV 0) a8)) a8))) (i4 (k4 (dB (dOp pEq (c9 m_law_draw (a6 (dV 0) (a6 (dC (.int 4)) a8))) (dC (.int 0)))) (w9 2 (l5 (a6 (dOp pIx (l6 (l5 (a6 (c7 (a6 (dC (.int 9999)) (a6 (dUn j8 (dC (.int 5))) (a6 (dC (.int 1)) a8)))) (a6 (c7 (a6 (dUn j8 (dOp E2 (dC (.int 10)) (dC (.int 9)))) (a6 (dC (.int 2)) (a6 (dC (.int 1)) a8)))) (a6 (c7 (a6 (dOp E2 (dC (.int 10)) (dC (.int 20))) (a6 (dUn j8 (dC (.int 3))) (a6 (dC (.int 7)) a8)))) a8))))) (c9 m_law_draw (a6 (dV 0) (a6 (dC (.int 3)) a8)))) a8))) k9) (i4 (j4 (c9 m_law_chain (a6 (dV 0) (a6 (dV 2) (a6 (dV 1) a8)))) (i5 3)) (i4 (j4 (t5 (N8 (k8 (fun i j => decide (i < j))) (k8 (fun i j => decide (i < j))) (dC (.int 2)) (dCB (one l4) (a6 (dL 3) a8)) (dC (.int 9))) (t5 (dOp pNe (dOp pIx (dL 3) (dC (.int 0))) (dOp pIx (dL 3) (dUn j8 (dC (.int 1))))) (y9 (c9 m_law_goes_on (a6 (dOp pIx (dL 3) (dUn j8 (dC (.int 2)))) (a6 (dOp pIx (dL 3) (dUn j8 (dC (.int 1)))) (a6 (dOp pIx (dL 3) (dC (.int 0))) a8))))))) (i5 4)) (i4 (j4 (t5 (dV 4) (y9 (c9 m_law_goes_on (a6 (dOp pIx (dL 3) (dUn j8 (dC (.int 1)))) (a6 (dOp pIx (dL 3) (dC (.int 0))) (a6 (dOp pIx (dL 3) (dC (.int 1))) a8)))))) (i5 4)) (j6 (c7 (a6 (t5 (dV 4) (dOp pEq (c9 m_law_draw (a6 (dV 0) (a6 (dC (.int 2)) a8))) (dC (.int 0)))) (a6 (dV 3) a8)))))))))
noncomputable def a1T (m_law_draw : DFn) (m_law_goes_on : DFn) (m_law_chain : DFn) (m_law_near : DFn) : DFn := mFn 5 (a2u m_law_draw m_law_goes_on m_law_chain m_law_near)
noncomputable def a00 (m_law_draw : DFn) : DM := (i4 (j4 (dOp pIx (l6 (l5 (a6 (c7 (a6 (dC (.int 1)) (a6 (dC (.int 1)) a8))) (a6 (c7 (a6 (dC (.int 1)) (a6 (dC (.int 2)) a8))) (a6 (c7 (a6 (dC (.int 2)) (a6 (dC (.int 3)) a8))) (a6 (c7 (a6 (dC (.int 7)) (a6 (dC (.int 1)) a8))) (a6 (c7 (a6 (dC (.int 3)) (a6 (dC (.int 10)) a8))) a8))))))) (c9 m_law_draw (a6 (dV 0) (a6 (dC (.int 5)) a8)))) (i5 1)) (i4 (j4 (dOp pIx (l6 (l5 (a6 (dC (.str "both")) (a6 (dC (.str "left")) (a6 (dC (.str "right")) a8))))) (c9 m_law_draw (a6 (dV 0) (a6 (dC (.int 3)) a8)))) (i5 2)) (i4 (j4 (dOp pIx (l6 (l5 (a6 (dC (.str "cut")) (a6 (dC (.str "square")) (a6 (dC (.str "round")) a8))))) (c9 m_law_draw (a6 (dV 0) (a6 (dC (.int 3)) a8)))) (i5 3)) (i4 (j4 (dOp pIx (l6 (l5 (a6 (dC (.str "cut")) (a6 (dC (.str "pointed")) (a6 (dC (.str "round")) a8))))) (c9 m_law_draw (a6 (dV 0) (a6 (dC (.int 3)) a8)))) (i5 4)) (j6 (c7 (a6 (dV 1) (a6 (dV 2) (a6 (dV 3) (a6 (dV 4) (a6 (dOp pIx (l6 (l5 (a6 (c7 (a6 (dC (.int 1)) (a6 (dC (.int 1)) a8))) (a6 (c7 (a6 (dC (.int 3)) (a6 (dC (.int 2)) a8))) (a6 (c7 (a6 (dC (.int 2)) (a6 (dC (.int 1)) a8))) (a6 (c7 (a6 (dC (.int 5)) (a6 (dC (.int 1)) a8))) a8)))))) (c9 m_law_draw (a6 (dV 0) (a6 (dC (.int 4)) a8)))) a8)))))))))))
noncomputable def a0i (m_law_draw : DFn) : DFn := mFn 5 (a00 m_law_draw)
noncomputable def a0L (m_law_spot : DFn) (m_law_product : DFn) (m_law_plus : DFn) (m_law_xy : DFn) : DM := (i4 (j4 (c9 m_law_xy (a6 (dV 1) a8)) (t3 2 (m5 (i5 2) (m5 (i5 3) t7)))) (i4 (k4 (dB (dOp pEq (dOp pIx (dL 0) (dC (.int 0))) (dC (.str "move")))) (j6 (c9 m_law_spot (a6 (c9 m_law_plus (a6 (dV 2) (a6 (dOp pIx (dL 0) (dC (.int 1))) a8))) (a6 (c9 m_law_plus (a6 (dV 3) (a6 (dOp pIx (dL 0) (dC (.int 2))) a8))) a8)))) k9) (i4 (k4 (dB (dOp pEq (dOp pIx (dL 0) (dC (.int 0))) (dC (.str "quarter")))) (j6 (c9 m_law_spot (a6 (c7 (a6 (dUn j8 (dOp pIx (dL 3) (dC (.int 0)))) (a6 (dOp pIx (dL 3) (dC (.int 1))) a8))) (a6 (dV 2) a8)))) k9) (i4 (k4 (dB (dOp pEq (dOp pIx (dL 0) (dC (.int 0))) (dC (.str "mirror")))) (j6 (c9 m_law_spot (a6 (c7 (a6 (dUn j8 (dOp pIx (dL 2) (dC (.int 0)))) (a6 (dOp pIx (dL 2) (dC (.int 1))) a8))) (a6 (dV 3) a8)))) k9) (j6 (c9 m_law_spot (a6 (c9 m_law_product (a6 (dV 2) (a6 (dOp pIx (dL 0) (dC (.int 1))) a8))) (a6 (c9 m_law_product (a6 (dV 3) (a6 (dOp pIx (dL 0) (dC (.int 1))) a8))) a8))))))))
noncomputable def a0l (m_law_spot : DFn) (m_law_product : DFn) (m_law_plus : DFn) (m_law_xy : DFn) : DFn := mFn 4 (a0L m_law_spot m_law_product m_law_plus m_law_xy)
noncomputable def a2i : DM := (j6 (dOp n4 (c7 (a6 (dOp pIx (dL 0) (dC (.int 0))) (a6 (M2 [("both", "both"), ("left", "right"), ("right", "left")] (dOp pIx (dL 0) (dC (.int 1)))) a8))) (dSl (dL 0) (dAt (dC (.int 2))) dNo)))
noncomputable def O8 : DFn := mFn 1 (a2i)
noncomputable def O0 (m_other_side : DFn) (m_times : DFn) : DM := (i4 (k4 (dB (dOp pEq (dOp pIx (dL 0) (dC (.int 0))) (dC (.str "scale")))) (j6 (dOp n4 (c7 (a6 (c9 m_times (a6 (dOp pIx (dL 1) (dC (.int 0))) (a6 (dOp pIx (dL 0) (dC (.int 1))) a8))) a8)) (dSl (dL 1) (dAt (dC (.int 1))) dNo))) k9) (i4 (k4 (dB (dOp pEq (dOp pIx (dL 0) (dC (.int 0))) (dC (.str "mirror")))) (j6 (c9 m_other_side (a6 (dV 1) a8))) k9) (j6 (dV 1))))
noncomputable def a0C (m_other_side : DFn) (m_times : DFn) : DFn := mFn 2 (O0 m_other_side m_times)
noncomputable def L8 (m_law_product : DFn) : DM := (i4 (k4 (dB (dOp pEq (dOp pIx (dL 0) (dC (.int 0))) (dC (.str "scale")))) (j6 (dOp n4 (c7 (a6 (c9 m_law_product (a6 (dOp pIx (dL 1) (dC (.int 0))) (a6 (dOp pIx (dL 0) (dC (.int 1))) a8))) a8)) (dSl (dL 1) (dAt (dC (.int 1))) dNo))) k9) (i4 (k4 (dB (dOp pEq (dOp pIx (dL 0) (dC (.int 0))) (dC (.str "mirror")))) (j6 (dOp n4 (dOp n4 (dSl (dL 1) dNo (dAt (dC (.int 1)))) (c7 (a6 (M2 [("both", "both"), ("left", "right"), ("right", "left")] (dOp pIx (dL 1) (dC (.int 1)))) a8))) (dSl (dL 1) (dAt (dC (.int 2))) dNo))) k9) (j6 (dV 1))))
noncomputable def a0r (m_law_product : DFn) : DFn := mFn 2 (L8 m_law_product)
noncomputable abbrev Y2 (m_changed_rule : DFn) (m_law_rule_due : DFn) (m_law_rule : DFn) (m_changed_line : DFn) (m_changed_place : DFn) (m_law_moved : DFn) (m_law_exact : DFn) (m_law_any : DFn) (m_law_change : DFn) (m_law_new_tape : DFn) : DM := (i4 (j4 (c9 m_law_change (a6 (dV 1) a8)) (i5 3)) (i4 (j4 (dIf (dB (dOp pEq (dOp r8 (dL 2) (dC (.int 2))) (dC (.int 0)))) (c9 m_law_exact (a6 (dV 1) (a6 (dC (.int 9)) a8))) (c9 m_law_any (a6 (dV 1) (a6 (dC (.int 9)) a8)))) (i5 4)) (i4 (j4 (dCB (one C4) (a6 (l6 (F2 [3] (J2 (dOp pIx (dL 4) (dC (.int 1)))) C0 (c9 m_law_moved (a6 (dV 1) (a6 (dV 0) a8))))) a8)) (i5 5)) (i4 (k4 (dB (dOp pNe (dCB (one A6) (a6 (l6 (F2 [3] (J2 (dOp pIx (dL 4) (dC (.int 1)))) C0 (c9 m_changed_place (a6 (dV 1) (a6 (dV 0) a8))))) a8)) (dCB (one A6) (a6 (l6 (dCF (one a1h) (a6 (dL 5) a8))) a8)))) (j6 (dC (.bl false))) k9) (i4 (k4 (dB (dOp pNe (dCB (one A6) (a6 (c9 m_changed_line (a6 (dV 3) (a6 (dV 4) a8))) a8)) (dCB (one A6) (a6 (c7 (a6 (dOp pIx (dL 4) (dC (.int 0))) (a6 (dV 5) a8))) a8)))) (j6 (dC (.bl false))) k9) (i4 (j4 (c9 m_law_rule (a6 (dV 1) a8)) (i5 6)) (k4 (dB (dOp pNe (dCB (one A6) (a6 (c9 m_changed_rule (a6 (dV 3) (a6 (dV 6) a8))) a8)) (dCB (one A6) (a6 (c9 m_law_rule_due (a6 (dV 3) (a6 (dV 6) a8))) a8)))) (j6 (dC (.bl false))) k9)))))))
noncomputable def a2a (m_changed_rule : DFn) (m_law_rule_due : DFn) (m_law_rule : DFn) (m_changed_line : DFn) (m_changed_place : DFn) (m_law_moved : DFn) (m_law_exact : DFn) (m_law_any : DFn) (m_law_change : DFn) (m_law_new_tape : DFn) : DM := (i4 (j4 (c9 m_law_new_tape (a6 (dV 0) a8)) (i5 1)) (i4 (Q0 (a6 (dC (.int 6)) a8) (i5 2) (Y2 m_changed_rule m_law_rule_due m_law_rule m_changed_line m_changed_place m_law_moved m_law_exact m_law_any m_law_change m_law_new_tape)) (j6 (dC (.bl true)))))
noncomputable def a1n (m_changed_rule : DFn) (m_law_rule_due : DFn) (m_law_rule : DFn) (m_changed_line : DFn) (m_changed_place : DFn) (m_law_moved : DFn) (m_law_exact : DFn) (m_law_any : DFn) (m_law_change : DFn) (m_law_new_tape : DFn) : DFn := mFn 7 (a2a m_changed_rule m_law_rule_due m_law_rule m_changed_line m_changed_place m_law_moved m_law_exact m_law_any m_law_change m_law_new_tape)
end T
namespace DL
open PySem L2
theorem T8 {n k : Nat} (hk : 0 < k) (h : n < 2 ^ k) : n.log2 < k := by
 by_cases h0 : n = 0
 ·subst h0; simpa using hk
 ·exact (Nat.log2_lt h0).mpr h
theorem P0 {i : Int} (h : i.natAbs < 2 ^ 200) : o0 i = true := by
 have := T8 (by decide) h
 exact decide_eq_true (by omega)
theorem a6N {j : Int} (h0 : j ≠ 0) (h : j.natAbs < 2 ^ 200) : y0 j = true := by
 have := T8 (by decide) h
 unfold y0
 rw [decide_eq_true h0, Bool.true_and]
 exact decide_eq_true (by omega)
theorem a44 (i : Int) : y7 (.int i) = true := by simp [y7, D.plain, D.py, SeqAt.shaped, PyData.canLay0, PyData.depth]
theorem a9t (i j : Int) : pNe (.int i) (.int j) = some (.bl (!decide (i = j))) := by
 simp only [pNe, a44, Bool.and_self, if_true, D.py, PyData.eqv, Bool.beq_eq_decide_eq]
theorem B7 (i j : Int) : pEq (.int i) (.int j) = some (.bl (decide (i = j))) := by
 simp only [pEq, a44, Bool.and_self, if_true, D.py, PyData.eqv, Bool.beq_eq_decide_eq]
theorem a6C (x y : Str) : pNe (.str x) (.str y) = some (.bl (!decide (x = y))) := rfl
theorem a8n {i : Int} (h : i.natAbs.log2 < 1920) : (PySem.Str.ofString (toString i)).length ≤ 1921 := PyProof.Rows.int_text_len_1921 h
theorem a52 {d : D} (h : K0 d = true) : A6 d = some (.str d.py.shown) := by unfold A6; rw [if_pos h]
theorem a0w {α : Type} {xs : List α} {i : Int} (h0 : 0 ≤ i) (h1 : i < xs.length) : atI xs i = xs[i.toNat]? := by
 unfold atI ixN
 rw [if_pos h0, if_pos h1]
 rfl
theorem G1 {a b : Int} (h : 0 < b) : 0 ≤ a.fmod b ∧ a.fmod b < b := by
 rw [Int.fmod_eq_emod_of_nonneg a (by omega)]
 exact ⟨Int.emod_nonneg a (by omega), Int.emod_lt_of_pos a h⟩
theorem i6 {a b : DM} {s s1 : DS} (h : a s = some (.next, s1)) : i4 a b s = b s1 := by simp [i4, h, B6]
theorem B4 {a b : DM} {s s1 : DS} {d : D} (h : a s = some (.ret d, s1)) : i4 a b s = some (.ret d, s1) := by simp [i4, h, B6]
theorem a01 {m : DFn} {a : DA} {s s1 : DS} {xs : List D} {d : D} {fs : Option FS} (ha : a s = some (xs, s1)) (hm : m xs s1.fs = some (d, fs)) : c9 m a s = some (d, { s1 with fs := fs }) := by
 unfold c9
 rw [ha, Option.bind_some, hm]
 rfl
theorem b6 {p : D → D → Option D} {a b : DE} {s s1 s2 : DS} {x y z : D} (h1 : a s = some (x, s1)) (h2 : b s1 = some (y, s2)) (h3 : p x y = some z) : dOp p a b s = some (z, s2) := by
 unfold dOp
 rw [h1, Option.bind_some, h2, Option.bind_some, h3]
 rfl
theorem i7 {a : DE} {b : DA} {s s1 s2 : DS} {x : D} {xs : List D} (h1 : a s = some (x, s1)) (h2 : b s1 = some (xs, s2)) : a6 a b s = some (x :: xs, s2) := by
 unfold a6
 rw [h1, Option.bind_some, h2]
 rfl
theorem k5 {f : DE} {t : D → DS → Option DS} {s s1 s2 : DS} {d : D} (h1 : f s = some (d, s1)) (h2 : t d s1 = some s2) : j4 f t s = some (.next, s2) := by
 unfold j4
 rw [h1, Option.bind_some, h2]
 rfl
theorem E6 {c : DT} {a b : DM} {s s1 : DS} (h : c s = some (true, s1)) : k4 c a b s = a s1 := by simp [k4, h]
theorem T1 {c : DT} {a b : DM} {s s1 : DS} (h : c s = some (false, s1)) : k4 c a b s = b s1 := by simp [k4, h]
theorem l3 {f : DE} {s s1 : DS} {d : D} (h : f s = some (d, s1)) : j6 f s = some (.ret d, s1) := by simp [j6, h]
theorem n5 {f : DE} {s s1 : DS} {b : Bool} (h : f s = some (.bl b, s1)) : dB f s = some (b, s1) := by simp [dB, h]
theorem l0 {n : Nat} {b : DM} {ds : List D} {fs : Option FS} {d : D} {s : DS} (h : b ⟨ds.map .val ++ List.replicate (n - ds.length) .no, fs⟩ = some (.ret d, s)) : mFn n b ds fs = some (d, s.fs) := by simp [mFn, h]
theorem l7 {m : DFn} {a : DA} {sl : List Sl} {fs : Option FS} {xs : List D} {d : D} (ha : a ⟨sl, fs⟩ = some (xs, ⟨sl, fs⟩)) (hm : m xs fs = some (d, fs)) : c9 m a ⟨sl, fs⟩ = some (d, ⟨sl, fs⟩) := a01 (s1 := ⟨sl, fs⟩) ha hm
theorem j9 {m : DFn} {a : DA} {sl : List Sl} {fs fs' : Option FS} {xs : List D} {d : D} (ha : a ⟨sl, fs⟩ = some (xs, ⟨sl, fs⟩)) (hm : m xs fs = some (d, fs')) : c9 m a ⟨sl, fs⟩ = some (d, ⟨sl, fs'⟩) := a01 (s1 := ⟨sl, fs⟩) ha hm
theorem X1 {m : DFn} {a : DA} {sl sl' : List Sl} {fs fs' fs2 : Option FS} {xs : List D} {d : D} (ha : a ⟨sl, fs⟩ = some (xs, ⟨sl', fs'⟩)) (hm : m xs fs' = some (d, fs2)) : c9 m a ⟨sl, fs⟩ = some (d, ⟨sl', fs2⟩) := a01 (s1 := ⟨sl', fs'⟩) ha hm
theorem U8 {a b c : DE} {s s1 s2 s3 : DS} {x y z : D} (h1 : a s = some (x, s1)) (h2 : b s1 = some (y, s2)) (h3 : c s2 = some (z, s3)) : c7 (a6 a (a6 b (a6 c a8))) s = some (.tup [x, y, z], s3) := by
 unfold c7
 rw [i7 h1 (i7 h2 (i7 h3 rfl)), Option.bind_some]
 exact if_pos (e := (none : Option (D × DS))) (show 3 ≤ sizeLine by decide)
theorem a1D {t : D → DS → Option DS} {b : DM} {d : D} {r : List D} {s s1 s2 : DS} (h1 : t d s = some s1) (h2 : b s1 = some (.next, s2)) : v0 t b (d :: r) s = v0 t b r s2 := by
 rw [v0, h1, Option.bind_some, h2]
 rfl
theorem v4 {a b : DE} {s s1 s2 : DS} {x y : D} (h1 : a s = some (x, s1)) (h2 : b s1 = some (y, s2)) : c7 (a6 a (a6 b a8)) s = some (.tup [x, y], s2) := by
 unfold c7
 rw [i7 h1 (i7 h2 rfl), Option.bind_some]
 exact if_pos (e := (none : Option (D × DS))) (show 2 ≤ sizeLine by decide)
theorem a5o {i j : Nat} {f : DA} {s s1 s2 : DS} {a b : D} (h : f s = some ([a, b], s1)) (e : { s1 with sl := (s1.sl.set i (.val a)).set j (.val b) } = s2) : y8 i j f s = some (.next, s2) := by
 unfold y8
 rw [h]
 exact congrArg (fun z => some (Fl.next, z)) e
theorem a5B {f : DE} {s s1 : DS} {b : Bool} (h : f s = some (.bl b, s1)) : dTr f s = some (b, s1) := by
 unfold dTr
 rw [h]
 rfl
theorem a5Z {a : DT} {s s1 : DS} {b : Bool} (h : a s = some (b, s1)) : A8 a s = some (!b, s1) := by
 unfold A8
 rw [h]
 rfl
theorem R7 {a b : DT} {s s1 : DS} {r : Option (Bool × DS)} (h1 : a s = some (true, s1)) (h2 : b s1 = r) : v3 a b s = r := by
 unfold v3
 rw [h1, Option.bind_some, if_pos rfl]
 exact h2
theorem a0n {a b : DT} {s s1 : DS} (h1 : a s = some (false, s1)) : v3 a b s = some (false, s1) := by
 unfold v3
 rw [h1, Option.bind_some, if_neg Bool.false_ne_true]
theorem a6t {a b : DT} {s s1 : DS} (h1 : a s = some (true, s1)) : dOr a b s = some (true, s1) := by
 unfold dOr
 rw [h1, Option.bind_some, if_pos rfl]
theorem a8b {a b : DT} {s s1 : DS} {r : Option (Bool × DS)} (h1 : a s = some (false, s1)) (h2 : b s1 = r) : dOr a b s = r := by
 unfold dOr
 rw [h1, Option.bind_some, if_neg Bool.false_ne_true]
 exact h2
theorem K5 {c : DT} {a : DM} {s s1 : DS} (h : c s = some (false, s1)) : k4 c a k9 s = some (.next, s1) := by
 rw [T1 h]
 rfl
theorem B2 {i : Nat} {f : DA} {s s1 : DS} {ds : List D} (h : f s = some (ds, s1)) (hi : i < s1.sl.length) : w9 i f s = some (.next, { s1 with sl := s1.sl.set i (.own ds) }) := by
 unfold w9
 rw [h, Option.bind_some, if_pos hi]
theorem a33 {idx : List Nat} {fi : DA} {fc : DT} {fe : DE} {s s1 : DS} {ds R : List D} {fs' : Option FS} (h : fi s = some (ds, s1)) (hz : ds.length ≤ sizeLine) (c : v8 (mk2 idx s1.sl) fc fe ds s1.fs = some (R, fs')) : M3 idx fi fc fe s = some (R, { s1 with fs := fs' }) := by
 unfold M3
 rw [h, Option.bind_some, if_pos hz, c]
 rfl
theorem u3 {f : DA} {s s1 : DS} {ds : List D} (h : f s = some (ds, s1)) : l6 f s = some (.lst ds, s1) := by
 unfold l6
 rw [h]
 rfl
theorem W6 {p : D → D → Option (List D)} {a b : DE} {s s1 s2 : DS} {x y : D} {z : List D} (h1 : a s = some (x, s1)) (h2 : b s1 = some (y, s2)) (h3 : p x y = some z) : L6 p a b s = some (z, s2) := by
 unfold L6
 rw [h1, Option.bind_some, h2, Option.bind_some, h3]
 rfl
theorem T0 {idx : List Nat} {fi : DA} {fc : DT} {fe : DE} {s s1 : DS} {ds R : List D} (h : fi s = some (ds, s1)) (hz : ds.length ≤ sizeLine) (c : v8 (fun d => some (.val d :: E5 idx s1.sl)) fc fe ds s1.fs = some (R, s1.fs)) : F2 idx fi fc fe s = some (R, s1) := by
 unfold F2
 rw [h, Option.bind_some, if_pos hz, c]
 rfl
theorem Z5 {i : Nat} {f : DE} {s s1 : DS} {ds ds0 : List D} {d : D} (h0 : s.sl[i]? = some (.own ds0)) (h : f s = some (d, s1)) (h1 : s1.sl[i]? = some (.own ds)) (hl : ds.length < sizeLine) : C8 i f s = some (.next, { s1 with sl := s1.sl.set i (.own (ds ++ [d])) }) := by
 unfold C8
 rw [h0]
 show (f s).bind _ = _
 rw [h, Option.bind_some]
 show (match s1.sl[i]? with | some (.own ds) => _ | _ => _) = _
 rw [h1]
 exact if_pos hl
theorem a14 {a : DE} {s s1 : DS} {x : D} (h : a s = some (x, s1)) : l5 (a6 a a8) s = some ([x], s1) := by
 unfold l5
 rw [i7 h rfl, Option.bind_some]
 exact if_pos (e := (none : Option (List D × DS))) (show 1 ≤ sizeLine by decide)
theorem v5 {p : D → Option D} {a : DE} {s s1 : DS} {x d : D} (h : a s = some (x, s1)) (hp : p x = some d) : dCB (one p) (a6 a a8) s = some (d, s1) := by
 unfold dCB
 rw [i7 h rfl, Option.bind_some]
 show (p x).map _ = _
 rw [hp]
 rfl
theorem X0 {c : DT} {a b : DE} {s s1 : DS} (h : c s = some (true, s1)) : dIf c a b s = a s1 := by
 unfold dIf
 rw [h]
 rfl
theorem W4 {c : DT} {a b : DE} {s s1 : DS} (h : c s = some (false, s1)) : dIf c a b s = b s1 := by
 unfold dIf
 rw [h]
 rfl
noncomputable def fr (p : Rat) : D := .tup [.int p.num, .int p.den]
noncomputable def Sz (k : Nat) (p : Rat) : Prop := p.num.natAbs < 2 ^ k ∧ p.den < 2 ^ k
theorem Sz.mono {k l : Nat} {p : Rat} (h : Sz k p) (hl : k ≤ l) : Sz l p :=
 ⟨Nat.lt_of_lt_of_le h.1 (Nat.pow_le_pow_right (by decide) hl), Nat.lt_of_lt_of_le h.2 (Nat.pow_le_pow_right (by decide) hl)⟩
theorem a4Y {a b : Int} (hb : b ≠ 0) : (Rat.divInt a b).num.natAbs ≤ a.natAbs ∧ (Rat.divInt a b).den ≤ b.natAbs := by
 constructor
 ·rw [Rat.num_divInt, Int.natAbs_ediv_of_dvd (Int.dvd_mul_of_dvd_right (Int.gcd_dvd_right ..))]
  rw [Int.natAbs_mul, Int.natAbs_sign_of_ne_zero hb, Nat.one_mul]
  exact Nat.div_le_self _ _
 ·rw [Rat.den_divInt, if_neg hb]
  exact Nat.div_le_self _ _
theorem Sz.of_divInt {k : Nat} {a b : Int} (hb : b ≠ 0) (h1 : a.natAbs < 2 ^ k) (h2 : b.natAbs < 2 ^ k) : Sz k (Rat.divInt a b) :=
 ⟨Nat.lt_of_le_of_lt (a4Y hb).1 h1, Nat.lt_of_le_of_lt (a4Y hb).2 h2⟩
theorem a4C {a b k l : Nat} (h1 : a < 2 ^ k) (h2 : b < 2 ^ l) : a * b < 2 ^ (k + l) := by
 rw [Nat.pow_add]
 exact Nat.mul_lt_mul_of_lt_of_lt h1 h2
theorem a8A {a b k : Nat} (h1 : a < 2 ^ k) (h2 : b < 2 ^ k) : a + b < 2 ^ (k + 1) := by
 rw [Nat.pow_succ]; omega
noncomputable def Bd (k : Nat) (i : Int) : Prop := i.natAbs < 2 ^ k
theorem Bd.mono {k l : Nat} {i : Int} (h : Bd k i) (hl : k ≤ l) : Bd l i := Nat.lt_of_lt_of_le h (Nat.pow_le_pow_right (by decide) hl)
theorem Bd.mul {k l : Nat} {i j : Int} (h1 : Bd k i) (h2 : Bd l j) : Bd (k + l) (i * j) := by
 unfold Bd; rw [Int.natAbs_mul]; exact a4C h1 h2
theorem Bd.add {k l : Nat} {i j : Int} (h1 : Bd k i) (h2 : Bd l j) : Bd (max k l + 1) (i + j) :=
 Nat.lt_of_le_of_lt (Int.natAbs_add_le i j) (a8A (h1.mono (Nat.le_max_left ..)) (h2.mono (Nat.le_max_right ..)))
theorem Bd.neg {k : Nat} {i : Int} (h1 : Bd k i) : Bd k (-i) := by unfold Bd; rw [Int.natAbs_neg]; exact h1
theorem Bd.sub {k l : Nat} {i j : Int} (h1 : Bd k i) (h2 : Bd l j) : Bd (max k l + 1) (i - j) := by rw [Int.sub_eq_add_neg]; exact h1.add h2.neg
theorem Bd.gcd {k : Nat} {i : Int} {j : Int} (h : Bd k j) (hj : j ≠ 0) : Bd k (Int.gcd i j : Int) := by
 have : Int.gcd i j ≤ j.natAbs := Nat.le_of_dvd (by omega) (Nat.gcd_dvd_right i.natAbs j.natAbs)
 exact Nat.lt_of_le_of_lt this h
theorem Bd.bits {k : Nat} {i : Int} (h : Bd k i) (hk : k ≤ 8000) : o0 i = true := by
 have := T8 (k := 8000) (by decide) (h.mono hk)
 exact decide_eq_true (by omega)
theorem Bd.div {k : Nat} {i : Int} (h : Bd k i) (h0 : i ≠ 0) (hk : k ≤ 8000) : y0 i = true := by
 have := T8 (k := 8000) (by decide) (h.mono hk)
 unfold y0
 rw [decide_eq_true h0, Bool.true_and]
 exact decide_eq_true (by omega)
theorem Sz.num {k : Nat} {p : Rat} (h : Sz k p) : Bd k p.num := h.1
theorem Sz.den {k : Nat} {p : Rat} (h : Sz k p) : Bd k (p.den : Int) := h.2
theorem B5 (p : Rat) : (p.den : Int) ≠ 0 := by have := p.den_nz; omega
theorem a0R (p : Rat) : (0 : Int) < p.den := by have := p.den_nz; omega
theorem S6 (p : Rat) : p = Rat.divInt p.num p.den := (Rat.num_divInt_den p).symm
theorem Sz.mul {k l : Nat} {p q : Rat} (h1 : Sz k p) (h2 : Sz l q) : Sz (k + l) (p * q) := by
 rw [S6 p, S6 q, Rat.divInt_mul_divInt]
 exact Sz.of_divInt (Int.mul_ne_zero (B5 p) (B5 q)) (Bd.mul h1.num h2.num) (Bd.mul h1.den h2.den)
theorem Sz.add {k l : Nat} {p q : Rat} (h1 : Sz k p) (h2 : Sz l q) : Sz (k + l + 1) (p + q) := by
 rw [S6 p, S6 q, Rat.divInt_add_divInt _ _ (B5 p) (B5 q)]
 refine Sz.of_divInt (Int.mul_ne_zero (B5 p) (B5 q)) ?_ (Bd.mono (Bd.mul h1.den h2.den) (by omega))
 have e1 := Bd.mul h1.num h2.den
 have e2 := Bd.mul h2.num h1.den
 exact Bd.mono (Bd.add e1 e2) (by omega)
theorem Sz.neg {k : Nat} {p : Rat} (h : Sz k p) : Sz k (-p) := ⟨by rw [Rat.neg_num, Int.natAbs_neg]; exact h.1, h.2⟩
theorem Sz.lit {k : Nat} {p : Rat} (h : decide (p.num.natAbs < 2 ^ k ∧ p.den < 2 ^ k) = true) : Sz k p := by unfold Sz; exact of_decide_eq_true h
end DL
namespace T
open PySem L2 DL
noncomputable abbrev gT : DT := dB (dOp pNe (dL 3) (dC (.int 0)))
noncomputable abbrev gB : DM := i4 (j4 (dOp r8 (dL 2) (dL 3)) (i5 4)) (i4 (j4 (dV 3) (i5 2)) (j4 (dV 4) (i5 3)))
theorem a5g (a b : Sl) (g r : Int) (x : Sl) (fs : Option FS) : gT ⟨[a, b, .val (.int g), .val (.int r), x], fs⟩ = some (!decide (r = 0), ⟨[a, b, .val (.int g), .val (.int r), x], fs⟩) := by
 simp [dB, dOp, dL, dC, a9t]
theorem a5p (a b : Sl) (g r : Int) (x : Sl) (fs : Option FS) (h : r ≠ 0) : gB ⟨[a, b, .val (.int g), .val (.int r), x], fs⟩ =
  some (.next, ⟨[a, b, .val (.int r), .val (.int (g.fmod r)), .val (.int (g.fmod r))], fs⟩) := by
 simp [i4, B6, j4, dOp, dL, dV, i5, r8, h]
theorem a5r (a b : Sl) (fs : Option FS) (r : Nat) : ∀ (g : Nat) (x : Sl), ∃ y, D2 gT gB ⟨[a, b, .val (.int g), .val (.int r), x], fs⟩ = some (.next, ⟨[a, b, .val (.int (Nat.gcd g r)), .val (.int 0), y], fs⟩) := by
 induction r using Nat.strongRecOn with
 | ind r ih =>
  intro g x
  by_cases h : r = 0
  ·subst h
   refine ⟨x, ?_⟩
   rw [Nat.gcd_zero_right]
   exact a4a (by rw [a5g]; rfl)
  ·have e : ((g : Int).fmod (r : Int)) = ((g % r : Nat) : Int) := by rw [Int.fmod_eq_emod_of_nonneg _ (by omega)]; rfl
   obtain ⟨y, hy⟩ := ih (g % r) (Nat.mod_lt _ (by omega)) r (.val (.int ((g : Int).fmod (r : Int))))
   refine ⟨y, ?_⟩
   have hg : Nat.gcd g r = Nat.gcd r (g % r) := by rw [Nat.gcd_comm g r, Nat.gcd_rec, Nat.gcd_comm]
   rw [hg]
   refine a4H (s1 := ⟨[a, b, .val (.int g), .val (.int r), x], fs⟩) (by rw [a5g, decide_eq_false (by omega)]; rfl) (a5p _ _ _ _ _ _ (by omega)) ?_
   rw [e] at hy ⊢
   exact hy
theorem a1Z (a : Int) : (if a < 0 then -a else a) = ((a.natAbs : Nat) : Int) := by split <;> omega
theorem a2f (a b : Int) (fs : Option FS) : p9 [.int a, .int b] fs = some (.int (Int.gcd a b), fs) := by
 obtain ⟨y, hy⟩ := a5r (.val (.int a)) (.val (.int b)) fs b.natAbs a.natAbs .no
 refine l0 (s := ⟨[.val (.int a), .val (.int b), .val (.int (Int.gcd a b)), .val (.int 0), y], fs⟩) ?_
 show a2h ⟨[.val (.int a), .val (.int b), .no, .no, .no], fs⟩ = _
 unfold a2h
 rw [i6 (s1 := ⟨[.val (.int a), .val (.int b), .val (.int a.natAbs), .no, .no], fs⟩) (by simp [j4, dCB, a6, a8, dL, one, K8, i5, a1Z])]
 rw [i6 (s1 := ⟨[.val (.int a), .val (.int b), .val (.int a.natAbs), .val (.int b.natAbs), .no], fs⟩) (by simp [j4, dCB, a6, a8, dL, one, K8, i5, a1Z])]
 rw [i6 hy]
 exact l3 (by simp [dV, Int.gcd])
theorem a5h (a : Int) : Int.gcd 0 a = a.natAbs := by simp [Int.gcd]
theorem a4o (a b : Int) : Int.gcd ((a.natAbs : Nat) : Int) b = Int.gcd a b := by simp [Int.gcd]
theorem V1 (P : D) (acc x : Int) (x2 : Sl) (r : List D) (fs : Option FS) : v0 (i5 2) (U3 p9) (.int x :: r) ⟨[.val P, .val (.int acc), x2], fs⟩ = v0 (i5 2) (U3 p9) r ⟨[.val P, .val (.int (Int.gcd acc x)), .val (.int x)], fs⟩ := a1D (s1 := ⟨[.val P, .val (.int acc), .val (.int x)], fs⟩) rfl (k5 (l7 rfl (a2f acc x fs)) rfl)
theorem a3S {ds : List D} {g : Int} {x2 : Sl} {fs : Option FS} (h : v0 (i5 2) (U3 p9) ds ⟨[.val (.tup ds), .val (.int 0), .no], fs⟩ = some (.next, ⟨[.val (.tup ds), .val (.int g), x2], fs⟩)) : B1 p9 [.tup ds] fs = some (.int g, fs) := by
 refine l0 (s := ⟨[.val (.tup ds), .val (.int g), x2], fs⟩) ?_
 show a1s p9 ⟨[.val (.tup ds), .no, .no], fs⟩ = _
 unfold a1s
 have lp : G3 (dV 0) (i5 2) (U3 p9) ⟨[.val (.tup ds), .val (.int 0), .no], fs⟩ = some (.next, ⟨[.val (.tup ds), .val (.int g), x2], fs⟩) := h
 rw [i6 (s1 := ⟨[.val (.tup ds), .val (.int 0), .no], fs⟩) (k5 rfl rfl), i6 lp]
 exact l3 rfl
theorem a9q (a b : Int) (fs : Option FS) : B1 p9 [.tup [.int a, .int b]] fs = some (.int (Int.gcd a b), fs) := a3S (x2 := .val (.int b)) (by
 rw [V1, V1, a5h, a4o]
 rfl)
theorem a9V (a b c : Int) (fs : Option FS) : B1 p9 [.tup [.int a, .int b, .int c]] fs = some (.int (Int.gcd (Int.gcd a b : Int) c), fs) := a3S (x2 := .val (.int c)) (by
 rw [V1, V1, V1, a5h, a4o]
 rfl)
theorem F9 {a g c : Int} (hg : g ≠ 0) (e : a = g * c) : a.fdiv g = c := by subst e; exact Int.mul_fdiv_cancel_left c hg
theorem a3P (a b : Int) (hb : b ≠ 0) : let g : Int := if b < 0 then -(Int.gcd a b : Int) else (Int.gcd a b : Int)
  g ≠ 0 ∧ a.fdiv g = (Rat.divInt a b).num ∧ b.fdiv g = ((Rat.divInt a b).den : Int) := by
 intro g
 have g0 : 0 < Int.gcd a b := Int.gcd_pos_of_ne_zero_right a hb
 obtain ⟨c, hc⟩ := Int.gcd_dvd_left a b
 obtain ⟨d, hd⟩ := Int.gcd_dvd_right a b
 have e1 : (Rat.divInt a b).num = if b < 0 then -c else c := by
  rw [Rat.num_divInt, Int.gcd_comm]
  split
  ·rename_i h
   rw [Int.sign_eq_neg_one_of_neg h]
   refine Int.ediv_eq_of_eq_mul_right (by omega) ?_
   grind
  ·rename_i h
   rw [Int.sign_eq_one_of_pos (by omega), Int.one_mul]
   exact Int.ediv_eq_of_eq_mul_right (by omega) hc
 have e2 : ((Rat.divInt a b).den : Int) = if b < 0 then -d else d := by
  rw [Rat.den_divInt, if_neg hb, Int.gcd_comm, Int.natCast_ediv]
  split
  ·refine Int.ediv_eq_of_eq_mul_right (by omega) ?_
   grind
  ·refine Int.ediv_eq_of_eq_mul_right (by omega) ?_
   grind
 rw [e1, e2]
 by_cases h : b < 0
 ·have eg : g = -(Int.gcd a b : Int) := if_pos h
  rw [eg, if_pos h, if_pos h]
  exact ⟨by omega, F9 (by omega) (by grind), F9 (by omega) (by grind)⟩
 ·have eg : g = (Int.gcd a b : Int) := if_neg h
  rw [eg, if_neg h, if_neg h]
  exact ⟨by omega, F9 (by omega) hc, F9 (by omega) hd⟩
theorem a1t {k : Nat} {a b : Int} (hb : b ≠ 0) (h : Bd k b) (hk : k ≤ 8000) : y0 (if b < 0 then -(Int.gcd a b : Int) else (Int.gcd a b : Int)) = true := by
 have g0 : 0 < Int.gcd a b := Int.gcd_pos_of_ne_zero_right a hb
 split
 ·exact (Bd.gcd h hb).neg.div (by omega) hk
 ·exact (Bd.gcd h hb).div (by omega) hk
theorem sz2 : (2 : Nat) ≤ sizeLine := by decide
theorem sz3 : (3 : Nat) ≤ sizeLine := by decide
theorem a9D (a b : D) : atI [a, b] (-1) = some b := W0 [a] b
theorem a6d (a b c : D) : atI [a, b, c] (-1) = some c := W0 [a, b] c
theorem a24 (a b : D) : atI [a, b] 0 = some a := rfl
theorem a3w (a b : D) : atI [a, b] 1 = some b := rfl
theorem a2K (a b c : D) : atI [a, b, c] 0 = some a := rfl
theorem a22 (a b c : D) : atI [a, b, c] 1 = some b := rfl
theorem a28 (a b c : D) : atI [a, b, c] 2 = some c := rfl
noncomputable abbrev FL : DFn := E7 (B1 p9)
noncomputable abbrev FF : DFn := O5 FL
theorem a0t {gg : Int} (dg : y0 gg = true) (fs : Option FS) : ∀ xs : List Int, v8 (fun d => some [.val d, .val (.int gg)]) C0 (dOp v6 (dL 0) (dL 1)) (xs.map .int) fs = some (xs.map (fun x => .int (x.fdiv gg)), fs)
 | [] => rfl
 | x :: r => by
  have e : dOp v6 (dL 0) (dL 1) ⟨[.val (.int x), .val (.int gg)], fs⟩ = some (.int (x.fdiv gg), ⟨[.val (.int x), .val (.int gg)], fs⟩) := b6 rfl rfl (if_pos dg)
  have ih := a0t dg fs r
  rw [List.map_cons, v8, Option.bind_some]
  show ((dOp v6 (dL 0) (dL 1) ⟨[.val (.int x), .val (.int gg)], fs⟩).bind _) = _
  rw [e, Option.bind_some]
  show (v8 _ C0 _ (r.map .int) fs).map _ = _
  rw [ih]
  rfl
theorem a94 {ds : List D} {d g : Int} (h : atI ds (-1) = some (.int d)) (fs : Option FS) : k4 (dB (dOp (k8 (fun i j => decide (i < j))) (dOp pIx (dL 0) (dUn j8 (dC (.int 1)))) (dC (.int 0)))) (j4 (dUn j8 (dL 1)) (i5 1)) k9 ⟨[.val (.tup ds), .val (.int g)], fs⟩ = some (.next, ⟨[.val (.tup ds), .val (.int (if d < 0 then -g else g))], fs⟩) := by
 have t : dB (dOp (k8 (fun i j => decide (i < j))) (dOp pIx (dL 0) (dUn j8 (dC (.int 1)))) (dC (.int 0))) ⟨[.val (.tup ds), .val (.int g)], fs⟩ = some (decide (d < 0), ⟨[.val (.tup ds), .val (.int g)], fs⟩) := n5 (b6 (b6 rfl rfl (show pIx (.tup ds) (.int (-1)) = some (.int d) from h)) rfl rfl)
 by_cases nb : d < 0
 ·rw [decide_eq_true nb] at t
  rw [if_pos nb, E6 t]
  rfl
 ·rw [decide_eq_false nb] at t
  rw [if_neg nb, T1 t]
  rfl
theorem a3A {xs : List Int} {d g : Int} (fs : Option FS) (hl : xs.length ≤ 10) (hd : B1 p9 [.tup (xs.map .int)] fs = some (.int g, fs)) (h : atI (xs.map D.int) (-1) = some (.int d)) (dg : y0 (if d < 0 then -g else g) = true) : FL [.tup (xs.map .int)] fs = some (.tup (xs.map fun x => .int (x.fdiv (if d < 0 then -g else g))), fs) := by
 have nf := a94 (g := g) h fs
 have cd := a0t dg fs xs
 have ll : (xs.map D.int).length ≤ sizeLine := Nat.le_trans (by rw [List.length_map]; exact hl) (show 10 ≤ sizeLine by decide)
 generalize xs.map D.int = ds at *
 generalize (if d < 0 then -g else g) = gg at *
 refine l0 (s := ⟨[.val (.tup ds), .val (.int gg)], fs⟩) ?_
 show a04 (B1 p9) ⟨[.val (.tup ds), .no], fs⟩ = _
 unfold a04
 rw [i6 (s1 := ⟨[.val (.tup ds), .val (.int g)], fs⟩) (k5 (l7 rfl hd) rfl), i6 nf]
 exact l3 (v5 (p := C4) (u3 (T0 (idx := [1]) (ds := ds) (s1 := ⟨[.val (.tup ds), .val (.int gg)], fs⟩) rfl ll cd)) rfl)
theorem b0t {k : Nat} (a b : Int) (fs : Option FS) (hb : b ≠ 0) (h : Bd k b) (hk : k ≤ 8000) : FL [.tup [.int a, .int b]] fs = some (fr (Rat.divInt a b), fs) := by
 obtain ⟨p0, p1, p2⟩ := a3P a b hb
 have e := a3A (xs := [a, b]) (d := b) fs (show 2 ≤ 10 by decide) (a9q a b fs) (a9D _ _) (a1t (a := a) hb h hk)
 unfold fr
 rw [← p1, ← p2]
 exact e
theorem a2D {k : Nat} (a b : Int) (fs : Option FS) (hb : b ≠ 0) (h : Bd k b) (hk : k ≤ 8000) : FF [.int a, .int b] fs = some (fr (Rat.divInt a b), fs) := by
 refine l0 (s := ⟨[.val (.int a), .val (.int b)], fs⟩) ?_
 show a4u FL ⟨[.val (.int a), .val (.int b)], fs⟩ = _
 exact l3 (l7 (i7 (v4 rfl rfl) rfl) (b0t a b fs hb h hk))
theorem a7w (p q : Rat) : p + q = Rat.divInt (p.num * q.den + q.num * p.den) (p.den * q.den) := by
 rw [Rat.add_def', ← Rat.divInt_ofNat]; rfl
theorem a3B (p q : Rat) : p * q = Rat.divInt (p.num * q.num) (p.den * q.den) := by
 rw [Rat.mul_def', ← Rat.divInt_ofNat]; rfl
theorem X7 (p q : Rat) : (p.den : Int) * q.den ≠ 0 := Int.mul_ne_zero (B5 p) (B5 q)
noncomputable abbrev FP : DFn := Z7 p9
noncomputable abbrev FT : DFn := a0W FF
theorem a70 {k l : Nat} (p q : Rat) (fs : Option FS) (h1 : Sz k p) (h2 : Sz l q) (hk : k + l ≤ 8000) : FT [fr p, fr q] fs = some (fr (p * q), fs) := by
 have b1 := h1.num.bits (by omega)
 have b2 := h1.den.bits (by omega)
 have b3 := h2.num.bits (by omega)
 have b4 := h2.den.bits (by omega)
 have e := a2D (p.num * q.num) (p.den * q.den) fs (X7 p q) (Bd.mul h1.den h2.den) hk
 rw [← a3B] at e
 refine l0 (s := ⟨[.val (fr p), .val (fr q)], fs⟩) ?_
 show a0p FF ⟨[.val (fr p), .val (fr q)], fs⟩ = _
 simp [a0p, i4, B6, j4, dOp, dUn, dC, dL, dV, i5, k4, dB, j6, c9, a6, a8, c7, k9, dCB, one, l6, l5, dIf, v3, dOr, A8, t5, E1, y9, pIx, n4, t9, j8, k8, l4, t3, m5, t7, y8, dTr, C7, fr, a24, a3w, k0, b1, b2, b3, b4, e]
theorem a7G (p q : Rat) : let g := Nat.gcd p.den q.den
  let top := p.num * ((q.den / g : Nat) : Int) + q.num * ((p.den / g : Nat) : Int)
  let tk := Nat.gcd top.natAbs g
  0 < g ∧ 0 < tk ∧ (p + q).num = top / (tk : Int) ∧ (p + q).den = p.den / g * (q.den / tk) ∧ tk ≤ g ∧ g ≤ q.den := by
 intro g top tk
 have g0 : 0 < g := Nat.gcd_pos_of_pos_left _ (by have := p.den_nz; omega)
 have t0 : 0 < tk := Nat.gcd_pos_of_pos_right _ g0
 obtain ⟨a, ha⟩ := Nat.gcd_dvd_left p.den q.den
 obtain ⟨b, hb⟩ := Nat.gcd_dvd_right p.den q.den
 have ea : p.den / g = a := Nat.div_eq_of_eq_mul_right g0 ha
 have eb : q.den / g = b := Nat.div_eq_of_eq_mul_right g0 hb
 have aux : top.natAbs.gcd g = top.natAbs.gcd (p.den / g * q.den) := Rat.add.aux p q rfl rfl rfl
 have a0 : 0 < a := by
  rcases Nat.eq_zero_or_pos a with z | z
  ·rw [z, Nat.mul_zero] at ha; exact absurd ha p.den_nz
  ·exact z
 have dn : p.den / g * q.den ≠ 0 := by
  rw [ea]; exact Nat.mul_ne_zero (by omega) q.den_nz
 have ev : p + q = mkRat top (p.den / g * q.den) := by
  rw [Rat.add_def', Rat.mkRat_eq_iff (Nat.mul_ne_zero p.den_nz q.den_nz) dn]
  show (p.num * q.den + q.num * p.den) * ((p.den / g * q.den : Nat) : Int) = (p.num * ((q.den / g : Nat) : Int) + q.num * ((p.den / g : Nat) : Int)) * ((p.den * q.den : Nat) : Int)
  rw [ea, eb]
  have ha' : (p.den : Int) = (g : Int) * a := by exact_mod_cast ha
  have hb' : (q.den : Int) = (g : Int) * b := by exact_mod_cast hb
  push_cast
  rw [ha', hb']
  grind
 have tkd : tk = Nat.gcd (p.den / g * q.den) top.natAbs := by rw [Nat.gcd_comm]; exact aux
 refine ⟨g0, t0, ?_, ?_, Nat.le_of_dvd g0 (Nat.gcd_dvd_right ..), Nat.le_of_dvd (by have := q.den_nz; omega) (Nat.gcd_dvd_right ..)⟩
 ·rw [ev, Rat.num_mkRat, if_neg dn, ← tkd]
 ·rw [ev, Rat.den_mkRat, if_neg dn, ← tkd]
  exact Nat.mul_div_assoc _ (Nat.dvd_trans (Nat.gcd_dvd_right _ _) (Nat.gcd_dvd_right _ _))
theorem a3R (a : Int) (n : Nat) : a.fdiv (n : Int) = a / (n : Int) := Int.fdiv_eq_ediv_of_nonneg a (by omega)
theorem a5Y (a n : Nat) : (a : Int).fdiv (n : Int) = ((a / n : Nat) : Int) := by rw [a3R]; rfl
theorem a3D {k l : Nat} (p q : Rat) (fs : Option FS) (h1 : Sz k p) (h2 : Sz l q) (hk : k + l ≤ 8000) : FP [fr p, fr q] fs = some (fr (p + q), fs) := by
 obtain ⟨g0, t0, e1, e2, tg, gq⟩ := a7G p q
 have b1 := h1.num.bits (by omega)
 have b3 := h2.num.bits (by omega)
 have gI : ((Int.gcd (p.den : Int) (q.den : Int) : Nat)) = Nat.gcd p.den q.den := rfl
 have bdd : ∀ n : Nat, n ≤ q.den → Bd l (n : Int) := fun n hn => Nat.lt_of_le_of_lt hn h2.2
 have dg : y0 ((Nat.gcd p.den q.den : Nat) : Int) = true := (bdd _ gq).div (by omega) (by omega)
 have dt := (bdd _ (Nat.le_trans tg gq)).div (by omega) (by omega)
 have c1 : o0 ((q.den / Nat.gcd p.den q.den : Nat) : Int) = true := (bdd _ (Nat.div_le_self ..)).bits (by omega)
 have bpd : Bd k ((p.den / Nat.gcd p.den q.den : Nat) : Int) := Nat.lt_of_le_of_lt (Nat.div_le_self ..) h1.2
 have c2 := bpd.bits (by omega)
 generalize hg : Nat.gcd p.den q.den = g at *
 generalize ht : p.num * ((q.den / g : Nat) : Int) + q.num * ((p.den / g : Nat) : Int) = top at *
 have gI2 : Int.gcd top (g : Int) = Nat.gcd top.natAbs g := rfl
 generalize htk : Nat.gcd top.natAbs g = tk at *
 have c3 : o0 ((q.den / tk : Nat) : Int) = true := (bdd _ (Nat.div_le_self ..)).bits (by omega)
 have hmX9 : ∀ {a b : Int}, o0 a = true → o0 b = true → k0 (.int a) (.int b) = some (.int (a * b)) := fun h1 h2 => if_pos (by rw [h1, h2]; rfl)
 have dX : ∀ (a n : Nat), y0 (n : Int) = true → v6 (.int (a : Int)) (.int (n : Int)) = some (.int ((a / n : Nat) : Int)) := fun a n h => (if_pos h).trans (by rw [a5Y])
 have d1 : p9 [.int (p.den : Int), .int (q.den : Int)] fs = some (.int (g : Int), fs) := (a2f _ _ fs).trans (by rw [gI])
 have d2 : p9 [.int top, .int (g : Int)] fs = some (.int (tk : Int), fs) := (a2f _ _ fs).trans (by rw [gI2])
 have ef : fr (p + q) = .tup [.int (top / (tk : Int)), .int (((p.den / g : Nat) : Int) * ((q.den / tk : Nat) : Int))] := by unfold fr; rw [e1, e2, Int.natCast_mul]
 refine l0 (s := ⟨[.val (fr p), .val (fr q), .val (.int g), .val (.int top), .val (.int tk)], fs⟩) ?_
 show a1g p9 ⟨[.val (fr p), .val (fr q), .no, .no, .no], fs⟩ = _
 unfold a1g
 rw [i6 (s1 := ⟨[.val (fr p), .val (fr q), .val (.int g), .no, .no], fs⟩) (k5 (l7 (i7 (b6 rfl rfl rfl) (i7 (b6 rfl rfl rfl) rfl)) d1) rfl),
  i6 (s1 := ⟨[.val (fr p), .val (fr q), .val (.int g), .val (.int top), .no], fs⟩) (k5 (b6 (b6 (b6 rfl rfl rfl) (b6 (b6 rfl rfl rfl) rfl (dX _ _ dg)) (hmX9 b1 c1)) (b6 (b6 rfl rfl rfl) (b6 (b6 rfl rfl rfl) rfl (dX _ _ dg)) (hmX9 b3 c2)) (show some (D.int _) = some (.int top) by rw [← ht])) rfl),
  i6 (s1 := ⟨[.val (fr p), .val (fr q), .val (.int g), .val (.int top), .val (.int tk)], fs⟩) (k5 (l7 (i7 rfl (i7 rfl rfl)) d2) rfl), ef]
 exact l3 (v4 (b6 rfl rfl ((if_pos dt).trans (by rw [a3R]))) (b6 (b6 (b6 rfl rfl rfl) rfl (dX _ _ dg)) (b6 (b6 rfl rfl rfl) rfl (dX _ _ dt)) (hmX9 c2 c3)))
theorem a7x (a : Int) {b : Int} (h : b ≠ 0) : r8 (.int a) (.int b) = some (.int (a.fmod b)) := by simp [r8, h]
theorem o5 {a b : Int} (h1 : o0 a = true) (h2 : o0 b = true) : k0 (.int a) (.int b) = some (.int (a * b)) := by simp [k0, h1, h2]
theorem D0 {α : Type} {xs : List α} {r : Int} (h0 : 0 ≤ r) (h1 : r < xs.length) : ∃ x, x ∈ xs ∧ atI xs r = some x := by
 refine ⟨xs[r.toNat]'(by omega), List.getElem_mem _, ?_⟩
 rw [a0w h0 h1, List.getElem?_eq_getElem]
end T
namespace DL
open PySem L2
noncomputable abbrev Pt := Rat × Rat
noncomputable def pL (a : Pt) : Int := ((Nat.lcm a.1.den a.2.den : Nat) : Int)
noncomputable def pX (a : Pt) : Int := a.1.num * ((Nat.lcm a.1.den a.2.den / a.1.den : Nat) : Int)
noncomputable def pY (a : Pt) : Int := a.2.num * ((Nat.lcm a.1.den a.2.den / a.2.den : Nat) : Int)
noncomputable def pt (a : Pt) : D := .tup [.int (pX a), .int (pY a), .int (pL a)]
theorem lcm_pos (p q : Rat) : 0 < Nat.lcm p.den q.den := Nat.lcm_pos (by have := p.den_nz; omega) (by have := q.den_nz; omega)
theorem a8f (a : Pt) : 0 < pL a := by have := lcm_pos a.1 a.2; unfold pL; omega
theorem R9 (a : Pt) : pL a ≠ 0 := by have := a8f a; omega
theorem T6 (a : Pt) : (pL a : Rat) ≠ 0 := fun h => R9 a (Rat.intCast_eq_zero_iff.mp h)
theorem a0B (p : Rat) : (p.num : Rat) = p * ((p.den : Int) : Rat) := by
 have e := Rat.num_divInt_den p
 rw [Rat.divInt_eq_div] at e
 have hd : ((p.den : Int) : Rat) ≠ 0 := fun h => B5 p (Rat.intCast_eq_zero_iff.mp h)
 have : (p.num : Rat) / ((p.den : Int) : Rat) * ((p.den : Int) : Rat) = (p.num : Rat) := Rat.div_mul_cancel hd
 rw [e] at this
 exact this.symm
theorem T4 (a : Pt) : (pX a : Rat) = a.1 * (pL a : Rat) := by
 unfold pX pL
 obtain ⟨c, hc⟩ := Nat.dvd_lcm_left a.1.den a.2.den
 have hd := a.1.den_nz
 have e : Nat.lcm a.1.den a.2.den / a.1.den = c := Nat.div_eq_of_eq_mul_right (by omega) hc
 rw [e, hc, Int.natCast_mul, Rat.intCast_mul, Rat.intCast_mul, a0B]
 grind
theorem U1 (a : Pt) : (pY a : Rat) = a.2 * (pL a : Rat) := by
 unfold pY pL
 obtain ⟨c, hc⟩ := Nat.dvd_lcm_right a.1.den a.2.den
 have hd := a.2.den_nz
 have e : Nat.lcm a.1.den a.2.den / a.2.den = c := Nat.div_eq_of_eq_mul_right (by omega) hc
 rw [e, hc, Int.natCast_mul, Rat.intCast_mul, Rat.intCast_mul, a0B]
 grind
theorem a3J {x d : Int} {p : Rat} (hd : 0 < d) (h : (x : Rat) = p * (d : Rat)) : ∃ c : Int, d = p.den * c ∧ x = p.num * c := by
 have h1 : x * p.den = p.num * d := by
  have e := a0B p
  have : ((x * p.den : Int) : Rat) = ((p.num * d : Int) : Rat) := by
   rw [Rat.intCast_mul, Rat.intCast_mul, h, e]; grind
  exact Rat.intCast_inj.mp this
 have dv : (p.den : Int) ∣ p.num * d := ⟨x, by rw [← h1, Int.mul_comm]⟩
 have dv2 : p.den ∣ p.num.natAbs * d.natAbs := by
  have := Int.natAbs_dvd_natAbs.mpr dv
  rwa [Int.natAbs_mul, Int.natAbs_natCast] at this
 have dv3 : p.den ∣ d.natAbs := Nat.Coprime.dvd_of_dvd_mul_left (Nat.Coprime.symm p.reduced) dv2
 obtain ⟨c, hc⟩ : (p.den : Int) ∣ d := Int.dvd_natAbs.mp (Int.ofNat_dvd.mpr dv3)
 refine ⟨c, hc, ?_⟩
 have hp := a0R p
 have : (p.den : Int) * x = p.den * (p.num * c) := by rw [Int.mul_comm, h1, hc]; grind
 exact Int.eq_of_mul_eq_mul_left (by omega) this
theorem a0z {x y d : Int} {a : Pt} (hd : 0 < d) (hg : Int.gcd (Int.gcd x y : Int) d = 1) (hx : (x : Rat) = a.1 * (d : Rat)) (hy : (y : Rat) = a.2 * (d : Rat)) : x = pX a ∧ y = pY a ∧ d = pL a := by
 obtain ⟨c1, e1, f1⟩ := a3J hd hx
 obtain ⟨c2, e2, f2⟩ := a3J hd hy
 obtain ⟨D, rfl⟩ := Int.eq_ofNat_of_zero_le (show 0 ≤ d by omega)
 have dl : Nat.lcm a.1.den a.2.den ∣ D := Nat.lcm_dvd (Int.ofNat_dvd.mp ⟨c1, e1⟩) (Int.ofNat_dvd.mp ⟨c2, e2⟩)
 obtain ⟨m, hm⟩ := dl
 have key : ∀ z : Int, ∀ r : Rat, (z : Rat) = r * ((D : Int) : Rat) → ∀ w : Int, (w : Rat) = r * (pL a : Rat) → z = w * m := by
  intro z r h1 w h2
  have : (z : Rat) = ((w * m : Int) : Rat) := by
   rw [h1, Rat.intCast_mul, h2, hm]
   have : (((Nat.lcm a.1.den a.2.den * m : Nat) : Int) : Rat) = (pL a : Rat) * ((m : Int) : Rat) := by
    rw [Int.natCast_mul, Rat.intCast_mul]; rfl
   rw [this]; grind
  exact Rat.intCast_inj.mp this
 have kx := key x a.1 hx (pX a) (T4 a)
 have ky := key y a.2 hy (pY a) (U1 a)
 have kd : (D : Int) = pL a * m := by rw [hm, Int.natCast_mul]; rfl
 have m1 : (m : Int) ∣ 1 := by
  have h : (m : Int) ∣ (Int.gcd (Int.gcd x y : Int) (D : Int) : Int) := by
   refine Int.dvd_coe_gcd (Int.dvd_coe_gcd ?_ ?_) ?_
   ·exact ⟨pX a, by rw [kx, Int.mul_comm]⟩
   ·exact ⟨pY a, by rw [ky, Int.mul_comm]⟩
   ·exact ⟨pL a, by rw [kd, Int.mul_comm]⟩
  rwa [hg] at h
 have m2 : m = 1 := Nat.eq_one_of_dvd_one (Int.ofNat_dvd.mp m1)
 subst m2
 exact ⟨by rw [kx]; simp, by rw [ky]; simp, by rw [kd]; simp⟩
structure Ps (k : Nat) (a : Pt) : Prop where
 x : Bd k (pX a)
 y : Bd k (pY a)
 l : Bd k (pL a)
theorem Ps.of {k l : Nat} {a : Pt} (h1 : Sz k a.1) (h2 : Sz l a.2) : Ps (k + l) a := by
 have hl : Nat.lcm a.1.den a.2.den ≤ a.1.den * a.2.den := Nat.le_of_dvd (Nat.mul_pos (by have := a.1.den_nz; omega) (by have := a.2.den_nz; omega)) (Nat.lcm_dvd_mul ..)
 have b := a4C h1.2 h2.2
 have dl : Nat.lcm a.1.den a.2.den / a.1.den ≤ a.2.den := by
  rw [Nat.div_le_iff_le_mul_add_pred (by have := a.1.den_nz; omega)]; omega
 have dr : Nat.lcm a.1.den a.2.den / a.2.den ≤ a.1.den := by
  rw [Nat.div_le_iff_le_mul_add_pred (by have := a.2.den_nz; omega), Nat.mul_comm a.2.den]; omega
 refine ⟨?_, ?_, ?_⟩
 ·exact Bd.mul h1.num (show Bd l ((_ : Nat) : Int) from Nat.lt_of_le_of_lt dl h2.2)
 ·have := Bd.mul h2.num (show Bd k ((_ : Nat) : Int) from Nat.lt_of_le_of_lt dr h1.2)
  rw [Nat.add_comm]; exact this
 ·exact Nat.lt_of_le_of_lt hl b
end DL
namespace T
open PySem L2 DL
theorem a2U (x y d : Int) (hd : d ≠ 0) : let G : Nat := Int.gcd (Int.gcd x y : Int) d
  let g : Int := if d < 0 then -(G : Int) else (G : Int)
  g ≠ 0 ∧ x.fdiv g = pX (Rat.divInt x d, Rat.divInt y d) ∧ y.fdiv g = pY (Rat.divInt x d, Rat.divInt y d) ∧ d.fdiv g = pL (Rat.divInt x d, Rat.divInt y d) := by
 intro G g
 have g0 : 0 < G := Int.gcd_pos_of_ne_zero_right _ hd
 obtain ⟨d', ed⟩ := Int.gcd_dvd_right (Int.gcd x y : Int) d
 have h1 := Int.gcd_dvd_left (Int.gcd x y : Int) d
 obtain ⟨x', ex⟩ := Int.dvd_trans h1 (Int.gcd_dvd_left ..)
 obtain ⟨y', ey⟩ := Int.dvd_trans h1 (Int.gcd_dvd_right ..)
 replace ed : d = (G : Int) * d' := ed
 replace ex : x = (G : Int) * x' := ex
 replace ey : y = (G : Int) * y' := ey
 have cop : Int.gcd (Int.gcd x' y' : Int) d' = 1 := by
  have e1 : Int.gcd x y = G * Int.gcd x' y' := by
   have := Int.gcd_mul_left (m := (G : Int)) (n := x') (k := y')
   rw [← ex, ← ey] at this; exact this
  have e2 : Int.gcd (Int.gcd x y : Int) d = G * Int.gcd (Int.gcd x' y' : Int) d' := by
   have := Int.gcd_mul_left (m := (G : Int)) (n := (Int.gcd x' y' : Int)) (k := d')
   rw [← ed, ← Int.natCast_mul, ← e1] at this; exact this
  have e3 : G * Int.gcd (Int.gcd x' y' : Int) d' = G * 1 := by rw [← e2, Nat.mul_one]
  exact Nat.eq_of_mul_eq_mul_left g0 e3
 have hdr : (d : Rat) ≠ 0 := fun h => hd (Rat.intCast_eq_zero_iff.mp h)
 have hGr : ((G : Int) : Rat) ≠ 0 := fun h => by have := Rat.intCast_eq_zero_iff.mp h; omega
 have vx : ∀ z z' : Int, z = (G : Int) * z' → (z' : Rat) = Rat.divInt z d * (d' : Rat) := fun z z' e => by
  rw [Rat.divInt_eq_div]
  have ed' : (d : Rat) = ((G : Int) : Rat) * (d' : Rat) := by rw [← Rat.intCast_mul]; exact congrArg _ ed
  have ez' : (z : Rat) = ((G : Int) : Rat) * (z' : Rat) := by rw [← Rat.intCast_mul]; exact congrArg _ e
  have hd'r : (d' : Rat) ≠ 0 := fun h => hdr (by rw [ed', h]; grind)
  rw [ez', ed']
  grind
 by_cases h : d < 0
 ·have eg : g = -(G : Int) := if_pos h
  have dn : 0 < -d' := by
   rcases Int.lt_or_le d' 0 with z | z
   ·omega
   ·have : 0 ≤ (G : Int) * d' := Int.mul_nonneg (by omega) z
    omega
  obtain ⟨q1, q2, q3⟩ := a0z (x := -x') (y := -y') (d := -d') (a := (Rat.divInt x d, Rat.divInt y d)) dn (by
   have : Int.gcd (-x') (-y') = Int.gcd x' y' := by simp [Int.gcd]
   rw [this]
   have : Int.gcd (Int.gcd x' y' : Int) (-d') = Int.gcd (Int.gcd x' y' : Int) d' := by simp [Int.gcd]
   rw [this]; exact cop) (by rw [Rat.intCast_neg, Rat.intCast_neg, vx x x' ex]; grind) (by rw [Rat.intCast_neg, Rat.intCast_neg, vx y y' ey]; grind)
  rw [eg, ← q1, ← q2, ← q3]
  exact ⟨by omega, F9 (by omega) (by grind), F9 (by omega) (by grind), F9 (by omega) (by grind)⟩
 ·have eg : g = (G : Int) := if_neg h
  have dp : 0 < d' := by
   rcases Int.lt_or_le 0 d' with z | z
   ·exact z
   ·have : (G : Int) * d' ≤ G * 0 := Int.mul_le_mul_of_nonneg_left z (by omega)
    omega
  obtain ⟨q1, q2, q3⟩ := a0z (x := x') (y := y') (d := d') (a := (Rat.divInt x d, Rat.divInt y d)) dp cop (vx x x' ex) (vx y y' ey)
  rw [eg, ← q1, ← q2, ← q3]
  exact ⟨by omega, F9 (by omega) ex, F9 (by omega) ey, F9 (by omega) ed⟩
theorem a43 {k : Nat} {x y d : Int} (hd : d ≠ 0) (h : Bd k d) (hk : k ≤ 8000) : y0 (if d < 0 then -(Int.gcd (Int.gcd x y : Int) d : Int) else (Int.gcd (Int.gcd x y : Int) d : Int)) = true := a1t (a := (Int.gcd x y : Int)) hd h hk
theorem a4m {k : Nat} (x y d : Int) (fs : Option FS) (hd : d ≠ 0) (h : Bd k d) (hk : k ≤ 8000) : FL [.tup [.int x, .int y, .int d]] fs = some (pt (Rat.divInt x d, Rat.divInt y d), fs) := by
 obtain ⟨p0, p1, p2, p3⟩ := a2U x y d hd
 have e := a3A (xs := [x, y, d]) (d := d) fs (show 3 ≤ 10 by decide) (a9V x y d fs) (a6d _ _ _) (a43 (x := x) (y := y) hd h hk)
 unfold pt
 rw [← p1, ← p2, ← p3]
 exact e
theorem a4e (p q : Rat) : Rat.divInt (p.num * q.den) (p.den * q.den) = p := by
 rw [Rat.divInt_mul_right (B5 q), Rat.num_divInt_den]
theorem a5d (p q : Rat) : Rat.divInt (q.num * p.den) (p.den * q.den) = q := by
 rw [Int.mul_comm (p.den : Int), Rat.divInt_mul_right (B5 p), Rat.num_divInt_den]
theorem b0d {k l : Nat} (p q : Rat) (fs : Option FS) (h1 : Sz k p) (h2 : Sz l q) (hk : k + l ≤ 8000) : G9 FL [fr p, fr q] fs = some (pt (p, q), fs) := by
 have b1 := h1.num.bits (by omega)
 have b2 := h1.den.bits (by omega)
 have b3 := h2.num.bits (by omega)
 have b4 := h2.den.bits (by omega)
 have e := a4m (p.num * q.den) (q.num * p.den) (p.den * q.den) fs (X7 p q) (Bd.mul h1.den h2.den) hk
 rw [a4e, a5d] at e
 refine l0 (s := ⟨[.val (fr p), .val (fr q)], fs⟩) ?_
 show a1e FL ⟨[.val (fr p), .val (fr q)], fs⟩ = _
 simp [a1e, i4, B6, j4, dOp, dUn, dC, dL, dV, i5, k4, dB, j6, c9, a6, a8, c7, k9, dCB, one, l6, l5, dIf, v3, dOr, A8, t5, E1, y9, pIx, n4, t9, j8, k8, l4, t3, m5, t7, y8, dTr, C7, fr, a24, a3w, k0, b1, b2, b3, b4, sz3, e]
theorem a4k (a : Pt) : Rat.divInt (pX a) (pL a) = a.1 := by
 rw [Rat.divInt_eq_div, T4, Rat.mul_div_cancel (T6 a)]
theorem a5f (a : Pt) : Rat.divInt (pY a) (pL a) = a.2 := by
 rw [Rat.divInt_eq_div, U1, Rat.mul_div_cancel (T6 a)]
theorem a6I {k : Nat} (a : Pt) (fs : Option FS) (h : Ps k a) (hk : k ≤ 8000) : G8 FF [pt a] fs = some (fr a.1, fs) := by
 have e := a2D (pX a) (pL a) fs (R9 a) h.l hk
 rw [a4k] at e
 refine l0 (s := ⟨[.val (pt a)], fs⟩) ?_
 show a1F FF ⟨[.val (pt a)], fs⟩ = _
 simp [a1F, i4, B6, j4, dOp, dUn, dC, dL, dV, i5, k4, dB, j6, c9, a6, a8, c7, k9, dCB, one, l6, l5, dIf, v3, dOr, A8, t5, E1, y9, pIx, n4, t9, j8, k8, l4, t3, m5, t7, y8, dTr, C7, pt, a2K, a22, a28, e]
theorem pup {k : Nat} (a : Pt) (fs : Option FS) (h : Ps k a) (hk : k ≤ 8000) : J8 FF [pt a] fs = some (fr a.2, fs) := by
 have e := a2D (pY a) (pL a) fs (R9 a) h.l hk
 rw [a5f] at e
 refine l0 (s := ⟨[.val (pt a)], fs⟩) ?_
 show a2G FF ⟨[.val (pt a)], fs⟩ = _
 simp [a2G, i4, B6, j4, dOp, dUn, dC, dL, dV, i5, k4, dB, j6, c9, a6, a8, c7, k9, dCB, one, l6, l5, dIf, v3, dOr, A8, t5, E1, y9, pIx, n4, t9, j8, k8, l4, t3, m5, t7, y8, dTr, C7, pt, a2K, a22, a28, e]
end T
namespace DL
noncomputable def dsq (a b : Pt) : Rat := (a.1 - b.1) * (a.1 - b.1) + (a.2 - b.2) * (a.2 - b.2)
end DL
namespace DL
open PySem L2
theorem Z3 {t : D → DS → Option DS} {b : DM} (P : Nat → DS → Prop) : ∀ (ds : List D) (n : Nat) (s : DS), P n s → (∀ i d s, ds[i]? = some d → P (n + i) s → ∃ s1 s2, t d s = some s1 ∧ (b s1 = some (.next, s2) ∨ b s1 = some (.cont, s2)) ∧ P (n + i + 1) s2) →
  ∃ s', v0 t b ds s = some (.next, s') ∧ P (n + ds.length) s'
 | [], n, s, h, _ => ⟨s, rfl, h⟩
 | d :: r, n, s, h, k => by
  obtain ⟨s1, s2, e1, e2, h2⟩ := k 0 d s rfl h
  obtain ⟨s', e3, h3⟩ := Z3 P r (n + 1) s2 h2 (fun i d' s hd hp => by
   have := k (i + 1) d' s (by simpa using hd) (by rwa [show n + 1 + i = n + (i + 1) by omega] at hp)
   rwa [show n + (i + 1) + 1 = n + 1 + i + 1 by omega] at this)
  refine ⟨s', ?_, by rw [List.length_cons, show n + (r.length + 1) = n + 1 + r.length by omega]; exact h3⟩
  rw [v0, e1]
  rcases e2 with e2 | e2 <;> simp [e2, e3]
theorem a2p {f : DA} {t : D → DS → Option DS} {b : DM} {s s1 : DS} {xs ds : List D} (h1 : f s = some (xs, s1)) (h2 : S7 xs = some ds) : Q0 f t b s = v0 t b ds s1 := by
 simp only [Q0, h1, Option.bind_some, h2]
theorem a9y {f : DE} {t : D → DS → Option DS} {b : DM} {s s1 : DS} {ds : List D} (h1 : f s = some (.lst ds, s1)) : G3 f t b s = v0 t b ds s1 := by
 simp only [G3, h1, Option.bind_some]
theorem a0y {f : DE} {t : D → DS → Option DS} {b : DM} {s s1 : DS} {ds : List D} (h1 : f s = some (.tup ds, s1)) : G3 f t b s = v0 t b ds s1 := by
 simp only [G3, h1, Option.bind_some]
theorem a07 {lo : Int} {n i : Nat} {d : D} (h : (ups lo n)[i]? = some d) : d = .int (lo + i) ∧ i < n := by
 have hi : i < n := by have := (List.getElem?_eq_some_iff.mp h).1; rwa [V5] at this
 rw [a3F hi] at h
 cases h
 exact ⟨rfl, hi⟩
theorem a1X {n : Nat} (h : n < 2 ^ 30) : S7 [.int (n : Int)] = some (ups 0 n) := by
 have : -(2 ^ 62) ≤ (n : Int) ∧ (n : Int) < 2 ^ 62 := by omega
 simp only [S7, if_pos this, Int.toNat_natCast]
end DL
namespace T
open PySem L2 DL
structure PtS (k : Nat) (a : Pt) : Prop where
 x : Sz k a.1
 y : Sz k a.2
theorem PtS.ps {k : Nat} {a : Pt} (h : PtS k a) : Ps (k + k) a := Ps.of h.x h.y
theorem PtS.mono {k l : Nat} {a : Pt} (h : PtS k a) (hl : k ≤ l) : PtS l a := ⟨h.x.mono hl, h.y.mono hl⟩
noncomputable def nx (n g : Int) : Int := (g + n / g) / 2
end T
namespace DL
open PySem L2
structure Ok (k n : Nat) (d : D) : Prop where
 pl : d.plain = true
 sh : d.py.showable = true
 la : d.py.canLay0 = true
 dp : d.py.depth ≤ k
 le : d.py.leavesShort 1921 = true
 bu : d.py.bulk ≤ n
structure OkL (k n : Nat) (ds : List D) : Prop where
 pl : D.plains ds = true
 sh : PyData.showableAll (D.pys ds) = true
 la : PyData.canLayAll0 (D.pys ds) = true
 dp : PyData.depthAll (D.pys ds) ≤ k
 le : PyData.leavesShortAll 1921 (D.pys ds) = true
 bu : PyData.bulkAll (D.pys ds) ≤ n
theorem Ok.mono {k n k' n' : Nat} {d : D} (h : Ok k n d) (hk : k ≤ k') (hn : n ≤ n') : Ok k' n' d := ⟨h.pl, h.sh, h.la, Nat.le_trans h.dp hk, h.le, Nat.le_trans h.bu hn⟩
theorem OkL.mono {k n k' n' : Nat} {ds : List D} (h : OkL k n ds) (hk : k ≤ k') (hn : n ≤ n') : OkL k' n' ds := ⟨h.pl, h.sh, h.la, Nat.le_trans h.dp hk, h.le, Nat.le_trans h.bu hn⟩
theorem Ok.bl (b : Bool) : Ok 0 0 (.bl b) := ⟨rfl, rfl, rfl, Nat.le_refl _, rfl, Nat.le_refl _⟩
theorem Ok.int {i : Int} (h : Bd 1920 i) : Ok 0 0 (.int i) := by
 have hl : i.natAbs.log2 < 1920 := T8 (by decide) h
 refine ⟨rfl, ?_, rfl, Nat.le_refl _, ?_, Nat.le_refl _⟩
 ·simp only [D.py, PyData.showable]; exact decide_eq_true hl
 ·simp only [D.py, PyData.leavesShort, PyData.shown]
  exact decide_eq_true (a8n hl)
theorem Ok.str {x : Str} (h : PyData.strOk x = true) : Ok 0 x.length (.str x) := by
 refine ⟨rfl, rfl, ?_, Nat.le_refl _, ?_, Nat.le_refl _⟩
 ·simp only [D.py, PyData.canLay0]; exact h
 ·exact PyData.leavesShort_of_canLay0 1921 (.str x) (by simp only [PyData.canLay0]; exact h) rfl
theorem OkL.nil : OkL 0 0 [] := ⟨rfl, rfl, rfl, Nat.le_refl _, rfl, Nat.le_refl _⟩
theorem OkL.cons {k l n m : Nat} {d : D} {ds : List D} (h : Ok k n d) (hs : OkL l m ds) : OkL (max k l) (n + 1 + m) (d :: ds) := by
 refine ⟨?_, ?_, ?_, ?_, ?_, ?_⟩
 ·simp only [D.plains, h.pl, hs.pl, Bool.and_self]
 ·simp only [D.pys, PyData.showableAll, h.sh, hs.sh, Bool.and_self]
 ·simp only [D.pys, PyData.canLayAll0, h.la, hs.la, Bool.and_self]
 ·have := h.dp; have := hs.dp; simp only [D.pys, PyData.depthAll]; omega
 ·simp only [D.pys, PyData.leavesShortAll, h.le, hs.le, Bool.and_self]
 ·have := h.bu; have := hs.bu; simp only [D.pys, PyData.bulkAll]; omega
theorem Ok.tup {k n : Nat} {ds : List D} (h : OkL k n ds) : Ok (k + 1) n (.tup ds) := by
 refine ⟨?_, ?_, ?_, ?_, ?_, ?_⟩
 ·simp only [D.plain, h.pl]
 ·simp only [D.py, PyData.showable, h.sh]
 ·simp only [D.py, PyData.canLay0, h.la]
 ·have := h.dp; simp only [D.py, PyData.depth]; omega
 ·simp only [D.py, PyData.leavesShort, h.le]
 ·have := h.bu; simp only [D.py, PyData.bulk]; omega
theorem Ok.lst {k n : Nat} {ds : List D} (h : OkL k n ds) : Ok (k + 1) n (.lst ds) := by
 refine ⟨?_, ?_, ?_, ?_, ?_, ?_⟩
 ·simp only [D.plain, h.pl]
 ·simp only [D.py, PyData.showable, h.sh]
 ·simp only [D.py, PyData.canLay0, h.la]
 ·have := h.dp; simp only [D.py, PyData.depth]; omega
 ·simp only [D.py, PyData.leavesShort, h.le]
 ·have := h.bu; simp only [D.py, PyData.bulk]; omega
theorem OkL.all {k n : Nat} : ∀ {ds : List D}, (∀ d ∈ ds, Ok k n d) → OkL k (ds.length * (n + 1)) ds
 | [], _ => OkL.nil.mono (by omega) (by omega)
 | d :: r, h => by
  have := (OkL.cons (h d (List.mem_cons_self ..)) (OkL.all (ds := r) fun x hx => h x (List.mem_cons_of_mem _ hx)))
  refine this.mono (by omega) ?_
  rw [List.length_cons, Nat.add_mul, Nat.one_mul]; omega
theorem Ok.show {k n : Nat} {d : D} (h : Ok k n d) (hk : k ≤ 64 := by decide) (hn : n ≤ 8000 := by decide) : K0 d = true := by
 have e := PyData.shown_le_bulk 1921 (by decide) d.py h.le
 have e2 : (1921 + 2) * d.py.bulk ≤ 1923 * 8000 := Nat.mul_le_mul (by decide) (Nat.le_trans h.bu hn)
 have : d.py.shown.length ≤ sizeLine := by rw [sizeLine_eq]; omega
 simp only [K0, h.pl, h.sh, h.la, Bool.true_and, Bool.and_true, decide_eq_true this, decide_eq_true (Nat.le_trans h.dp hk)]
theorem Ok.eq {k n : Nat} {d : D} (h : Ok k n d) (hk : k ≤ 64 := by decide) : y7 d = true := by
 simp only [y7, h.pl, SeqAt.shaped, h.la, Bool.true_and, decide_eq_true (Nat.le_trans h.dp hk)]
theorem Ok.repr {k n : Nat} {d : D} (h : Ok k n d) (hk : k ≤ 64 := by decide) (hn : n ≤ 8000 := by decide) : A6 d = some (.str d.py.shown) := a52 (h.show hk hn)
theorem Ok.fr {k : Nat} {p : Rat} (h : Sz k p) (hk : k ≤ 1920 := by decide) : Ok 1 2 (fr p) := Ok.tup ((OkL.cons (Ok.int (h.num.mono hk)) (OkL.cons (Ok.int (h.den.mono hk)) OkL.nil)))
theorem Ok.pt {k : Nat} {a : Pt} (h : Ps k a) (hk : k ≤ 1920 := by decide) : Ok 1 3 (pt a) := Ok.tup ((OkL.cons (Ok.int (h.x.mono hk)) (OkL.cons (Ok.int (h.y.mono hk)) (OkL.cons (Ok.int (h.l.mono hk)) OkL.nil))))
theorem a0Y (x : Str) : pNe (.str x) (.str x) = some (.bl false) := by rw [a6C]; simp
theorem ixT (ds : List D) (i : Int) : pIx (.tup ds) (.int i) = atI ds i := rfl
theorem ixL (ds : List D) (i : Int) : pIx (.lst ds) (.int i) = atI ds i := rfl
theorem K7 (p : Rat) : pIx (DL.fr p) (.int 0) = some (.int p.num) := rfl
theorem F0 (p : Rat) : pIx (DL.fr p) (.int 1) = some (.int p.den) := rfl
theorem Q1 (a : Pt) : pIx (DL.pt a) (.int 0) = some (.int (pX a)) := rfl
theorem P7 (a : Pt) : pIx (DL.pt a) (.int 1) = some (.int (pY a)) := rfl
theorem J6 (a : Pt) : pIx (DL.pt a) (.int 2) = some (.int (pL a)) := rfl
theorem a5U {a b : Pt} (h1 : pX a = pX b) (h2 : pY a = pY b) (h3 : pL a = pL b) : a = b := by
 have e1 := T4 a; have e2 := T4 b; have e3 := U1 a; have e4 := U1 b
 have n := T6 b
 rw [h1, h3] at e1; rw [h2, h3] at e3
 exact Prod.ext (by grind) (by grind)
theorem a4d {k l : Nat} {a b : Pt} (ha : Ps k a) (hb : Ps l b) (hk : k ≤ 1920 := by decide) (hl : l ≤ 1920 := by decide) : pNe (pt a) (pt b) = some (.bl (!decide (a = b))) := by
 have o1 := (Ok.pt ha hk).eq
 have o2 := (Ok.pt hb hl).eq
 unfold pt at *
 simp only [pNe, o1, o2, Bool.and_self, if_true, D.py, D.pys, PyData.eqv, PyData.eqvAll, Bool.beq_eq_decide_eq, Bool.and_true]
 congr 3
 rw [Bool.eq_iff_iff]
 simp only [Bool.and_eq_true, decide_eq_true_iff]
 constructor
 ·rintro ⟨h1, h2, h3⟩; exact a5U h1 h2 h3
 ·rintro rfl; exact ⟨rfl, rfl, rfl⟩
theorem a6x (ds : List D) (n : Nat) (h : n ≤ ds.length) : D5 ds none (some (n : Int)) = ds.take n := by
 unfold D5 HT.sIx
 have h1 : ¬ (n : Int) < 0 := by omega
 simp only [h1, if_false, List.drop_zero, Nat.sub_zero, Int.toNat_natCast]
 rw [Nat.min_eq_left h]
theorem a5Q (ds : List D) (n : Nat) (h : n ≤ ds.length) : D5 ds (some (n : Int)) none = ds.drop n := by
 unfold D5 HT.sIx
 have h1 : ¬ (n : Int) < 0 := by omega
 simp only [h1, if_false, Int.toNat_natCast]
 rw [Nat.min_eq_left h]
 exact List.take_of_length_le (by rw [List.length_drop]; omega)
noncomputable def nbs {α : Type} (c : Bool) (l : List α) : List (α × α) := l.zip (if c then l.drop 1 ++ l.take 1 else l.drop 1)
theorem a9W {x y d : Int} (hd : 1 ≤ d) (hg : Int.gcd (Int.gcd x y : Int) d = 1) : D.tup [.int x, .int y, .int d] = pt (Rat.divInt x d, Rat.divInt y d) := by
 have hdr : (d : Rat) ≠ 0 := fun h => by have := Rat.intCast_eq_zero_iff.mp h; omega
 have v : ∀ z : Int, (z : Rat) = Rat.divInt z d * (d : Rat) := fun z => by rw [Rat.divInt_eq_div, Rat.div_mul_cancel hdr]
 obtain ⟨q1, q2, q3⟩ := a0z (a := (Rat.divInt x d, Rat.divInt y d)) (by omega) hg (v x) (v y)
 unfold pt
 rw [← q1, ← q2, ← q3]
theorem a68 {α β : Type} (f : α → β) (c : Bool) (l : List α) : nbs c (l.map f) = (nbs c l).map fun p => (f p.1, f p.2) := by
 unfold nbs
 cases c
 ·simp only [Bool.false_eq_true, if_false]
  rw [← List.map_drop, List.zip_map]; rfl
 ·simp only [if_true]
  rw [← List.map_drop, ← List.map_take, ← List.map_append, List.zip_map]; rfl
noncomputable def lo (c : Bool) : Nat := if c then 3 else 2
noncomputable def hi (c : Bool) : Nat := if c then 8 else 9
theorem a4c {α : Type} (c : Bool) (l : List α) : (nbs c l).length = l.length - 1 + (if c then min 1 l.length else 0) := by
 unfold nbs
 cases c
 ·show (l.zip (l.drop 1)).length = l.length - 1 + 0
  rw [List.length_zip, List.length_drop, Nat.min_eq_right (Nat.sub_le ..)]
  rfl
 ·show (l.zip (l.drop 1 ++ l.take 1)).length = l.length - 1 + min 1 l.length
  rw [List.length_zip, List.length_append, List.length_drop, List.length_take]
  exact Nat.min_eq_right (by omega)
theorem atN {α : Type} {xs : List α} {i : Nat} {x : α} (h : xs[i]? = some x) : atI xs (i : Int) = some x := by
 have hi := (List.getElem?_eq_some_iff.mp h).1
 rw [a0w (by omega) (by omega)]
 simpa using h
theorem W0 {α : Type} {xs : List α} {x : α} (h : xs[xs.length - 1]? = some x) : atI xs (-1) = some x := by
 have hi := (List.getElem?_eq_some_iff.mp h).1
 unfold atI ixN
 rw [if_neg (by omega), if_pos (by omega)]
 show xs[_]? = _
 rw [show ((-1 : Int) + xs.length).toNat = xs.length - 1 by omega]
 exact h
theorem tg0 (f : FS) (h : f.kind = 1) : f.tget 0 = some (.lst (f.cells.map .int)) := by unfold FS.tget; rw [if_neg (by omega), if_pos rfl]
end DL
namespace T
open PySem L2 DL
theorem N0 {a b : Int} (h : b ≠ 0) : r8 (.int a) (.int b) = some (.int (a.fmod b)) := if_pos h
theorem a08 {a b : Int} (h : y0 b = true) : v6 (.int a) (.int b) = some (.int (a.fdiv b)) := if_pos h
theorem a4W {i : Nat} {k n : Int} {f : DE} {s s1 : DS} {z : Fl × DS} (h : f s = some (.int n, s1)) (h2 : dTP i k (fun _ => some (.int n, s1)) s = some z) : dTP i k f s = some z := by
 rw [← h2]
 unfold dTP
 rw [h]
noncomputable abbrev LDw : DFn := C2
set_option maxHeartbeats 4000000 in
theorem a9n (f : FS) (many : Int) (hm : 0 < many) (hm2 : many < 2 ^ 100) (ht : 0 ≤ f.pos) (ht2 : f.pos < 2 ^ 40) (hk : f.kind = 1) :
  ∃ r f', LDw [.feed, .int many] (some f) = some (.int r, some f') ∧ 0 ≤ r ∧ r < many ∧ f.pos ≤ f'.pos ∧ f'.pos ≤ f.pos + 1 ∧ f'.kind = 1 := by
 have dm : y0 many = true := a6N (by omega) (by omega)
 have hne : many ≠ 0 := by omega
 obtain ⟨cs, ps, lf, tn, kd⟩ := f
 simp only at ht ht2 hk ⊢
 subst hk
 by_cases hl : 0 < lf
 ·refine ⟨lf.fmod many, ⟨cs, ps, lf.fdiv many, tn, 1⟩, l0 (s := ⟨[.val .feed, .val (.int many), .val (.int (lf.fmod many)), .no, .no, .no], some ⟨cs, ps, lf.fdiv many, tn, 1⟩⟩) ?_, (G1 hm).1, (G1 hm).2, Int.le_refl _, Int.le_of_lt (Int.lt_succ _), rfl⟩
  have t0 : dB (dOp (k8 (fun i j => decide (j < i))) (dTG 0 2) (dC (.int 0))) ⟨[.val .feed, .val (.int many), .no, .no, .no, .no], some ⟨cs, ps, lf, tn, 1⟩⟩ = some (true, ⟨[.val .feed, .val (.int many), .no, .no, .no, .no], some ⟨cs, ps, lf, tn, 1⟩⟩) := n5 (b6 rfl rfl (show some (D.bl (decide (0 < lf))) = _ by rw [decide_eq_true hl]))
  have e1 : dOp r8 (dTG 0 2) (dL 1) ⟨[.val .feed, .val (.int many), .no, .no, .no, .no], some ⟨cs, ps, lf, tn, 1⟩⟩ = some (.int (lf.fmod many), ⟨[.val .feed, .val (.int many), .no, .no, .no, .no], some ⟨cs, ps, lf, tn, 1⟩⟩) := b6 rfl rfl (N0 hne)
  have e2 : dOp v6 (dTG 0 2) (dL 1) ⟨[.val .feed, .val (.int many), .val (.int (lf.fmod many)), .no, .no, .no], some ⟨cs, ps, lf, tn, 1⟩⟩ = some (.int (lf.fdiv many), ⟨[.val .feed, .val (.int many), .val (.int (lf.fmod many)), .no, .no, .no], some ⟨cs, ps, lf, tn, 1⟩⟩) := b6 rfl rfl (a08 dm)
  show M4 ⟨[.val .feed, .val (.int many), .no, .no, .no, .no], some ⟨cs, ps, lf, tn, 1⟩⟩ = _
  unfold M4
  refine B4 ?_
  rw [E6 t0, i6 (s1 := ⟨[.val .feed, .val (.int many), .val (.int (lf.fmod many)), .no, .no, .no], some ⟨cs, ps, lf, tn, 1⟩⟩) (k5 e1 rfl), i6 (s1 := ⟨[.val .feed, .val (.int many), .val (.int (lf.fmod many)), .no, .no, .no], some ⟨cs, ps, lf.fdiv many, tn, 1⟩⟩) (a4W e2 rfl)]
  exact l3 rfl
 ·have cell : ∃ c : Int, ∀ a b : Sl, k4 (dB (dOp (k8 (fun i j => decide (j < i))) (dCB (one l4) (a6 (dTG 0 0) a8)) (dC (.int 0)))) (j4 (dOp pIx (dTG 0 0) (dOp r8 (dL 3) (dCB (one l4) (a6 (dTG 0 0) a8)))) (i5 4)) k9 ⟨[.val .feed, a, .no, .val (.int ps), .val (.int 0), b], some ⟨cs, ps + 1, lf, tn, 1⟩⟩ =
    some (.next, ⟨[.val .feed, a, .no, .val (.int ps), .val (.int c), b], some ⟨cs, ps + 1, lf, tn, 1⟩⟩) := by
   by_cases hc : 0 < cs.length
   ·have hi := G1 (a := ps) (b := (cs.length : Int)) (by omega)
    obtain ⟨c, hg⟩ : ∃ c : Int, atI (cs.map D.int) (ps.fmod (cs.length : Int)) = some (.int c) := by
     have : (ps.fmod (cs.length : Int)).toNat < cs.length := by omega
     refine ⟨cs[(ps.fmod (cs.length : Int)).toNat], ?_⟩
     rw [a0w hi.1 (by rw [List.length_map]; exact hi.2), List.getElem?_map, List.getElem?_eq_getElem this]
     rfl
    refine ⟨c, fun a b => ?_⟩
    have hn : cs ≠ [] := by intro z; rw [z] at hc; simp at hc
    simp [k4, j4, i5, dB, dOp, dCB, one, l4, a6, a8, dL, dC, k8, dTG, tg0, r8, pIx, hn, hc, hg]
   ·refine ⟨0, fun a b => ?_⟩
    have hz : cs = [] := List.eq_nil_of_length_eq_zero (by omega)
    subst hz
    simp [k4, k9, dB, dOp, dCB, one, l4, a6, a8, dL, dC, k8, dTG, tg0]
  obtain ⟨c, hcell⟩ := cell
  have hc1 := G1 (a := c) (b := 1000033) (by decide)
  have t0 : dB (dOp (k8 (fun i j => decide (j < i))) (dTG 0 2) (dC (.int 0))) ⟨[.val .feed, .val (.int many), .no, .no, .no, .no], some ⟨cs, ps, lf, tn, 1⟩⟩ = some (false, ⟨[.val .feed, .val (.int many), .no, .no, .no, .no], some ⟨cs, ps, lf, tn, 1⟩⟩) := n5 (b6 rfl rfl (show some (D.bl (decide (0 < lf))) = _ by rw [decide_eq_false hl]))
  have pre : ∀ rest : DM, i4 (k4 (dB (dOp (k8 (fun i j => decide (j < i))) (dTG 0 2) (dC (.int 0)))) (i4 (j4 (dOp r8 (dTG 0 2) (dL 1)) (i5 2)) (i4 (dTP 0 2 (dOp v6 (dTG 0 2) (dL 1))) (j6 (dV 2)))) k9) (i4 (j4 (dTG 0 1) (i5 3)) (i4 (dTP 0 1 (dOp n4 (dL 3) (dC (.int 1)))) (i4 (j4 (dC (.int 0)) (i5 4)) (i4 (k4 (dB (dOp (k8 (fun i j => decide (j < i))) (dCB (one l4) (a6 (dTG 0 0) a8)) (dC (.int 0)))) (j4 (dOp pIx (dTG 0 0) (dOp r8 (dL 3) (dCB (one l4) (a6 (dTG 0 0) a8)))) (i5 4)) k9) rest))))
    ⟨[.val .feed, .val (.int many), .no, .no, .no, .no], some ⟨cs, ps, lf, tn, 1⟩⟩ = rest ⟨[.val .feed, .val (.int many), .no, .val (.int ps), .val (.int c), .no], some ⟨cs, ps + 1, lf, tn, 1⟩⟩ := fun rest => by
   rw [i6 (s1 := ⟨[.val .feed, .val (.int many), .no, .no, .no, .no], some ⟨cs, ps, lf, tn, 1⟩⟩) (K5 t0)]
   rw [i6 (s1 := ⟨[.val .feed, .val (.int many), .no, .val (.int ps), .no, .no], some ⟨cs, ps, lf, tn, 1⟩⟩) rfl]
   rw [i6 (s1 := ⟨[.val .feed, .val (.int many), .no, .val (.int ps), .no, .no], some ⟨cs, ps + 1, lf, tn, 1⟩⟩) rfl]
   rw [i6 (s1 := ⟨[.val .feed, .val (.int many), .no, .val (.int ps), .val (.int 0), .no], some ⟨cs, ps + 1, lf, tn, 1⟩⟩) rfl]
   rw [i6 (hcell _ _)]
  have test : v3 (dB (dOp (k8 (fun i j => decide (j ≤ i))) (dL 4) (dOp E2 (dC (.int 10)) (dC (.int 18))))) (dB (dOp (k8 (fun i j => decide (i < j))) (dL 3) (dCB (one l4) (a6 (dTG 0 0) a8)))) ⟨[.val .feed, .val (.int many), .no, .val (.int ps), .val (.int c), .no], some ⟨cs, ps + 1, lf, tn, 1⟩⟩ =
    some (decide (1000000000000000000 ≤ c) && decide (ps < (cs.length : Int)), ⟨[.val .feed, .val (.int many), .no, .val (.int ps), .val (.int c), .no], some ⟨cs, ps + 1, lf, tn, 1⟩⟩) := by
   have p18 : E2 (.int 10) (.int 18) = some (.int 1000000000000000000) := by simp [E2]
   have t1 : dB (dOp (k8 (fun i j => decide (j ≤ i))) (dL 4) (dOp E2 (dC (.int 10)) (dC (.int 18)))) ⟨[.val .feed, .val (.int many), .no, .val (.int ps), .val (.int c), .no], some ⟨cs, ps + 1, lf, tn, 1⟩⟩ = some (decide (1000000000000000000 ≤ c), ⟨[.val .feed, .val (.int many), .no, .val (.int ps), .val (.int c), .no], some ⟨cs, ps + 1, lf, tn, 1⟩⟩) := n5 (b6 rfl (b6 rfl rfl p18) rfl)
   have t2 : dB (dOp (k8 (fun i j => decide (i < j))) (dL 3) (dCB (one l4) (a6 (dTG 0 0) a8))) ⟨[.val .feed, .val (.int many), .no, .val (.int ps), .val (.int c), .no], some ⟨cs, ps + 1, lf, tn, 1⟩⟩ = some (decide (ps < ((cs.map D.int).length : Int)), ⟨[.val .feed, .val (.int many), .no, .val (.int ps), .val (.int c), .no], some ⟨cs, ps + 1, lf, tn, 1⟩⟩) := n5 (b6 rfl (v5 (p := l4) rfl rfl) rfl)
   rw [List.length_map] at t2
   cases h1 : decide (1000000000000000000 ≤ c) with
   | true =>
    rw [h1] at t1
    exact R7 t1 t2
   | false =>
    rw [h1] at t1
    exact a0n t1
  by_cases hb : (decide (1000000000000000000 ≤ c) && decide (ps < (cs.length : Int))) = true
  ·refine ⟨c.fmod many, ⟨cs, ps + 1, c.fdiv many, tn, 1⟩, l0 (s := ⟨[.val .feed, .val (.int many), .no, .val (.int ps), .val (.int c), .no], some ⟨cs, ps + 1, c.fdiv many, tn, 1⟩⟩) ?_, (G1 hm).1, (G1 hm).2, by simp; omega, by simp, rfl⟩
   show M4 ⟨[.val .feed, .val (.int many), .no, .no, .no, .no], some ⟨cs, ps, lf, tn, 1⟩⟩ = _
   unfold M4
   rw [pre]
   rw [hb] at test
   refine B4 ?_
   rw [E6 test]
   rw [i6 (s1 := ⟨[.val .feed, .val (.int many), .no, .val (.int ps), .val (.int c), .no], some ⟨cs, ps + 1, c.fdiv many, tn, 1⟩⟩) (a4W (b6 (s1 := ⟨[.val .feed, .val (.int many), .no, .val (.int ps), .val (.int c), .no], some ⟨cs, ps + 1, lf, tn, 1⟩⟩) rfl rfl (a08 dm)) rfl)]
   exact l3 (b6 rfl rfl (N0 hne))
  ·have hb' : (decide (1000000000000000000 ≤ c) && decide (ps < (cs.length : Int))) = false := by simpa using hb
   have q : ∃ M : Int, j4 (dOp r8 (dOp k0 (dOp n4 (dOp n4 (dOp r8 (dL 4) (dC (.int 1000033))) (dOp k0 (dOp k0 (dC (.int 37)) (dL 3)) (dL 3))) (dC (.int 11))) (dC (.int 69621))) (dC (.int 999983))) (i5 5)
     ⟨[.val .feed, .val (.int many), .no, .val (.int ps), .val (.int c), .no], some ⟨cs, ps + 1, lf, tn, 1⟩⟩ = some (.next, ⟨[.val .feed, .val (.int many), .no, .val (.int ps), .val (.int c), .val (.int M)], some ⟨cs, ps + 1, lf, tn, 1⟩⟩) ∧ 0 ≤ M ∧ M < 999983 := by
    have b1 : o0 37 = true := by decide
    have b2 : o0 ps = true := P0 (by omega)
    have b3 : o0 (37 * ps) = true := P0 (by omega)
    have p2 : 0 ≤ 37 * ps * ps := Int.mul_nonneg (by omega) (by omega)
    have p3 : 37 * ps * ps ≤ 37 * 2 ^ 40 * 2 ^ 40 := Int.mul_le_mul (by omega) (by omega) (by omega) (by decide)
    have b4 : o0 (c.fmod 1000033 + 37 * ps * ps + 11) = true := P0 (by omega)
    have b5 : o0 69621 = true := by decide
    refine ⟨((c.fmod 1000033 + 37 * ps * ps + 11) * 69621).fmod 999983, ?_, G1 (by decide)⟩
    exact k5 (b6 (b6 (b6 (b6 (b6 rfl rfl (N0 (by decide))) (b6 (b6 rfl rfl (o5 b1 b2)) rfl (o5 b3 b2)) rfl) rfl rfl) rfl (o5 b4 b5)) rfl (N0 (by decide))) rfl
   obtain ⟨M, e1, m1, m2⟩ := q
   have b7 : o0 M = true := P0 (by omega)
   have b8 : o0 48271 = true := by decide
   have b9 : o0 6007 = true := by decide
   have b10 : o0 ps = true := P0 (by omega)
   have r1 := G1 (a := M * 48271 + ps * 6007) (b := 999979) (by decide)
   have b11 : o0 ((M * 48271 + ps * 6007).fmod 999979) = true := P0 (by omega)
   have b12 : o0 40692 = true := by decide
   have d64 : y0 64 = true := by decide
   refine ⟨((((M * 48271 + ps * 6007).fmod 999979 * 40692).fmod 1048573).fdiv 64).fmod many, ⟨cs, ps + 1, lf, tn, 1⟩, l0 (s := ⟨[.val .feed, .val (.int many), .no, .val (.int ps), .val (.int c), .val (.int M)], some ⟨cs, ps + 1, lf, tn, 1⟩⟩) ?_, (G1 hm).1, (G1 hm).2, by simp; omega, by simp, rfl⟩
   show M4 ⟨[.val .feed, .val (.int many), .no, .no, .no, .no], some ⟨cs, ps, lf, tn, 1⟩⟩ = _
   unfold M4
   rw [pre]
   rw [hb'] at test
   rw [i6 (by rw [T1 test]; rfl)]
   rw [i6 e1]
   exact l3 (b6 (b6 (b6 (b6 (b6 (b6 (b6 rfl rfl (o5 b7 b8)) (b6 rfl rfl (o5 b10 b9)) rfl) rfl (N0 (by decide))) rfl (o5 b11 b12)) rfl (N0 (by decide))) rfl (a08 d64)) rfl (N0 hne))
noncomputable def Fd3 (n : Nat) (f : FS) : Prop := 0 ≤ f.pos ∧ f.pos ≤ n ∧ f.kind = 1
theorem Fd3.mono {n m : Nat} {f : FS} (h : Fd3 n f) (hm : n ≤ m) : Fd3 m f := ⟨h.1, by have := h.2.1; omega, h.2.2⟩
theorem o4 {n : Nat} {f : FS} (many : Int) (h : Fd3 n f) (hm : 0 < many := by omega) (hn : n < 2 ^ 30 := by omega) (hm2 : many < 2 ^ 100 := by omega) :
  ∃ r f', LDw [.feed, .int many] (some f) = some (.int r, some f') ∧ 0 ≤ r ∧ r < many ∧ Fd3 (n + 1) f' := by
 obtain ⟨r, f', e, h0, h1, h2, h3, h4⟩ := a9n f many hm hm2 h.1 (by have := h.2.1; omega) h.2.2
 exact ⟨r, f', e, h0, h1, by have := h.1; omega, by have := h.2.1; omega, h4⟩
theorem a5I (ns : List Int) : M7 [.scr ns] none = some (.feed, some ⟨ns, 0, 0, 0, 1⟩) := by
 refine l0 (s := ⟨[.val (.scr ns)], some ⟨ns, 0, 0, 0, 1⟩⟩) ?_
 show a09 ⟨[.val (.scr ns)], none⟩ = _
 simp [a09, j6, dTN]
theorem Fd3.zero (ns : List Int) : Fd3 0 ⟨ns, 0, 0, 0, 1⟩ := ⟨by simp, by simp, rfl⟩
noncomputable abbrev wgT : DT := dB (dOp (k8 (fun i j => decide (j < i))) (dL 1) (dC (.int 0)))
noncomputable abbrev wgB : DM := y8 0 1 (a6 (dV 1) (a6 (dOp r8 (dL 0) (dL 1)) a8))
theorem b0I (fs : Option FS) (r : Nat) : ∀ (g : Nat), D2 wgT wgB ⟨[.val (.int g), .val (.int r)], fs⟩ = some (.next, ⟨[.val (.int (Nat.gcd g r)), .val (.int 0)], fs⟩) := by
 induction r using Nat.strongRecOn with
 | ind r ih =>
  intro g
  by_cases h : r = 0
  ·subst h
   rw [Nat.gcd_zero_right]
   exact a4a (by simp [i4, B6, j4, dOp, dUn, dC, dL, dV, i5, k4, dB, j6, c9, a6, a8, c7, k9, dCB, one, l6, l5, dIf, v3, dOr, A8, t5, E1, y9, pIx, n4, t9, j8, k8, l4, t3, m5, t7, y8, dTr, C7])
  ·have e : ((g : Int).fmod (r : Int)) = ((g % r : Nat) : Int) := by rw [Int.fmod_eq_emod_of_nonneg _ (by omega)]; rfl
   have hy := ih (g % r) (Nat.mod_lt _ (by omega)) r
   have hg : Nat.gcd g r = Nat.gcd r (g % r) := by rw [Nat.gcd_comm g r, Nat.gcd_rec, Nat.gcd_comm]
   rw [hg]
   refine a4H (s1 := ⟨[.val (.int g), .val (.int r)], fs⟩) (s2 := ⟨[.val (.int r), .val (.int ((g % r : Nat) : Int))], fs⟩) (by simp [i4, B6, j4, dOp, dUn, dC, dL, dV, i5, k4, dB, j6, c9, a6, a8, c7, k9, dCB, one, l6, l5, dIf, v3, dOr, A8, t5, E1, y9, pIx, n4, t9, j8, k8, l4, t3, m5, t7, y8, dTr, C7]; omega) ?_ hy
   rw [← e]
   simp [y8, a6, a8, dV, dOp, dL, r8, h]
noncomputable abbrev LGd : DFn := w8
theorem a2A (a b : Int) (fs : Option FS) : LGd [.int a, .int b] fs = some (.int (Int.gcd a b), fs) := by
 have hy := b0I fs b.natAbs a.natAbs
 refine l0 (s := ⟨[.val (.int (Nat.gcd a.natAbs b.natAbs)), .val (.int 0)], fs⟩) ?_
 show a2e ⟨[.val (.int a), .val (.int b)], fs⟩ = _
 unfold a2e
 rw [i6 (s1 := ⟨[.val (.int a.natAbs), .val (.int b.natAbs)], fs⟩) (by simp [i4, B6, j4, dOp, dUn, dC, dL, dV, i5, k4, dB, j6, c9, a6, a8, c7, k9, dCB, one, l6, l5, dIf, v3, dOr, A8, t5, E1, y9, pIx, n4, t9, j8, k8, l4, t3, m5, t7, y8, dTr, C7, K8, a1Z])]
 rw [i6 hy]
 refine l3 ?_
 simp [dV, Int.gcd]
noncomputable abbrev LLw : DFn := C1 LGd
theorem Q5 {k : Nat} (a b : Int) (fs : Option FS) (hb : b ≠ 0) (h : Bd k b) (hk : k ≤ 8000) : LLw [.int a, .int b] fs = some (fr (Rat.divInt a b), fs) := by
 obtain ⟨p0, p1, p2⟩ := a3P a b hb
 have dg := a1t (a := a) hb h hk
 have e := a2A a b fs
 refine l0 (s := ⟨[.val (.int a), .val (.int b), .val (.int (if b < 0 then -(Int.gcd a b : Int) else (Int.gcd a b : Int)))], fs⟩) ?_
 show a0P LGd ⟨[.val (.int a), .val (.int b), .no], fs⟩ = _
 unfold a0P
 rw [i6 (s1 := ⟨[.val (.int a), .val (.int b), .val (.int (Int.gcd a b))], fs⟩) (by simp [i4, B6, j4, dOp, dUn, dC, dL, dV, i5, k4, dB, j6, c9, a6, a8, c7, k9, dCB, one, l6, l5, dIf, v3, dOr, A8, t5, E1, y9, pIx, n4, t9, j8, k8, l4, t3, m5, t7, y8, dTr, C7, e])]
 rw [i6 (s1 := ⟨[.val (.int a), .val (.int b), .val (.int (if b < 0 then -(Int.gcd a b : Int) else (Int.gcd a b : Int)))], fs⟩) (by
  by_cases nb : b < 0
  ·simp [i4, B6, j4, dOp, dUn, dC, dL, dV, i5, k4, dB, j6, c9, a6, a8, c7, k9, dCB, one, l6, l5, dIf, v3, dOr, A8, t5, E1, y9, pIx, n4, t9, j8, k8, l4, t3, m5, t7, y8, dTr, C7, nb]
  ·simp [i4, B6, j4, dOp, dUn, dC, dL, dV, i5, k4, dB, j6, c9, a6, a8, c7, k9, dCB, one, l6, l5, dIf, v3, dOr, A8, t5, E1, y9, pIx, n4, t9, j8, k8, l4, t3, m5, t7, y8, dTr, C7, nb])]
 generalize hg : (if b < 0 then -(Int.gcd a b : Int) else (Int.gcd a b : Int)) = gg at *
 refine l3 ?_
 unfold fr
 rw [← p1, ← p2]
 simp [i4, B6, j4, dOp, dUn, dC, dL, dV, i5, k4, dB, j6, c9, a6, a8, c7, k9, dCB, one, l6, l5, dIf, v3, dOr, A8, t5, E1, y9, pIx, n4, t9, j8, k8, l4, t3, m5, t7, y8, dTr, C7, v6, dg, sz2]
noncomputable abbrev WPl : DFn := R8 LLw
noncomputable abbrev WPr : DFn := S9 LLw
noncomputable abbrev WXy : DFn := Z6 LLw
noncomputable abbrev WSp : DFn := L3 LGd
theorem N4 {k l : Nat} (p q : Rat) (fs : Option FS) (h1 : Sz k p) (h2 : Sz l q) (hk : k + l ≤ 8000) : WPl [fr p, fr q] fs = some (fr (p + q), fs) := by
 have b1 := h1.num.bits (by omega)
 have b2 := h1.den.bits (by omega)
 have b3 := h2.num.bits (by omega)
 have b4 := h2.den.bits (by omega)
 have e := Q5 (p.num * q.den + q.num * p.den) (p.den * q.den) fs (X7 p q) (Bd.mul h1.den h2.den) hk
 rw [← a7w] at e
 refine l0 (s := ⟨[.val (fr p), .val (fr q)], fs⟩) ?_
 exact l3 (l7 (i7 (b6 (b6 (b6 rfl rfl (K7 p)) (b6 rfl rfl (F0 q)) (o5 b1 b4)) (b6 (b6 rfl rfl (K7 q)) (b6 rfl rfl (F0 p)) (o5 b3 b2)) rfl) (i7 (b6 (b6 rfl rfl (F0 p)) (b6 rfl rfl (F0 q)) (o5 b2 b4)) rfl)) e)
theorem U5 {k l : Nat} (a b c d : Int) (fs : Option FS) (hb : b ≠ 0) (hd : d ≠ 0) (h1 : Bd k a) (h2 : Bd k b) (h3 : Bd l c) (h4 : Bd l d) (hk : k + l ≤ 8000) : WPr [.tup [.int a, .int b], .tup [.int c, .int d]] fs = some (fr (Rat.divInt (a * c) (b * d)), fs) := by
 have b1 := h1.bits (by omega)
 have b2 := h2.bits (by omega)
 have b3 := h3.bits (by omega)
 have b4 := h4.bits (by omega)
 have e := Q5 (a * c) (b * d) fs (Int.mul_ne_zero hb hd) (Bd.mul h2 h4) hk
 refine l0 (s := ⟨[.val (.tup [.int a, .int b]), .val (.tup [.int c, .int d])], fs⟩) ?_
 exact l3 (l7 (i7 (b6 (b6 rfl rfl rfl) (b6 rfl rfl rfl) (o5 b1 b3)) (i7 (b6 (b6 rfl rfl rfl) (b6 rfl rfl rfl) (o5 b2 b4)) rfl)) e)
theorem a1Y {k l : Nat} (p q : Rat) (fs : Option FS) (h1 : Sz k p) (h2 : Sz l q) (hk : k + l ≤ 8000) : WPr [fr p, fr q] fs = some (fr (p * q), fs) := by
 have e := U5 p.num p.den q.num q.den fs (B5 p) (B5 q) h1.num h1.den h2.num h2.den hk
 rw [← a3B] at e
 exact e
theorem wxy {k : Nat} (a : Pt) (fs : Option FS) (h : Ps k a) (hk : k ≤ 8000) : WXy [pt a] fs = some (.tup [fr a.1, fr a.2], fs) := by
 have e1 := Q5 (pX a) (pL a) fs (R9 a) h.l hk
 have e2 := Q5 (pY a) (pL a) fs (R9 a) h.l hk
 rw [a4k] at e1
 rw [a5f] at e2
 refine l0 (s := ⟨[.val (pt a)], fs⟩) ?_
 exact l3 (v4 (l7 (i7 (b6 rfl rfl (Q1 a)) (i7 (b6 rfl rfl (J6 a)) rfl)) e1) (l7 (i7 (b6 rfl rfl (P7 a)) (i7 (b6 rfl rfl (J6 a)) rfl)) e2))
theorem J5 {k l : Nat} (p q : Rat) (fs : Option FS) (h1 : Sz k p) (h2 : Sz l q) (hk : k + l ≤ 8000) : WSp [fr p, fr q] fs = some (pt (p, q), fs) := by
 have b1 := h1.num.bits (by omega)
 have b2 := h1.den.bits (by omega)
 have b3 := h2.num.bits (by omega)
 have b4 := h2.den.bits (by omega)
 have hd := X7 p q
 have hp : ¬ (p.den : Int) * q.den < 0 := by have := Int.mul_pos (a0R p) (a0R q); omega
 obtain ⟨g0, p1, p2, p3⟩ := a2U (p.num * q.den) (q.num * p.den) (p.den * q.den) hd
 have dg := a43 (x := p.num * q.den) (y := q.num * p.den) hd (Bd.mul h1.den h2.den) hk
 rw [if_neg hp] at g0 p1 p2 p3 dg
 rw [a4e, a5d] at p1 p2 p3
 have w1 := a2A (p.num * q.den) (q.num * p.den) fs
 have w2 := a2A (Int.gcd (p.num * q.den) (q.num * p.den) : Int) (p.den * q.den) fs
 generalize (Int.gcd (Int.gcd (p.num * q.den) (q.num * p.den) : Int) (p.den * q.den) : Int) = gg at *
 refine l0 (s := ⟨[.val (fr p), .val (fr q), .val (.tup [.int (p.num * q.den), .int (q.num * p.den), .int (p.den * q.den)]), .val (.int gg)], fs⟩) ?_
 show a0J LGd ⟨[.val (fr p), .val (fr q), .no, .no], fs⟩ = _
 unfold a0J
 rw [i6 (s1 := ⟨[.val (fr p), .val (fr q), .val (.tup [.int (p.num * q.den), .int (q.num * p.den), .int (p.den * q.den)]), .no], fs⟩) (k5 (U8 (b6 (b6 rfl rfl (K7 p)) (b6 rfl rfl (F0 q)) (o5 b1 b4)) (b6 (b6 rfl rfl (K7 q)) (b6 rfl rfl (F0 p)) (o5 b3 b2)) (b6 (b6 rfl rfl (F0 p)) (b6 rfl rfl (F0 q)) (o5 b2 b4))) rfl)]
 rw [i6 (s1 := ⟨[.val (fr p), .val (fr q), .val (.tup [.int (p.num * q.den), .int (q.num * p.den), .int (p.den * q.den)]), .val (.int gg)], fs⟩) (k5 (l7 (i7 (l7 (i7 (b6 rfl rfl rfl) (i7 (b6 rfl rfl rfl) rfl)) w1) (i7 (b6 rfl rfl rfl) rfl)) w2) rfl)]
 refine l3 ?_
 unfold pt
 rw [← p1, ← p2, ← p3]
 exact v5 (p := C4) (u3 (T0 (idx := [3]) (ds := [.int (p.num * q.den), .int (q.num * p.den), .int (p.den * q.den)]) (s1 := ⟨[.val (fr p), .val (fr q), .val (.tup [.int (p.num * q.den), .int (q.num * p.den), .int (p.den * q.den)]), .val (.int gg)], fs⟩) rfl sz3 (a0t dg fs [p.num * q.den, q.num * p.den, p.den * q.den]))) rfl
noncomputable def Gr (B : Nat) (x : Rat) : Prop := ∃ n : Int, n.natAbs ≤ B ∧ x = Rat.divInt n 6630
theorem Gr.mono {B C : Nat} {x : Rat} (h : Gr B x) (hc : B ≤ C) : Gr C x := by
 obtain ⟨n, a, e⟩ := h
 exact ⟨n, Nat.le_trans a hc, e⟩
theorem Gr.add {B C : Nat} {x y : Rat} (h1 : Gr B x) (h2 : Gr C y) : Gr (B + C) (x + y) := by
 obtain ⟨n, a, rfl⟩ := h1
 obtain ⟨m, b, rfl⟩ := h2
 refine ⟨n + m, Nat.le_trans (Int.natAbs_add_le ..) (Nat.add_le_add a b), ?_⟩
 rw [Rat.divInt_eq_div, Rat.divInt_eq_div, Rat.divInt_eq_div, Rat.intCast_add]
 grind
theorem Gr.sz {B : Nat} {x : Rat} (h : Gr B x) (hB : B < 2 ^ 80) : Sz 80 x := by
 obtain ⟨n, a, rfl⟩ := h
 exact Sz.of_divInt (by decide) (Nat.lt_of_le_of_lt a hB) (by decide)
theorem Gr.div {B : Nat} {a b : Int} (hb : 0 < b) (hd : (6630 : Int) % b = 0) (hB : a.natAbs * 6630 ≤ B) : Gr B (Rat.divInt a b) := by
 obtain ⟨c, hc⟩ := Int.dvd_of_emod_eq_zero hd
 have c0 : 0 < c := by
  rcases Int.lt_or_le 0 c with z | z
  ·exact z
  ·have : b * c ≤ b * 0 := Int.mul_le_mul_of_nonneg_left z (by omega)
   omega
 have c1 : c ≤ 6630 := by
  have : 1 * c ≤ b * c := Int.mul_le_mul_of_nonneg_right (by omega) (by omega)
  omega
 refine ⟨a * c, ?_, ?_⟩
 ·rw [Int.natAbs_mul]
  exact Nat.le_trans (Nat.mul_le_mul_left _ (by omega)) hB
 ·rw [hc, Rat.divInt_mul_right (by omega)]
noncomputable def Gf (B : Nat) (x : Rat) : Prop := ∃ n : Int, n.natAbs ≤ B ∧ x = Rat.divInt n 351138060
theorem Gf.mono {B C : Nat} {x : Rat} (h : Gf B x) (hc : B ≤ C) : Gf C x := by
 obtain ⟨n, a, e⟩ := h
 exact ⟨n, Nat.le_trans a hc, e⟩
theorem Gr.fine {B : Nat} {x : Rat} (h : Gr B x) : Gf (B * 52962) x := by
 obtain ⟨n, a, rfl⟩ := h
 refine ⟨n * 52962, ?_, ?_⟩
 ·rw [Int.natAbs_mul]
  exact Nat.mul_le_mul_right _ a
 ·rw [show (351138060 : Int) = 6630 * 52962 from rfl, Rat.divInt_mul_right (by decide)]
noncomputable abbrev WSt : DFn := Y6 LDw
noncomputable def stD : List D := [.tup [.int 0, .int 1], .tup [.int 1, .int 1], .tup [.int (-1), .int 2], .tup [.int 5, .int 3], .tup [.int (-7), .int 1], .tup [.int 3, .int 2]]
noncomputable def R6 : List (Int × Int) := [(0, 1), (1, 1), (-1, 2), (5, 3), (-7, 1), (3, 2)]
theorem a8N : (R6.all fun z => decide ((Rat.divInt z.1 z.2).num = z.1 ∧ ((Rat.divInt z.1 z.2).den : Int) = z.2 ∧ 0 < z.2 ∧ (6630 : Int) % z.2 = 0 ∧ z.1.natAbs * 6630 ≤ 46410)) = true := by decide +kernel
theorem a3v {r : Int} (h0 : 0 ≤ r) (h1 : r < 6) : ∃ p : Rat, atI stD r = some (fr p) ∧ Gr 46410 p := by
 obtain ⟨x, hx, e⟩ := D0 (xs := stD) h0 h1
 obtain ⟨z, hz, rfl⟩ := List.mem_map.mp (show x ∈ R6.map (fun z => D.tup [.int z.1, .int z.2]) from hx)
 obtain ⟨q1, q2, q3, q4, q5⟩ := of_decide_eq_true (List.all_eq_true.mp a8N z hz)
 refine ⟨Rat.divInt z.1 z.2, ?_, Gr.div q3 q4 q5⟩
 unfold fr
 rw [q1, q2]
 exact e
theorem t8 {ds : List D} {i : Int} {d : D} (h : atI ds i = some d) : pIx (.lst ds) (.int i) = some d := (ixL ds i).trans h
theorem a3t {n : Nat} {f : FS} (h : Fd3 n f) (hn : n < 2 ^ 29) : ∃ p q f', WSt [.feed] (some f) = some (.tup [fr p, fr q], some f') ∧ Gr 46410 p ∧ Gr 46410 q ∧ Fd3 (n + 2) f' := by
 obtain ⟨r1, f1, e1, a1, a2, h1⟩ := o4 6 h
 obtain ⟨r2, f2, e2, b1, b2, h2⟩ := o4 6 h1
 obtain ⟨p, q1, g1⟩ := a3v a1 a2
 obtain ⟨q, q2, g2⟩ := a3v b1 b2
 refine ⟨p, q, f2, l0 (s := ⟨[.val .feed, .own stD, .val (fr p)], some f2⟩) ?_, g1, g2, h2⟩
 show a0q LDw ⟨[.val .feed, .no, .no], some f⟩ = _
 unfold a0q
 rw [i6 (s1 := ⟨[.val .feed, .own stD, .no], some f⟩) (B2 (s1 := ⟨[.val .feed, .no, .no], some f⟩) rfl (by decide : 1 < 3))]
 rw [i6 (s1 := ⟨[.val .feed, .own stD, .val (fr p)], some f1⟩) (k5 (b6 rfl (j9 rfl e1) (t8 q1)) rfl)]
 exact l3 (v4 rfl (b6 rfl (j9 rfl e2) (t8 q2)))
noncomputable abbrev WMn : DFn := a0I LDw
noncomputable def wyD (w : Int × Int × Int) : D := .tup [.int w.1, .int w.2.1, .int w.2.2]
noncomputable def szD (z : Int × Int) : D := .tup [.int z.1, .int z.2]
noncomputable def ways0 : List (Int × Int × Int) := [(1, 0, 1), (0, 1, 1), (-1, 0, 1), (0, -1, 1)]
noncomputable def S0 (a b h : Int) : List (Int × Int × Int) := [(h, 0, h), (0, h, h), (-h, 0, h), (0, -h, h), (a, b, h), (-b, a, h), (-a, -b, h), (b, -a, h), (b, a, h), (-a, b, h), (-b, -a, h), (a, -b, h)]
noncomputable def a5V (g : Int) : List (Int × Int) := [(g * 1, 1), (g * 2, 1), (g * 1, 2), (g * 40, 1), (g * 7, 3)]
noncomputable def a7h (g h : Int) : List (Int × Int) := [(g * h, 1), (g * 1, 1), (g * h, 2), (g * 2, 1)]
noncomputable def okZ (w : Int × Int × Int) (z : Int × Int) : Bool := decide (0 < z.1 ∧ 0 < z.2 ∧ z.1 ≤ 40000000000000 ∧ z.2 ≤ 3 ∧ 6630 % (z.2 * w.2.2) = 0)
noncomputable def okY (Z : List (Int × Int)) (w : Int × Int × Int) : Bool := decide (w.1 * w.1 + w.2.1 * w.2.1 = w.2.2 * w.2.2 ∧ 0 < w.2.2 ∧ w.2.2 ≤ 17 ∧ w.1.natAbs ≤ 17 ∧ w.2.1.natAbs ≤ 17) && Z.all (okZ w)
noncomputable def okT (W : List (Int × Int × Int)) : Bool := W.all fun a => W.all fun b => decide (a = b ∨ a.1 * b.2.2 ≠ b.1 * a.2.2 ∨ a.2.1 * b.2.2 ≠ b.2.1 * a.2.2)
noncomputable def a42 (W : List (Int × Int × Int)) (Z : List (Int × Int)) : Bool := W.all (okY Z) && decide (W.length ≤ 12 ∧ 1 ≤ Z.length ∧ Z.length ≤ 5) && W.any fun a => W.any fun b => !decide (a = b)
noncomputable def okW (W : List (Int × Int × Int)) (Z : List (Int × Int)) : Bool := a42 W Z && okT W
theorem a8C {r : Int} (h0 : 0 ≤ r) (h1 : r < 8) : ∃ g : Int, (g = 1 ∨ g = 1000000000000) ∧ atI [D.int 1, .int 1, .int 1, .int 1, .int 1, .int 1, .int 1, .int 1000000000000] r = some (.int g) := by
 obtain ⟨x, hx, e⟩ := D0 (xs := [D.int 1, .int 1, .int 1, .int 1, .int 1, .int 1, .int 1, .int 1000000000000]) h0 h1
 rcases List.mem_append.mp (show x ∈ List.replicate 7 (D.int 1) ++ [.int 1000000000000] from hx) with z | z
 ·rw [List.eq_of_mem_replicate z] at e
  exact ⟨1, .inl rfl, e⟩
 ·rw [List.mem_singleton.mp z] at e
  exact ⟨_, .inr rfl, e⟩
theorem a9l {g t : Int} (hg : g = 1 ∨ g = 1000000000000) (ht : t.natAbs ≤ 40) : k0 (.int g) (.int t) = some (.int (g * t)) := by
 refine o5 ?_ (Bd.bits (k := 10) (show t.natAbs < 2 ^ 10 by omega) (by decide))
 rcases hg with rfl | rfl <;> decide +kernel
noncomputable abbrev szE : DE := c7 (a6 (dOp k0 (dL 2) (dL 0)) (a6 (dV 1) a8))
theorem a0V {g : Int} (hg : g = 1 ∨ g = 1000000000000) (sl : List Sl) (hs : E5 [1] sl = [.val (.int g)]) (fs : Option FS) : ∀ zs : List (Int × Int), (∀ z ∈ zs, z.1.natAbs ≤ 40) → v8 (mk2 [1] sl) C0 szE (zs.map szD) fs = some ((zs.map fun z => (g * z.1, z.2)).map szD, fs)
 | [], _ => rfl
 | z :: r, h => by
  have ih := a0V hg sl hs fs r fun y hy => h y (List.mem_cons_of_mem _ hy)
  have m := a9l hg (h z (List.mem_cons_self ..))
  rw [List.map_cons, v8]
  have e : mk2 [1] sl (szD z) = some [.val (.int z.1), .val (.int z.2), .val (.int g)] := by
   show some (.val (.int z.1) :: .val (.int z.2) :: E5 [1] sl) = _
   rw [hs]
  rw [e, Option.bind_some]
  have y : C0 ⟨[.val (.int z.1), .val (.int z.2), .val (.int g)], fs⟩ = some (true, ⟨[.val (.int z.1), .val (.int z.2), .val (.int g)], fs⟩) := rfl
  have el : szE ⟨[.val (.int z.1), .val (.int z.2), .val (.int g)], fs⟩ = some (szD (g * z.1, z.2), ⟨[.val (.int z.1), .val (.int z.2), .val (.int g)], fs⟩) := v4 (b6 rfl rfl m) rfl
  rw [y, Option.bind_some, if_pos rfl, el, Option.bind_some, ih]
  rfl
theorem K9 {n : Nat} (h : n ≤ 100) : n ≤ sizeLine := Nat.le_trans h (by decide)
noncomputable def a3Z : List D := [.tup [.int 3, .int 4, .int 5], .tup [.int 3, .int 4, .int 5], .tup [.int 5, .int 12, .int 13], .tup [.int 8, .int 15, .int 17]]
theorem W8 {xs ys : List D} (h : xs.length + ys.length ≤ 100) : N6 (.lst xs) (.lst ys) = some (xs ++ ys) := if_pos (K9 h)
noncomputable abbrev mnS (g c a b h : Int) (x7 x8 x9 : Sl) (f : FS) : DS := ⟨[.val .feed, .val (.int g), .val (.int c), .no, .val (.int a), .val (.int b), .val (.int h), x7, x8, x9], some f⟩
theorem a3b (g c a b h x y : Int) (xs : List D) (x8 x9 : Sl) (f : FS) (hl : xs.length ≤ 50) (r : List D) : v0 (t3 2 (m5 (i5 8) (m5 (i5 9) t7))) (a1N LDw) (.tup [.int x, .int y] :: r) (mnS g c a b h (.own xs) x8 x9 f) =
  v0 (t3 2 (m5 (i5 8) (m5 (i5 9) t7))) (a1N LDw) r (mnS g c a b h (.own (xs ++ [wyD (x, y, h), wyD (-y, x, h), wyD (-x, -y, h), wyD (y, -x, h)])) (.val (.int x)) (.val (.int y)) f) :=
 a1D (s1 := mnS g c a b h (.own xs) (.val (.int x)) (.val (.int y)) f) (s2 := mnS g c a b h (.own (xs ++ [wyD (x, y, h), wyD (-y, x, h), wyD (-x, -y, h), wyD (y, -x, h)])) (.val (.int x)) (.val (.int y)) f) rfl
  (B2 (s1 := mnS g c a b h (.own xs) (.val (.int x)) (.val (.int y)) f) (W6 rfl (u3 (ds := [wyD (x, y, h), wyD (-y, x, h), wyD (-x, -y, h), wyD (y, -x, h)]) (s1 := mnS g c a b h (.own xs) (.val (.int x)) (.val (.int y)) f) rfl) (W8 (by show xs.length + 4 ≤ 100; omega))) (by decide : 7 < 10))
theorem W9 {g c a b h r1 : Int} {f0 f1 f : FS} (e1 : LDw [.feed, .int 8] (some f0) = some (.int r1, some f1)) (q1 : atI [D.int 1, .int 1, .int 1, .int 1, .int 1, .int 1, .int 1, .int 1000000000000] r1 = some (.int g)) (e2 : LDw [.feed, .int 5] (some f1) = some (.int c, some f))
  (hg : g = 1 ∨ g = 1000000000000) (hc : c ≠ 0) (q : atI a3Z (c - 1) = some (.tup [.int a, .int b, .int h])) (hh : h.natAbs ≤ 40) : WMn [.feed] (some f0) = some (.tup [.lst ((S0 a b h).map wyD), .lst ((a7h g h).map szD)], some f) := by
 refine l0 (s := mnS g c a b h (.val (.lst ((S0 a b h).map wyD))) (.val (.int b)) (.val (.int a)) f) ?_
 show U0 LDw ⟨[.val .feed, .no, .no, .no, .no, .no, .no, .no, .no, .no], some f0⟩ = _
 unfold U0
 rw [i6 (s1 := ⟨[.val .feed, .val (.int g), .no, .no, .no, .no, .no, .no, .no, .no], some f1⟩) (k5 (b6 (s1 := ⟨[.val .feed, .no, .no, .no, .no, .no, .no, .no, .no, .no], some f0⟩) rfl (j9 rfl e1) (t8 q1)) rfl),
  i6 (s1 := ⟨[.val .feed, .val (.int g), .val (.int c), .no, .no, .no, .no, .no, .no, .no], some f⟩) (k5 (j9 rfl e2) rfl),
  i6 (s1 := ⟨[.val .feed, .val (.int g), .val (.int c), .no, .no, .no, .no, .no, .no, .no], some f⟩) (by simp [k4, dB, dOp, dL, dC, B7, hc, k9]),
  i6 (s1 := mnS g c a b h .no .no .no f) (k5 (b6 (x := .lst a3Z) (s1 := ⟨[.val .feed, .val (.int g), .val (.int c), .no, .no, .no, .no, .no, .no, .no], some f⟩) (u3 rfl) (b6 rfl rfl rfl) (t8 q)) rfl),
  i6 (s1 := mnS g c a b h (.own [wyD (h, 0, h), wyD (0, h, h), wyD (-h, 0, h), wyD (0, -h, h)]) .no .no f) (B2 (s1 := mnS g c a b h .no .no .no f) rfl (by decide : 7 < 10)),
  i6 (s1 := mnS g c a b h (.own ((S0 a b h).map wyD)) (.val (.int b)) (.val (.int a)) f) (by
   rw [a9y (ds := [.tup [.int a, .int b], .tup [.int b, .int a]]) (s1 := mnS g c a b h (.own [wyD (h, 0, h), wyD (0, h, h), wyD (-h, 0, h), wyD (0, -h, h)]) .no .no f) (u3 rfl)]
   rw [a3b g c a b h a b [wyD (h, 0, h), wyD (0, h, h), wyD (-h, 0, h), wyD (0, -h, h)] .no .no f (show 4 ≤ 50 by decide),
    a3b g c a b h b a ([wyD (h, 0, h), wyD (0, h, h), wyD (-h, 0, h), wyD (0, -h, h)] ++ [wyD (a, b, h), wyD (-b, a, h), wyD (-a, -b, h), wyD (b, -a, h)]) (.val (.int a)) (.val (.int b)) f (show 8 ≤ 50 by decide)]
   rfl)]
 refine l3 (v4 (s1 := mnS g c a b h (.val (.lst ((S0 a b h).map wyD))) (.val (.int b)) (.val (.int a)) f) rfl (u3 ?_))
 have c := a0V hg (mnS g c a b h (.val (.lst ((S0 a b h).map wyD))) (.val (.int b)) (.val (.int a)) f).sl rfl (some f) [(h, 1), (1, 1), (h, 2), (2, 1)] (by
  intro z hz
  simp only [List.mem_cons, List.not_mem_nil, or_false] at hz
  rcases hz with rfl | rfl | rfl | rfl
  ·exact hh
  ·decide
  ·exact hh
  ·decide)
 exact a33 (ds := [(h, 1), (1, 1), (h, 2), (2, 1)].map szD) (s1 := mnS g _ a b h (.val (.lst ((S0 a b h).map wyD))) (.val (.int b)) (.val (.int a)) f) rfl (K9 (show 4 ≤ 100 by decide)) c
theorem a8a {g r1 : Int} {f0 f1 f : FS} (e1 : LDw [.feed, .int 8] (some f0) = some (.int r1, some f1)) (q1 : atI [D.int 1, .int 1, .int 1, .int 1, .int 1, .int 1, .int 1, .int 1000000000000] r1 = some (.int g)) (e2 : LDw [.feed, .int 5] (some f1) = some (.int 0, some f))
  (hg : g = 1 ∨ g = 1000000000000) : WMn [.feed] (some f0) = some (.tup [.lst (ways0.map wyD), .lst ((a5V g).map szD)], some f) := by
 refine l0 (s := ⟨[.val .feed, .val (.int g), .val (.int 0), .val (.lst ([(1, 1), (2, 1), (1, 2), (40, 1), (7, 3)].map szD)), .no, .no, .no, .no, .no, .no], some f⟩) ?_
 show U0 LDw ⟨[.val .feed, .no, .no, .no, .no, .no, .no, .no, .no, .no], some f0⟩ = _
 unfold U0
 rw [i6 (s1 := ⟨[.val .feed, .val (.int g), .no, .no, .no, .no, .no, .no, .no, .no], some f1⟩) (k5 (b6 (s1 := ⟨[.val .feed, .no, .no, .no, .no, .no, .no, .no, .no, .no], some f0⟩) rfl (j9 rfl e1) (t8 q1)) rfl),
  i6 (s1 := ⟨[.val .feed, .val (.int g), .val (.int 0), .no, .no, .no, .no, .no, .no, .no], some f⟩) (k5 (j9 rfl e2) rfl)]
 refine B4 ?_
 rw [E6 (s1 := ⟨[.val .feed, .val (.int g), .val (.int 0), .no, .no, .no, .no, .no, .no, .no], some f⟩) (by simp [dB, dOp, dL, dC, B7])]
 rw [i6 (s1 := ⟨[.val .feed, .val (.int g), .val (.int 0), .own ([(1, 1), (2, 1), (1, 2), (40, 1), (7, 3)].map szD), .no, .no, .no, .no, .no, .no], some f⟩) (B2 (s1 := ⟨[.val .feed, .val (.int g), .val (.int 0), .no, .no, .no, .no, .no, .no, .no], some f⟩) rfl (by decide : 3 < 10))]
 refine l3 (v4 (s1 := ⟨[.val .feed, .val (.int g), .val (.int 0), .own ([(1, 1), (2, 1), (1, 2), (40, 1), (7, 3)].map szD), .no, .no, .no, .no, .no, .no], some f⟩) (u3 rfl) (u3 ?_))
 have c := a0V hg [.val .feed, .val (.int g), .val (.int 0), .val (.lst ([(1, 1), (2, 1), (1, 2), (40, 1), (7, 3)].map szD)), .no, .no, .no, .no, .no, .no] rfl (some f) [(1, 1), (2, 1), (1, 2), (40, 1), (7, 3)] (by decide)
 exact a33 (ds := [(1, 1), (2, 1), (1, 2), (40, 1), (7, 3)].map szD) (s1 := ⟨[.val .feed, .val (.int g), .val (.int 0), .val (.lst ([(1, 1), (2, 1), (1, 2), (40, 1), (7, 3)].map szD)), .no, .no, .no, .no, .no, .no], some f⟩) rfl (K9 (show 5 ≤ 100 by decide)) c
theorem a6o {n : Nat} {f : FS} (h : Fd3 n f) (hn : n < 2 ^ 29) : ∃ W Z f', WMn [.feed] (some f) = some (.tup [.lst (W.map wyD), .lst (Z.map szD)], some f') ∧ okW W Z = true ∧ Fd3 (n + 2) f' := by
 obtain ⟨r1, f1, e1, a1, a2, h1⟩ := o4 8 h
 obtain ⟨r2, f2, e2, b1, b2, h2⟩ := o4 5 h1
 obtain ⟨g, hg, q1⟩ := a8C a1 a2
 have hr : r2 = 0 ∨ r2 = 1 ∨ r2 = 2 ∨ r2 = 3 ∨ r2 = 4 := by omega
 rcases hr with rfl | rfl | rfl | rfl | rfl
 ·exact ⟨_, _, f2, a8a e1 q1 e2 hg, by rcases hg with rfl | rfl <;> decide +kernel, h2⟩
 ·exact ⟨_, _, f2, W9 (a := 3) (b := 4) (h := 5) e1 q1 e2 hg (by decide) rfl (by decide), by rcases hg with rfl | rfl <;> decide +kernel, h2⟩
 ·exact ⟨_, _, f2, W9 (a := 3) (b := 4) (h := 5) e1 q1 e2 hg (by decide) rfl (by decide), by rcases hg with rfl | rfl <;> decide +kernel, h2⟩
 ·exact ⟨_, _, f2, W9 (a := 5) (b := 12) (h := 13) e1 q1 e2 hg (by decide) rfl (by decide), by rcases hg with rfl | rfl <;> decide +kernel, h2⟩
 ·exact ⟨_, _, f2, W9 (a := 8) (b := 15) (h := 17) e1 q1 e2 hg (by decide) rfl (by decide), by rcases hg with rfl | rfl <;> decide +kernel, h2⟩
end T
namespace DL
open PySem L2
theorem a3e {α : Type} {l : List α} {j : Nat} {p : α × α} (h : (nbs false l)[j]? = some p) : l[j]? = some p.1 ∧ l[j + 1]? = some p.2 := by
 obtain ⟨h1, h2⟩ := List.getElem?_zip_eq_some.mp (show (l.zip (l.drop 1))[j]? = some p from h)
 rw [List.getElem?_drop, Nat.add_comm] at h2
 exact ⟨h1, h2⟩
end DL
namespace T
open PySem L2 DL
theorem a5m (a b c : Int) : y7 (.tup [.int a, .int b, .int c]) = true := by simp [y7, D.plain, D.plains, D.py, D.pys, SeqAt.shaped, PyData.canLay0, PyData.canLayAll0, PyData.depth, PyData.depthAll]
theorem V7 (w u : Int × Int × Int) : pNe (wyD w) (wyD u) = some (.bl (!decide (w = u))) := by
 obtain ⟨a, b, c⟩ := w
 obtain ⟨d, e, f⟩ := u
 have : decide ((a, b, c) = (d, e, f)) = (decide (a = d) && (decide (b = e) && decide (c = f))) := by
  rw [Bool.eq_iff_iff]; simp
 rw [this]
 simp only [wyD, pNe, a5m, Bool.and_self, if_true, D.py, D.pys, PyData.eqv, PyData.eqvAll, Bool.beq_eq_decide_eq, Bool.and_true]
theorem a3s (w : Int × Int × Int) : pNe (wyD w) .non = some (.bl true) := by
 have h : y7 .non = true := rfl
 simp only [wyD, pNe, a5m, h, Bool.and_self, if_true, D.py, D.pys, PyData.eqv]
 rfl
theorem a4b {fc : DT} (g : D → Bool) (caps : List Sl) (fs : Option FS) : ∀ ds : List D, (∀ d ∈ ds, fc ⟨.val d :: caps, fs⟩ = some (g d, ⟨.val d :: caps, fs⟩)) → v8 (fun d => some (.val d :: caps)) fc (dV 0) ds fs = some (ds.filter g, fs)
 | [], _ => rfl
 | d :: r, h => by
  have ih := a4b g caps fs r fun x hx => h x (List.mem_cons_of_mem _ hx)
  rw [v8, Option.bind_some, h d (List.mem_cons_self ..), Option.bind_some]
  cases hg : g d with
  | true =>
   rw [if_pos rfl, List.filter_cons_of_pos hg]
   show (v8 _ fc (dV 0) r fs).map _ = _
   rw [ih]
   rfl
  | false =>
   rw [if_neg Bool.false_ne_true, List.filter_cons_of_neg (by rw [hg]; decide)]
   exact ih
theorem b0v {W : List (Int × Int × Int)} {fm : D} (hf : fm = .non ∨ ∃ u ∈ W, fm = wyD u) (hW : (W.any fun a => W.any fun b => !decide (a = b)) = true) : ∃ g : D → Bool, (∀ w, pNe (wyD w) fm = some (.bl (g (wyD w)))) ∧ 1 ≤ ((W.map wyD).filter g).length := by
 obtain ⟨a, ha, hb⟩ := List.any_eq_true.mp hW
 obtain ⟨b, hb, hab⟩ := List.any_eq_true.mp hb
 have hab : a ≠ b := by simpa using hab
 refine ⟨fun d => match pNe d fm with | some (.bl x) => x | _ => false, ?_, ?_⟩
 ·intro w
  rcases hf with rfl | ⟨u, _, rfl⟩
  ·simp only [a3s]
  ·simp only [V7]
 ·apply List.length_pos_iff.mpr
  intro z
  have no : ∀ w ∈ W, ¬ (pNe (wyD w) fm = some (.bl true)) := fun w hw e => by
   have : wyD w ∈ (W.map wyD).filter (fun d => match pNe d fm with | some (.bl x) => x | _ => false) := List.mem_filter.mpr ⟨List.mem_map_of_mem hw, by simp only [e]⟩
   rw [z] at this
   cases this
  rcases hf with rfl | ⟨u, hu, rfl⟩
  ·exact no a ha (a3s a)
  ·by_cases e : a = u
   ·refine no b hb ?_
    rw [V7, decide_eq_false (fun z => hab (e.trans z.symm))]
    rfl
   ·refine no a ha ?_
    rw [V7, decide_eq_false e]
    rfl
noncomputable abbrev WOp : DFn := a2o WSp WPl WPr LDw WSt WMn
noncomputable abbrev lWO : DM := Y1 WSp WPl WPr LDw WSt WMn
noncomputable def A1 : Nat := 4508400000000000000
noncomputable def F6 : Nat := A1 * 52962
noncomputable def C3 : Nat := 265200000000000000
noncomputable def exL (a b : Pt) : Prop := ∃ r : Rat, 0 ≤ r ∧ Sz 90 r ∧ dsq a b = r * r ∧ 0 < r ∧ Gf F6 r
noncomputable def exT (a b : Pt) : Prop := ∃ r : Rat, 0 < r ∧ dsq a b = r * r ∧ Gr C3 r
theorem exT.exL {a b : Pt} (h : exT a b) : exL a b := by
 obtain ⟨r, r0, e, g⟩ := h
 exact ⟨r, Rat.le_of_lt r0, (g.sz (by unfold C3; decide)).mono (by decide), e, r0, g.fine.mono (by unfold C3 F6 A1; decide)⟩
noncomputable def Tg (c : Bool) (ps : List Pt) : Prop := (∀ q ∈ nbs c ps, exT q.1 q.2) ∧ ∀ p ∈ ps, PtS 80 p
theorem W1 {t s : Int} (ht : 0 < t) (hs : 0 < s) : 0 < Rat.divInt t s := by
 rw [Rat.divInt_eq_div, Rat.div_def]
 exact Rat.mul_pos (Rat.intCast_pos.mpr ht) (Rat.inv_pos.mpr (Rat.intCast_pos.mpr hs))
theorem a0N {s h : Int} (hd : (6630 : Int) % (s * h) = 0) : (6630 : Int) % s = 0 := Int.emod_eq_zero_of_dvd (Int.dvd_trans (Int.dvd_mul_right s h) (Int.dvd_of_emod_eq_zero hd))
noncomputable def goP (a d : Pt) (r : Rat) : Pt := (a.1 + r * d.1, a.2 + r * d.2)
noncomputable def K3 (w : Int × Int × Int) : Pt := (Rat.divInt w.1 w.2.2, Rat.divInt w.2.1 w.2.2)
noncomputable def wyE (a b d : Pt) : Prop := (∃ r, 0 < r ∧ Gr A1 r ∧ b = goP a d r) ∧ d.1 * d.1 + d.2 * d.2 = 1 ∧ Sz 5 d.1 ∧ Sz 5 d.2
structure Wy (ps ds : List Pt) : Prop where
 len : ps.length = ds.length + 1
 go : ∀ j a b d, ps[j]? = some a → ps[j + 1]? = some b → ds[j]? = some d → wyE a b d
 tn : ∀ j d e, ds[j]? = some d → ds[j + 1]? = some e → d ≠ e
theorem a0j {α : Type} {l : List α} {x y : α} {j : Nat} (h : (l ++ [x])[j]? = some y) : l[j]? = some y ∨ (j = l.length ∧ y = x) := by
 by_cases hj : j < l.length
 ·rw [List.getElem?_append_left hj] at h
  exact .inl h
 ·have jl := (List.getElem?_eq_some_iff.mp h).1
  rw [List.length_append, List.length_singleton] at jl
  have ej : j = l.length := by omega
  subst ej
  rw [List.getElem?_append_right (Nat.le_refl _), Nat.sub_self] at h
  exact .inr ⟨rfl, (Option.some.inj h).symm⟩
theorem a1a {α : Type} {l : List α} {y : α} {j : Nat} (h : l[j]? = some y) : j < l.length := (List.getElem?_eq_some_iff.mp h).1
theorem Wy.snoc {ps ds : List Pt} (h : Wy ps ds) {p q d : Pt} (hp : ps[ds.length]? = some p) (hw : wyE p q d) (hd : ∀ e, ds[ds.length - 1]? = some e → e ≠ d) : Wy (ps ++ [q]) (ds ++ [d]) := by
 have hl := h.len
 refine ⟨by rw [List.length_append, List.length_append, List.length_singleton, List.length_singleton]; omega, ?_, ?_⟩
 ·intro j a b c ha hb hc
  rcases a0j hc with hc | ⟨rfl, rfl⟩
  ·have jl := a1a hc
   rw [List.getElem?_append_left (by omega)] at ha hb
   exact h.go j a b c ha hb hc
  ·rw [List.getElem?_append_left (by omega), hp] at ha
   rcases a0j hb with hb | ⟨_, rfl⟩
   ·have := a1a hb
    omega
   ·cases ha
    exact hw
 ·intro j x y hx hy
  rcases a0j hy with hy | ⟨ej, rfl⟩
  ·have jl := a1a hy
   rw [List.getElem?_append_left (by omega)] at hx
   exact h.tn j x y hx hy
  ·rw [List.getElem?_append_left (by omega), show j = ds.length - 1 by omega] at hx
   exact hd x hx
theorem a8F {W : List (Int × Int × Int)} (h : okT W = true) {u w : Int × Int × Int} (hu : u ∈ W) (hw : w ∈ W) (ne : u ≠ w) (u0 : u.2.2 ≠ 0) (w0 : w.2.2 ≠ 0) : K3 u ≠ K3 w := fun e => by
 have := of_decide_eq_true (List.all_eq_true.mp (List.all_eq_true.mp h u hu) w hw)
 unfold K3 at e
 have e1 := (Rat.divInt_eq_divInt_iff u0 w0).mp (congrArg Prod.fst e)
 have e2 := (Rat.divInt_eq_divInt_iff u0 w0).mp (congrArg Prod.snd e)
 rcases this with z | z | z
 ·exact ne z
 ·exact z e1
 ·exact z e2
theorem a61 {w : Int × Int × Int} {z : Int × Int} (hw : w.1 * w.1 + w.2.1 * w.2.1 = w.2.2 * w.2.2) (h0 : 0 < w.2.2) (h1 : w.2.2 ≤ 17) (h2 : w.1.natAbs ≤ 17) (h3 : w.2.1.natAbs ≤ 17) (z1 : 0 < z.1) (z2 : 0 < z.2) (z3 : z.1 ≤ 40000000000000) (z5 : (6630 : Int) % (z.2 * w.2.2) = 0) (p : Pt) : wyE p (p.1 + Rat.divInt (z.1 * w.1) (z.2 * w.2.2), p.2 + Rat.divInt (z.1 * w.2.1) (z.2 * w.2.2)) (K3 w) := by
 refine ⟨⟨Rat.divInt z.1 z.2, W1 z1 z2, Gr.div z2 (a0N z5) (by unfold A1; omega), ?_⟩, ?_, Sz.of_divInt (by omega) (show _ < _ by omega) (show _ < _ by omega), Sz.of_divInt (by omega) (show _ < _ by omega) (show _ < _ by omega)⟩
 ·unfold goP K3
  rw [Rat.divInt_mul_divInt, Rat.divInt_mul_divInt]
 ·have e1 : (w.2.2 : Rat) ≠ 0 := fun z => by have := Rat.intCast_eq_zero_iff.mp z; omega
  have e3 : (w.1 : Rat) * w.1 + (w.2.1 : Rat) * w.2.1 = (w.2.2 : Rat) * w.2.2 := by rw [← Rat.intCast_mul, ← Rat.intCast_mul, ← Rat.intCast_mul, ← Rat.intCast_add, hw]
  unfold K3
  rw [Rat.divInt_eq_div, Rat.divInt_eq_div]
  grind
structure OpJ (W : List (Int × Int × Int)) (n i : Nat) (p : Pt) (ps ds : List Pt) (fm : D) (f : FS) : Prop where
 len : ps.length = i + 1
 last : ps[i]? = some p
 gr : ∀ q ∈ ps, Gr (46410 + i * A1) q.1 ∧ Gr (46410 + i * A1) q.2
 ex : ∀ (j : Nat) a b, ps[j]? = some a → ps[j + 1]? = some b → exT a b
 fm : (fm = .non ∧ ds = []) ∨ ∃ w ∈ W, fm = wyD w ∧ ds[ds.length - 1]? = some (K3 w)
 wy : Wy ps ds
 fd : Fd3 (n + 2 * i) f
noncomputable def ojS (most : Int) (W : List (Int × Int × Int)) (Z : List (Int × Int)) (p : Pt) (ps : List Pt) (fm : D) (x8 x9 x10 : Sl) (f : FS) : DS :=
 ⟨[.val .feed, .val (.int most), .val (.lst (W.map wyD)), .val (.lst (Z.map szD)), .val (fr p.1), .val (fr p.2), .own (ps.map pt), .val fm, x8, x9, x10], some f⟩
theorem a6K {W : List (Int × Int × Int)} {Z : List (Int × Int)} (h : okW W Z = true) : (∀ w ∈ W, (w.1 * w.1 + w.2.1 * w.2.1 = w.2.2 * w.2.2 ∧ 0 < w.2.2 ∧ w.2.2 ≤ 17 ∧ w.1.natAbs ≤ 17 ∧ w.2.1.natAbs ≤ 17) ∧ ∀ z ∈ Z, 0 < z.1 ∧ 0 < z.2 ∧ z.1 ≤ 40000000000000 ∧ z.2 ≤ 3 ∧ 6630 % (z.2 * w.2.2) = 0) ∧
  (W.length ≤ 12 ∧ 1 ≤ Z.length ∧ Z.length ≤ 5) ∧ (W.any fun a => W.any fun b => !decide (a = b)) = true := by
 unfold okW at h
 have h := (Bool.and_eq_true_iff.mp h).1
 unfold a42 at h
 rw [Bool.and_eq_true, Bool.and_eq_true] at h
 refine ⟨fun w hw => ?_, of_decide_eq_true h.1.2, h.2⟩
 have := List.all_eq_true.mp h.1.1 w hw
 unfold okY at this
 rw [Bool.and_eq_true] at this
 exact ⟨of_decide_eq_true this.1, fun z hz => of_decide_eq_true (List.all_eq_true.mp this.2 z hz)⟩
theorem a98 {a b h t s : Int} (hw : a * a + b * b = h * h) (h0 : 0 < h) (hs : 0 < s) (p : Pt) : dsq p (p.1 + Rat.divInt (t * a) (s * h), p.2 + Rat.divInt (t * b) (s * h)) = Rat.divInt t s * Rat.divInt t s := by
 have e1 : (h : Rat) ≠ 0 := fun z => by have := Rat.intCast_eq_zero_iff.mp z; omega
 have e2 : (s : Rat) ≠ 0 := fun z => by have := Rat.intCast_eq_zero_iff.mp z; omega
 have e3 : (a : Rat) * a + (b : Rat) * b = (h : Rat) * h := by rw [← Rat.intCast_mul, ← Rat.intCast_mul, ← Rat.intCast_mul, ← Rat.intCast_add, hw]
 unfold dsq
 rw [Rat.divInt_eq_div, Rat.divInt_eq_div, Rat.divInt_eq_div, Rat.intCast_mul, Rat.intCast_mul, Rat.intCast_mul]
 grind
theorem a9A {w : Int × Int × Int} {z : Int × Int} (hw : w.1 * w.1 + w.2.1 * w.2.1 = w.2.2 * w.2.2) (h0 : 0 < w.2.2) (z1 : 0 < z.1) (z2 : 0 < z.2) (z3 : z.1 ≤ 40000000000000) (z4 : z.2 ≤ 3) (z5 : (6630 : Int) % (z.2 * w.2.2) = 0) (p : Pt) : exT p (p.1 + Rat.divInt (z.1 * w.1) (z.2 * w.2.2), p.2 + Rat.divInt (z.1 * w.2.1) (z.2 * w.2.2)) :=
 ⟨Rat.divInt z.1 z.2, W1 z1 z2, a98 hw h0 z2 p, Gr.div z2 (a0N z5) (by unfold C3; omega)⟩
theorem a4w {t s a h : Int} (ht : t ≤ 40000000000000) (t0 : 0 < t) (hs : 0 < s) (h0 : 0 < h) (ha : a.natAbs ≤ 17) (hd : (6630 : Int) % (s * h) = 0) : Gr A1 (Rat.divInt (t * a) (s * h)) := by
 refine Gr.div (Int.mul_pos hs h0) hd ?_
 rw [Int.natAbs_mul]
 have : t.natAbs * a.natAbs ≤ 40000000000000 * 17 := Nat.mul_le_mul (by omega) ha
 unfold A1
 omega
theorem a2y {i : Nat} (hi : i ≤ 9) : 46410 + i * A1 < 2 ^ 80 := by unfold A1; omega
theorem a4E (ps : List Pt) (q : Pt) : (ps ++ [q]).map pt = ps.map pt ++ [pt q] := by simp
theorem a6j {most : Int} {n i : Nat} {W : List (Int × Int × Int)} {Z : List (Int × Int)} {p : Pt} {ps ds : List Pt} {fm : D} {f : FS} (x8 x9 x10 : Sl) (ok : okW W Z = true) (I : OpJ W n i p ps ds fm f) (hi : i < 9) (hn : n < 2 ^ 27) :
  ∃ p' ps' ds' fm' x9' x10' f', lWO (ojS most W Z p ps fm x8 x9 x10 f) = some (.next, ojS most W Z p' ps' fm' x8 x9' x10' f') ∧ OpJ W n (i + 1) p' ps' ds' fm' f' := by
 obtain ⟨okw, ⟨wl, zl1, zl2⟩, wn⟩ := a6K ok
 have okt := (Bool.and_eq_true_iff.mp ok).2
 obtain ⟨g, hg, hF⟩ := b0v (I.fm.imp (·.1) fun ⟨w, a, b, _⟩ => ⟨w, a, b⟩) wn
 have hFl : ((W.map wyD).filter g).length ≤ 12 := Nat.le_trans (List.length_filter_le ..) (by rw [List.length_map]; exact wl)
 have c := a4b (fc := dB (dOp pNe (dL 0) (dL 1))) g [.val fm] (some f) (W.map wyD) (fun d hd => by
  obtain ⟨w, _, rfl⟩ := List.mem_map.mp hd
  exact n5 (b6 rfl rfl (hg w)))
 obtain ⟨r1, f1, e1, a1, a2, h1⟩ := o4 (((W.map wyD).filter g).length : Int) I.fd
 obtain ⟨d1, m1, q1⟩ := D0 a1 a2
 have gw := (List.mem_filter.mp m1).2
 obtain ⟨w, hw, rfl⟩ := List.mem_map.mp (List.mem_filter.mp m1).1
 have nw := hg w
 rw [gw] at nw
 obtain ⟨r2, f2, e2, b1, b2, h2⟩ := o4 ((Z.map szD).length : Int) h1 (by rw [List.length_map]; omega) (by omega) (by rw [List.length_map]; omega)
 obtain ⟨d2, m2, q2⟩ := D0 b1 b2
 obtain ⟨z, hz, rfl⟩ := List.mem_map.mp m2
 obtain ⟨⟨w1, w2, w3, w4, w5⟩, hzz⟩ := okw w hw
 obtain ⟨z1, z2, z3, z4, z5⟩ := hzz z hz
 have gl := I.gr p (List.mem_of_getElem? I.last)
 have gx := a4w z3 z1 z2 w2 w4 z5
 have gy := a4w z3 z1 z2 w2 w5 z5
 have bb := a2y (i := i) (by omega)
 have gb := a2y (i := i + 1) (by omega)
 have e46 : 46410 + i * A1 + A1 = 46410 + (i + 1) * A1 := by unfold A1; omega
 have nx := (gl.1.add gx)
 have ny := (gl.2.add gy)
 rw [e46] at nx ny
 have sgx := gx.sz (by unfold A1; decide)
 have sgy := gy.sz (by unfold A1; decide)
 have p1 := U5 z.1 z.2 w.1 w.2.2 (some f2) (by omega) (by omega) (k := 50) (l := 10) (show _ < _ by omega) (show _ < _ by omega) (show _ < _ by omega) (show _ < _ by omega) (by decide)
 have p2 := U5 z.1 z.2 w.2.1 w.2.2 (some f2) (by omega) (by omega) (k := 50) (l := 10) (show _ < _ by omega) (show _ < _ by omega) (show _ < _ by omega) (show _ < _ by omega) (by decide)
 have s1 := N4 p.1 _ (some f2) (gl.1.sz bb) sgx (by decide)
 have s2 := N4 p.2 _ (some f2) (gl.2.sz bb) sgy (by decide)
 have sp := J5 _ _ (some f2) (nx.sz gb) (ny.sz gb) (by decide)
 have ex := a9A w1 w2 z1 z2 z3 z4 z5 p
 have wyl := I.wy.len
 have ws := I.wy.snoc (p := p) (by rw [show ds.length = i by have := I.len; omega]; exact I.last) (a61 w1 w2 w3 w4 w5 z1 z2 z3 z5 p) (fun e he => by
  rcases I.fm with ⟨_, hd⟩ | ⟨u, hu, hfm, hd⟩
  ·rw [hd] at he
   simp at he
  ·rw [hd] at he
   cases he
   rw [hfm, V7] at nw
   exact a8F okt hu hw (fun z => by rw [z, decide_eq_true rfl] at nw; simp at nw) (by have := (okw u hu).1.2.1; omega) (by omega))
 have il := I.len
 have ll : (ps.map pt).length < sizeLine := Nat.lt_of_lt_of_le (by rw [List.length_map, il]; omega : (ps.map pt).length < 100) (by decide)
 generalize hF' : (W.map wyD).filter g = F at *
 refine ⟨(p.1 + Rat.divInt (z.1 * w.1) (z.2 * w.2.2), p.2 + Rat.divInt (z.1 * w.2.1) (z.2 * w.2.2)), ps ++ [(p.1 + Rat.divInt (z.1 * w.1) (z.2 * w.2.2), p.2 + Rat.divInt (z.1 * w.2.1) (z.2 * w.2.2))], ds ++ [K3 w], wyD w, .own F, .val (szD z), f2, ?_, ?_⟩
 ·unfold ojS
  rw [a4E]
  show Y1 WSp WPl WPr LDw WSt WMn _ = _
  unfold Y1
  rw [i6 (s1 := ⟨[.val .feed, .val (.int most), .val (.lst (W.map wyD)), .val (.lst (Z.map szD)), .val (fr p.1), .val (fr p.2), .own (ps.map pt), .val fm, x8, .own F, x10], some f⟩) (B2 (s1 := ⟨[.val .feed, .val (.int most), .val (.lst (W.map wyD)), .val (.lst (Z.map szD)), .val (fr p.1), .val (fr p.2), .own (ps.map pt), .val fm, x8, x9, x10], some f⟩) (T0 (idx := [7]) (ds := W.map wyD) (R := F) (s1 := ⟨[.val .feed, .val (.int most), .val (.lst (W.map wyD)), .val (.lst (Z.map szD)), .val (fr p.1), .val (fr p.2), .own (ps.map pt), .val fm, x8, x9, x10], some f⟩) rfl (K9 (by rw [List.length_map]; omega)) c) (show 9 < 11 by decide)),
   i6 (s1 := ⟨[.val .feed, .val (.int most), .val (.lst (W.map wyD)), .val (.lst (Z.map szD)), .val (fr p.1), .val (fr p.2), .own (ps.map pt), .val (wyD w), x8, .own F, x10], some f1⟩) (k5 (b6 rfl (j9 rfl e1) (t8 q1)) rfl),
   i6 (s1 := ⟨[.val .feed, .val (.int most), .val (.lst (W.map wyD)), .val (.lst (Z.map szD)), .val (fr p.1), .val (fr p.2), .own (ps.map pt), .val (wyD w), x8, .own F, .val (szD z)], some f2⟩) (k5 (b6 rfl (j9 rfl e2) (t8 q2)) rfl),
   i6 (s1 := ⟨[.val .feed, .val (.int most), .val (.lst (W.map wyD)), .val (.lst (Z.map szD)), .val (fr (p.1 + (Rat.divInt (z.1 * w.1) (z.2 * w.2.2)))), .val (fr p.2), .own (ps.map pt), .val (wyD w), x8, .own F, .val (szD z)], some f2⟩) (k5 (j9 (i7 rfl (i7 (j9 (i7 rfl (i7 (v4 (b6 rfl rfl rfl) (b6 rfl rfl rfl)) rfl)) p1) rfl)) s1) rfl),
   i6 (s1 := ⟨[.val .feed, .val (.int most), .val (.lst (W.map wyD)), .val (.lst (Z.map szD)), .val (fr (p.1 + (Rat.divInt (z.1 * w.1) (z.2 * w.2.2)))), .val (fr (p.2 + (Rat.divInt (z.1 * w.2.1) (z.2 * w.2.2)))), .own (ps.map pt), .val (wyD w), x8, .own F, .val (szD z)], some f2⟩) (k5 (j9 (i7 rfl (i7 (j9 (i7 rfl (i7 (v4 (b6 rfl rfl rfl) (b6 rfl rfl rfl)) rfl)) p2) rfl)) s2) rfl)]
  exact Z5 rfl (j9 (i7 rfl (i7 rfl rfl)) sp) rfl ll
 ·refine ⟨by simp [il], ?_, ?_, ?_, .inr ⟨w, hw, rfl, by rw [List.length_append, List.length_singleton, Nat.add_sub_cancel, List.getElem?_append_right (Nat.le_refl _), Nat.sub_self]; rfl⟩, ws, h2.mono (by omega)⟩
  ·rw [List.getElem?_append_right (by omega), il, Nat.sub_self]
   rfl
  ·intro q hq
   rcases List.mem_append.mp hq with hq | hq
   ·have := I.gr q hq
    exact ⟨this.1.mono (by omega), this.2.mono (by omega)⟩
   ·rw [List.mem_singleton.mp hq]
    exact ⟨nx, ny⟩
  ·intro j a b ha hb
   by_cases hj : j + 1 < ps.length
   ·rw [List.getElem?_append_left (by omega)] at ha hb
    exact I.ex j a b ha hb
   ·have hjl := (List.getElem?_eq_some_iff.mp hb).1
    simp only [List.length_append, List.length_singleton] at hjl
    have ej : j = i := by omega
    subst ej
    rw [List.getElem?_append_left (by omega), I.last] at ha
    rw [List.getElem?_append_right (by omega), il, Nat.sub_self] at hb
    cases ha
    rw [List.getElem?_singleton, if_pos rfl] at hb
    cases hb
    exact ex
structure ExS (c : Bool) (ps : List Pt) : Prop where
 lo : 1 ≤ ps.length
 hi : ps.length ≤ 9
 sz : ∀ p ∈ ps, PtS 200 p
 ex : ∀ q ∈ nbs c ps, exL q.1 q.2
 ne : 1 ≤ (nbs c ps).length
theorem a6T {n : Nat} {f : FS} (most : Int) (hm : 2 ≤ most ∧ most ≤ 9) (h : Fd3 n f) (hn : n < 2 ^ 26) : ∃ ps ds f', WOp [.feed, .int most] (some f) = some (.tup [.bl false, .tup (ps.map pt)], some f') ∧ ExS false ps ∧ Wy ps ds ∧ Tg false ps ∧ Fd3 (n + 30) f' := by
 obtain ⟨W, Z, f1, e1, ok, h1⟩ := a6o h (by omega)
 obtain ⟨p, q, f2, e2, g1, g2, h2⟩ := a3t h1 (by omega)
 have sp := J5 p q (some f2) (g1.sz (by decide)) (g2.sz (by decide)) (by decide)
 obtain ⟨r, f3, e3, r1, r2, h3⟩ := o4 (most - 1) h2
 obtain ⟨m, hmm⟩ : ∃ m : Nat, (1 : Int) + r = (m : Int) := ⟨(1 + r).toNat, by omega⟩
 have rm : S7 [.int ((1 : Int) + r)] = some (ups 0 m) := by rw [hmm]; exact a1X (by omega)
 obtain ⟨s', lp, p', ps, ds, fm, x8, x9, x10, f', rfl, I⟩ := Z3 (t := i5 8) (b := lWO) (fun i s => ∃ p ps ds fm x8 x9 x10 f', s = ojS most W Z p ps fm x8 x9 x10 f' ∧ OpJ W (n + 5) i p ps ds fm f') (ups 0 m) 0 (ojS most W Z (p, q) [(p, q)] .non .no .no .no f3)
  ⟨(p, q), [(p, q)], [], .non, .no, .no, .no, f3, rfl, rfl, rfl, (fun z hz => by rw [List.mem_singleton.mp hz]; exact ⟨g1.mono (by omega), g2.mono (by omega)⟩), (fun j a b _ hb => by simp at hb), .inl ⟨rfl, rfl⟩, ⟨rfl, (fun j a b d _ _ hd => by simp at hd), (fun j d e hd _ => by simp at hd)⟩, h3⟩ (by
   rintro i d s hd ⟨p, ps, ds, fm, x8, x9, x10, f', rfl, I⟩
   obtain ⟨rfl, hi⟩ := a07 hd
   rw [Nat.zero_add] at *
   obtain ⟨p', ps', ds', fm', x9', x10', f'', e, I'⟩ := a6j (.val (.int ((0 : Int) + i))) x9 x10 ok I (by omega) (by omega)
   exact ⟨ojS most W Z p ps fm (.val (.int ((0 : Int) + i))) x9 x10 f', _, rfl, .inl e, p', ps', ds', fm', _, x9', x10', f'', rfl, I'⟩)
 rw [Nat.zero_add, V5] at I
 have l1 := I.len
 have bb := a2y (i := m) (by omega)
 refine ⟨ps, ds, f', l0 (s := ojS most W Z p' ps fm x8 x9 x10 f') ?_, ⟨by omega, by omega, fun z hz => ?_, fun z hz => ?_, by have nf := a4c false ps; simp at nf; omega⟩, I.wy, ⟨fun z hz => ?_, fun z hz => by have := I.gr z hz; exact ⟨this.1.sz bb, this.2.sz bb⟩⟩, I.fd.mono (by omega)⟩
 rotate_left
 ·have := I.gr z hz
  exact ⟨(this.1.sz bb).mono (by decide), (this.2.sz bb).mono (by decide)⟩
 ·obtain ⟨j, hj⟩ := List.getElem?_of_mem hz
  obtain ⟨q1, q2⟩ := a3e hj
  exact (I.ex j _ _ q1 q2).exL
 ·obtain ⟨j, hj⟩ := List.getElem?_of_mem hz
  obtain ⟨q1, q2⟩ := a3e hj
  exact I.ex j _ _ q1 q2
 show a2r WSp WPl WPr LDw WSt WMn ⟨[.val .feed, .val (.int most), .no, .no, .no, .no, .no, .no, .no, .no, .no], some f⟩ = _
 unfold a2r
 have rg : (a6 (dOp n4 (dC (.int 1)) (c9 LDw (a6 (dV 0) (a6 (dOp t9 (dL 1) (dC (.int 1))) a8)))) a8) (ojS most W Z (p, q) [(p, q)] .non .no .no .no f2) = some ([.int ((1 : Int) + r)], ojS most W Z (p, q) [(p, q)] .non .no .no .no f3) :=
  i7 (b6 rfl (j9 (i7 rfl (i7 (b6 rfl rfl rfl) rfl)) e3) rfl) rfl
 rw [i6 (s1 := ⟨[.val .feed, .val (.int most), .val (.lst (W.map wyD)), .val (.lst (Z.map szD)), .no, .no, .no, .no, .no, .no, .no], some f1⟩) (k5 (j9 rfl e1) rfl),
  i6 (s1 := ⟨[.val .feed, .val (.int most), .val (.lst (W.map wyD)), .val (.lst (Z.map szD)), .val (fr p), .val (fr q), .no, .no, .no, .no, .no], some f2⟩) (k5 (j9 rfl e2) rfl),
  i6 (s1 := ⟨[.val .feed, .val (.int most), .val (.lst (W.map wyD)), .val (.lst (Z.map szD)), .val (fr p), .val (fr q), .own [pt (p, q)], .no, .no, .no, .no], some f2⟩) (B2 (s1 := ⟨[.val .feed, .val (.int most), .val (.lst (W.map wyD)), .val (.lst (Z.map szD)), .val (fr p), .val (fr q), .no, .no, .no, .no, .no], some f2⟩) (a14 (j9 rfl sp)) (show 6 < 11 by decide)),
  i6 (s1 := ojS most W Z (p, q) [(p, q)] .non .no .no .no f2) (k5 rfl rfl),
  i6 ((a2p rg rm).trans lp)]
 exact l3 (v4 rfl (v5 rfl rfl))
theorem a8h {n : Nat} {f : FS} (most : Int) (hm : 2 ≤ most ∧ most ≤ 9) (h : Fd3 n f) (hn : n < 2 ^ 26) : ∃ ps f', WOp [.feed, .int most] (some f) = some (.tup [.bl false, .tup (ps.map pt)], some f') ∧ ExS false ps ∧ Tg false ps ∧ Fd3 (n + 30) f' := by
 obtain ⟨ps, _, f', e, hx, _, ht, hf⟩ := a6T most hm h hn
 exact ⟨ps, f', e, hx, ht, hf⟩
noncomputable def prI (z : Int × Int) : D := .tup [.int z.1, .int z.2]
noncomputable abbrev n9 (l : List (Int × Int)) : D := .tup (l.map prI)
noncomputable def T7 : List (List (Int × Int)) := [[(0, 0), (4, 0), (0, 3)], [(0, 0), (14, 0), (5, 12)], [(0, 0), (2, 0), (2, 2), (0, 2)], [(0, 0), (3, 4), (3, 0), (0, 4)], [(0, 0), (5, 0), (0, 0), (3, 4)],
 [(0, 0), (3, 0), (3, 4), (6, 8), (0, 8), (3, 4)], [(0, 0), (6, 0), (6, 2), (2, 2), (2, 4), (6, 4), (6, 6), (0, 6)]]
noncomputable def K2 (l : List (Int × Int)) : Bool := decide (1 ≤ l.length ∧ l.length ≤ 8) && (l.all fun z => decide (z.1.natAbs ≤ 14 ∧ z.2.natAbs ≤ 14)) && (nbs true l).all fun q => (List.range 16).any fun L => decide (1 ≤ L ∧ (q.1.1 - q.2.1) * (q.1.1 - q.2.1) + (q.1.2 - q.2.2) * (q.1.2 - q.2.2) = (L : Int) * L)
theorem a7o : (T7.all fun l => decide (l.length ≤ 8) && (List.range l.length).all fun k => K2 (l.drop k ++ l.take k) && K2 (l.drop k ++ l.take k).reverse) = true := by decide +kernel
theorem a7T {l : List (Int × Int)} (hl : l ∈ T7) {k : Nat} (hk : k < l.length) : l.length ≤ 8 ∧ K2 (l.drop k ++ l.take k) = true ∧ K2 (l.drop k ++ l.take k).reverse = true := by
 have h := List.all_eq_true.mp a7o l hl
 rw [Bool.and_eq_true] at h
 have h2 := List.all_eq_true.mp h.2 k (List.mem_range.mpr hk)
 rw [Bool.and_eq_true] at h2
 exact ⟨of_decide_eq_true h.1, h2.1, h2.2⟩
theorem a5n {l : List (Int × Int)} (h : K2 l = true) : (1 ≤ l.length ∧ l.length ≤ 8) ∧ (∀ z ∈ l, z.1.natAbs ≤ 14 ∧ z.2.natAbs ≤ 14) ∧ ∀ q ∈ nbs true l, ∃ L : Nat, L < 16 ∧ 1 ≤ L ∧ (q.1.1 - q.2.1) * (q.1.1 - q.2.1) + (q.1.2 - q.2.2) * (q.1.2 - q.2.2) = (L : Int) * L := by
 unfold K2 at h
 rw [Bool.and_eq_true, Bool.and_eq_true] at h
 refine ⟨of_decide_eq_true h.1.1, fun z hz => of_decide_eq_true (List.all_eq_true.mp h.1.2 z hz), fun q hq => ?_⟩
 obtain ⟨L, h1, h2⟩ := List.any_eq_true.mp (List.all_eq_true.mp h.2 q hq)
 exact ⟨L, List.mem_range.mp h1, of_decide_eq_true h2⟩
theorem a6L {o1 e1 o2 e2 a b h L k : Rat} (hp : a * a + b * b = h * h) (hl : (o1 - o2) * (o1 - o2) + (e1 - e2) * (e1 - e2) = L * L) (x y : Rat) :
  dsq (x + k * (o1 * a - e1 * b), y + k * (o1 * b + e1 * a)) (x + k * (o2 * a - e2 * b), y + k * (o2 * b + e2 * a)) = k * h * L * (k * h * L) := by
 have e : dsq (x + k * (o1 * a - e1 * b), y + k * (o1 * b + e1 * a)) (x + k * (o2 * a - e2 * b), y + k * (o2 * b + e2 * a)) = k * k * (((o1 - o2) * (o1 - o2) + (e1 - e2) * (e1 - e2)) * (a * a + b * b)) := by
  unfold dsq; grind
 rw [e, hp, hl]
 grind
structure AbH (a b h t u : Int) : Prop where
 py : a * a + b * b = h * h
 h0 : 0 < h
 h1 : h ≤ 13
 a1 : a.natAbs ≤ 12
 b1 : b.natAbs ≤ 12
 t0 : 0 < t
 t1 : t ≤ 3
 u0 : 0 < u
 u1 : u ≤ 2
 dv : (6630 : Int) % (u * h) = 0
noncomputable def clF (a b h t u : Int) (x y : Rat) (z : Int × Int) : Pt := (x + Rat.divInt (t * (z.1 * a - z.2 * b)) (u * h), y + Rat.divInt (t * (z.1 * b + z.2 * a)) (u * h))
theorem U7 (t c d : Int) : Rat.divInt (t * c) d = Rat.divInt t d * (c : Rat) := by
 rw [Rat.divInt_eq_div, Rat.divInt_eq_div, Rat.intCast_mul, Rat.div_def, Rat.div_def]
 grind
theorem a7r {a b h t u : Int} (A : AbH a b h t u) (x y : Rat) {z w : Int × Int} {L : Nat} (hL : L < 16) (hL1 : 1 ≤ L) (e : (z.1 - w.1) * (z.1 - w.1) + (z.2 - w.2) * (z.2 - w.2) = (L : Int) * L) : exT (clF a b h t u x y z) (clF a b h t u x y w) := by
 obtain ⟨py, h0, _, _, _, t0, t1, u0, u1, dv⟩ := A
 have bL : (t * L).natAbs ≤ 45 := by
  rw [Int.natAbs_mul]
  have : t.natAbs * (L : Int).natAbs ≤ 3 * 15 := Nat.mul_le_mul (by omega) (by omega)
  omega
 refine ⟨Rat.divInt (t * L) u, W1 (Int.mul_pos t0 (by omega)) u0, ?_, Gr.div u0 (a0N dv) (by unfold C3; omega)⟩
 ·have e1 : (h : Rat) ≠ 0 := fun z => by have := Rat.intCast_eq_zero_iff.mp z; omega
  have e2 : (u : Rat) ≠ 0 := fun z => by have := Rat.intCast_eq_zero_iff.mp z; omega
  have hp : (a : Rat) * a + (b : Rat) * b = (h : Rat) * h := by rw [← Rat.intCast_mul, ← Rat.intCast_mul, ← Rat.intCast_mul, ← Rat.intCast_add, py]
  have hl : ((z.1 : Rat) - w.1) * ((z.1 : Rat) - w.1) + ((z.2 : Rat) - w.2) * ((z.2 : Rat) - w.2) = ((L : Int) : Rat) * ((L : Int) : Rat) := by
   rw [← Rat.intCast_sub, ← Rat.intCast_sub, ← Rat.intCast_mul, ← Rat.intCast_mul, ← Rat.intCast_mul, ← Rat.intCast_add, e]
  have k := a6L (k := Rat.divInt t (u * h)) hp hl x y
  unfold clF
  rw [U7, U7, U7, U7, Rat.intCast_sub, Rat.intCast_add, Rat.intCast_sub, Rat.intCast_add, Rat.intCast_mul, Rat.intCast_mul, Rat.intCast_mul, Rat.intCast_mul, Rat.intCast_mul, Rat.intCast_mul, Rat.intCast_mul, Rat.intCast_mul, k]
  have q : Rat.divInt t (u * h) * (h : Rat) * ((L : Int) : Rat) = Rat.divInt (t * L) u := by
   rw [U7, Rat.divInt_eq_div, Rat.divInt_eq_div, Rat.intCast_mul]
   grind
  rw [q]
theorem a0b {a b h t u c : Int} (A : AbH a b h t u) (hc : c.natAbs ≤ 336) {x : Rat} (hx : Gr 46410 x) : Gr 10000000 (x + Rat.divInt (t * c) (u * h)) := by
 have : Gr 9000000 (Rat.divInt (t * c) (u * h)) := by
  refine Gr.div (Int.mul_pos A.u0 A.h0) A.dv ?_
  rw [Int.natAbs_mul]
  have := A.t0
  have := A.t1
  have : t.natAbs * c.natAbs ≤ 3 * 336 := Nat.mul_le_mul (by omega) hc
  omega
 exact (hx.add this).mono (by decide)
theorem Y4 {a z : Int} (ha : a.natAbs ≤ 12) (hz : z.natAbs ≤ 14) : (z * a).natAbs ≤ 168 := by
 rw [Int.natAbs_mul]
 exact Nat.le_trans (Nat.mul_le_mul hz ha) (by decide)
theorem a4j {a b : Int} {z : Int × Int} (ha : a.natAbs ≤ 12) (hb : b.natAbs ≤ 12) (h1 : z.1.natAbs ≤ 14) (h2 : z.2.natAbs ≤ 14) : (z.1 * a - z.2 * b).natAbs ≤ 336 ∧ (z.1 * b + z.2 * a).natAbs ≤ 336 :=
 ⟨Nat.le_trans (Int.natAbs_sub_le ..) (Nat.add_le_add (Y4 ha h1) (Y4 hb h2)), Nat.le_trans (Int.natAbs_add_le ..) (Nat.add_le_add (Y4 hb h1) (Y4 ha h2))⟩
noncomputable abbrev WCl : DFn := a2l WSp WPl WPr WSt LDw
noncomputable abbrev lWC : DM := Y3 WSp WPl WPr WSt LDw
noncomputable abbrev clS (L : List D) (l : D) (k a b h t u : Int) (x y : Rat) (x10 x11 x12 x13 x14 : Sl) (f : FS) : DS :=
 ⟨[.val .feed, .own L, .val l, .val (.int k), .val (.int a), .val (.int b), .val (.int h), .val (.tup [.int t, .int u]), .val (fr x), .val (fr y), x10, x11, x12, x13, x14], some f⟩
theorem J7 {i : Int} (h : i.natAbs ≤ 400) : o0 i = true := Bd.bits (k := 10) (show i.natAbs < 2 ^ 10 by omega) (by decide)
theorem a7Y {a b h t u : Int} (A : AbH a b h t u) {x y : Rat} (hx : Gr 46410 x) (hy : Gr 46410 y) (L : List D) (l : D) (k : Int) {z : Int × Int} (h1 : z.1.natAbs ≤ 14) (h2 : z.2.natAbs ≤ 14) (acc : List D) (hl : acc.length ≤ 20) (x13 x14 : Sl) (f : FS) :
  ∃ y13 y14, lWC (clS L l k a b h t u x y (.own acc) (.val (.int z.1)) (.val (.int z.2)) x13 x14 f) = some (.next, clS L l k a b h t u x y (.own (acc ++ [pt (clF a b h t u x y z)])) (.val (.int z.1)) (.val (.int z.2)) y13 y14 f) := by
 obtain ⟨c1, c2⟩ := a4j (z := z) A.a1 A.b1 h1 h2
 have m1 := o5 (J7 (Nat.le_trans h1 (by decide))) (J7 (Nat.le_trans A.a1 (by decide)))
 have m2 := o5 (J7 (Nat.le_trans h2 (by decide))) (J7 (Nat.le_trans A.b1 (by decide)))
 have m3 := o5 (J7 (Nat.le_trans h1 (by decide))) (J7 (Nat.le_trans A.b1 (by decide)))
 have m4 := o5 (J7 (Nat.le_trans h2 (by decide))) (J7 (Nat.le_trans A.a1 (by decide)))
 have t0 := A.t0
 have t1 := A.t1
 have u0 := A.u0
 have u1 := A.u1
 have hh0 := A.h0
 have hh1 := A.h1
 have p1 := U5 t u (z.1 * a - z.2 * b) h (some f) (by omega) (by omega) (k := 10) (l := 10) (show _ < _ by omega) (show _ < _ by omega) (show _ < _ by omega) (show _ < _ by omega) (by decide)
 have p2 := U5 t u (z.1 * b + z.2 * a) h (some f) (by omega) (by omega) (k := 10) (l := 10) (show _ < _ by omega) (show _ < _ by omega) (show _ < _ by omega) (show _ < _ by omega) (by decide)
 have sd : ∀ c : Int, c.natAbs ≤ 336 → Sz 80 (Rat.divInt (t * c) (u * h)) := fun c hc => by
  have : (t * c).natAbs ≤ 3 * 336 := by rw [Int.natAbs_mul]; exact Nat.mul_le_mul (by omega) hc
  have : (u * h).natAbs ≤ 2 * 13 := by rw [Int.natAbs_mul]; exact Nat.mul_le_mul (by omega) (by omega)
  exact Sz.of_divInt (Int.mul_ne_zero (by omega) (by omega)) (by omega) (by omega)
 have s1 := N4 x _ (some f) (hx.sz (by decide)) (sd _ c1) (by decide)
 have s2 := N4 y _ (some f) (hy.sz (by decide)) (sd _ c2) (by decide)
 have sp := J5 _ _ (some f) ((a0b A c1 hx).sz (by decide)) ((a0b A c2 hy).sz (by decide)) (by decide)
 refine ⟨.val (fr (Rat.divInt (t * (z.1 * a - z.2 * b)) (u * h))), .val (fr (Rat.divInt (t * (z.1 * b + z.2 * a)) (u * h))), ?_⟩
 unfold clF
 show Y3 WSp WPl WPr WSt LDw _ = _
 unfold Y3
 rw [i6 (s1 := clS L l k a b h t u x y (.own acc) (.val (.int z.1)) (.val (.int z.2)) (.val (fr (Rat.divInt (t * (z.1 * a - z.2 * b)) (u * h)))) x14 f) (k5 (j9 (i7 rfl (i7 (v4 (b6 (b6 rfl rfl m1) (b6 rfl rfl m2) rfl) rfl) rfl)) p1) rfl),
  i6 (s1 := clS L l k a b h t u x y (.own acc) (.val (.int z.1)) (.val (.int z.2)) (.val (fr (Rat.divInt (t * (z.1 * a - z.2 * b)) (u * h)))) (.val (fr (Rat.divInt (t * (z.1 * b + z.2 * a)) (u * h)))) f) (k5 (j9 (i7 rfl (i7 (v4 (b6 (b6 rfl rfl m3) (b6 rfl rfl m4) rfl) rfl) rfl)) p2) rfl)]
 exact Z5 rfl (j9 (i7 (j9 (i7 rfl (i7 rfl rfl)) s1) (i7 (j9 (i7 rfl (i7 rfl rfl)) s2) rfl)) sp) rfl (Nat.lt_of_le_of_lt hl (by decide))
theorem a5j {a b h t u : Int} (A : AbH a b h t u) {x y : Rat} (hx : Gr 46410 x) (hy : Gr 46410 y) (L : List D) (l : D) (k : Int) (f : FS) : ∀ (zs : List (Int × Int)) (acc : List D) (x11 x12 x13 x14 : Sl), (∀ z ∈ zs, z.1.natAbs ≤ 14 ∧ z.2.natAbs ≤ 14) → acc.length + zs.length ≤ 20 →
  ∃ y11 y12 y13 y14, v0 (t3 2 (m5 (i5 11) (m5 (i5 12) t7))) lWC (zs.map prI) (clS L l k a b h t u x y (.own acc) x11 x12 x13 x14 f) = some (.next, clS L l k a b h t u x y (.own (acc ++ zs.map fun z => pt (clF a b h t u x y z))) y11 y12 y13 y14 f)
 | [], acc, x11, x12, x13, x14, _, _ => ⟨x11, x12, x13, x14, by rw [List.map_nil, List.map_nil, List.append_nil]; rfl⟩
 | z :: r, acc, x11, x12, x13, x14, hz, hl => by
  rw [List.length_cons] at hl
  obtain ⟨b1, b2⟩ := hz z (List.mem_cons_self ..)
  obtain ⟨y13, y14, e⟩ := a7Y A hx hy L l k b1 b2 acc (by omega) x13 x14 f
  obtain ⟨z11, z12, z13, z14, e2⟩ := a5j A hx hy L l k f r (acc ++ [pt (clF a b h t u x y z)]) (.val (.int z.1)) (.val (.int z.2)) y13 y14 (fun w hw => hz w (List.mem_cons_of_mem _ hw)) (by rw [List.length_append, List.length_singleton]; omega)
  refine ⟨z11, z12, z13, z14, ?_⟩
  rw [List.map_cons, a1D (s1 := clS L l k a b h t u x y (.own acc) (.val (.int z.1)) (.val (.int z.2)) x13 x14 f) rfl e, e2, List.append_assoc]
  rfl
noncomputable def a1L : List D := [.tup [.int 1, .int 0, .int 1], .tup [.int 0, .int 1, .int 1], .tup [.int 3, .int 4, .int 5], .tup [.int (-4), .int 3, .int 5], .tup [.int 5, .int 12, .int 13]]
noncomputable def a1d : List D := [.tup [.int 1, .int 1], .tup [.int 1, .int 2], .tup [.int 3, .int 1]]
noncomputable def okA (a b h t u : Int) : Bool := decide (a * a + b * b = h * h ∧ 0 < h ∧ h ≤ 13 ∧ a.natAbs ≤ 12 ∧ b.natAbs ≤ 12 ∧ 0 < t ∧ t ≤ 3 ∧ 0 < u ∧ u ≤ 2 ∧ (6630 : Int) % (u * h) = 0)
theorem a7R {a b h t u : Int} (e : okA a b h t u = true) : AbH a b h t u := by
 obtain ⟨h1, h2, h3, h4, h5, h6, h7, h8, h9, h10⟩ := of_decide_eq_true e
 exact ⟨h1, h2, h3, h4, h5, h6, h7, h8, h9, h10⟩
noncomputable def A5 : List (Int × Int × Int) := [(1, 0, 1), (0, 1, 1), (3, 4, 5), (-4, 3, 5), (5, 12, 13)]
noncomputable def B3 : List (Int × Int) := [(1, 1), (1, 2), (3, 1)]
theorem a5D : (A5.all fun x => B3.all fun y => okA x.1 x.2.1 x.2.2 y.1 y.2) = true := by decide
theorem a7C {r s : Int} (h0 : 0 ≤ r) (h1 : r < 5) (g0 : 0 ≤ s) (g1 : s < 3) : ∃ a b h t u, atI a1L r = some (.tup [.int a, .int b, .int h]) ∧ atI a1d s = some (.tup [.int t, .int u]) ∧ AbH a b h t u := by
 obtain ⟨x, hx, e⟩ := D0 (xs := a1L) h0 h1
 obtain ⟨y, hy, f⟩ := D0 (xs := a1d) g0 g1
 obtain ⟨z, hz, rfl⟩ := List.mem_map.mp (show x ∈ A5.map (fun z => D.tup [.int z.1, .int z.2.1, .int z.2.2]) from hx)
 obtain ⟨w, hw, rfl⟩ := List.mem_map.mp (show y ∈ B3.map (fun z => D.tup [.int z.1, .int z.2]) from hy)
 exact ⟨_, _, _, _, _, e, f, a7R (List.all_eq_true.mp (List.all_eq_true.mp a5D z hz) w hw)⟩
theorem a8E {as bs : List D} (h : as.length + bs.length ≤ 100) : n4 (.tup as) (.tup bs) = some (.tup (as ++ bs)) := if_pos (K9 h)
noncomputable abbrev a4h (m : DFn) : DE := W2 (dOp n4 (dSl (dL 2) (dAt (dL 3)) dNo) (dSl (dL 2) dNo (dAt (dL 3)))) (dOp t9 (dC (.int 1)) (dOp k0 (dC (.int 2)) (c9 m (a6 (dV 0) (a6 (dC (.int 2)) a8)))))
theorem a8v {k : Nat} {x1 : Sl} {ds : List D} {X : List Sl} {f f' : FS} {r : Int} (hk : k ≤ ds.length) (hl : ds.length ≤ 20) (e : LDw [.feed, .int 2] (some f) = some (.int r, some f')) (r0 : 0 ≤ r) (r1 : r < 2) :
  a4h LDw ⟨.val .feed :: x1 :: .val (.tup ds) :: .val (.int k) :: X, some f⟩ = some (.tup (if r = 1 then (ds.drop k ++ ds.take k).reverse else ds.drop k ++ ds.take k), ⟨.val .feed :: x1 :: .val (.tup ds) :: .val (.int k) :: X, some f'⟩) := by
 have c1 := a5Q ds k hk
 have c2 := a6x ds k hk
 have hz : (ds.drop k).length + (ds.take k).length ≤ 100 := by rw [List.length_drop, List.length_take]; omega
 have s1 : dSl (dL 2) (dAt (dL 3)) dNo ⟨.val .feed :: x1 :: .val (.tup ds) :: .val (.int k) :: X, some f⟩ = some (.tup (ds.drop k), ⟨.val .feed :: x1 :: .val (.tup ds) :: .val (.int k) :: X, some f⟩) := by rw [← c1]; rfl
 have s2 : dSl (dL 2) dNo (dAt (dL 3)) ⟨.val .feed :: x1 :: .val (.tup ds) :: .val (.int k) :: X, some f⟩ = some (.tup (ds.take k), ⟨.val .feed :: x1 :: .val (.tup ds) :: .val (.int k) :: X, some f⟩) := by rw [← c2]; rfl
 have a := b6 s1 s2 (a8E hz)
 have h : r = 0 ∨ r = 1 := by omega
 have m2 : k0 (.int 2) (.int r) = some (.int (2 * r)) := o5 (by decide) (J7 (by omega))
 have st : dOp t9 (dC (.int 1)) (dOp k0 (dC (.int 2)) (c9 LDw (a6 (dV 0) (a6 (dC (.int 2)) a8)))) ⟨.val .feed :: x1 :: .val (.tup ds) :: .val (.int k) :: X, some f⟩ = some (.int (1 - 2 * r), ⟨.val .feed :: x1 :: .val (.tup ds) :: .val (.int k) :: X, some f'⟩) := b6 rfl (b6 rfl (j9 (i7 rfl (i7 rfl rfl)) e) m2) rfl
 unfold a4h W2
 rw [a, Option.bind_some, st, Option.bind_some]
 rcases h with rfl | rfl
 ·rfl
 ·rfl
theorem a8M {a b h t u : Int} (x y : Rat) (zs : List (Int × Int)) : (zs.map fun z => pt (clF a b h t u x y z)) = (zs.map (clF a b h t u x y)).map pt := by rw [List.map_map]; rfl
theorem a7M (l : List (Int × Int)) (k : Nat) : (l.map prI).drop k ++ (l.map prI).take k = (l.drop k ++ l.take k).map prI := by rw [List.map_append, List.map_drop, List.map_take]
theorem a9L (l : List (Int × Int)) (k : Nat) (r : Int) : (if r = 1 then ((l.map prI).drop k ++ (l.map prI).take k).reverse else (l.map prI).drop k ++ (l.map prI).take k) = (if r = 1 then (l.drop k ++ l.take k).reverse else l.drop k ++ l.take k).map prI := by
 rw [a7M]
 split
 ·rw [List.map_reverse]
 ·rfl
theorem a35 {a b h t u : Int} (A : AbH a b h t u) {x y : Rat} (hx : Gr 46410 x) (hy : Gr 46410 y) {zs : List (Int × Int)} (hz : K2 zs = true) : ExS true (zs.map (clF a b h t u x y)) ∧ Tg true (zs.map (clF a b h t u x y)) := by
 obtain ⟨⟨l1, l2⟩, bd, ex⟩ := a5n hz
 have sz : ∀ p ∈ zs.map (clF a b h t u x y), PtS 80 p := fun p hp => by
  obtain ⟨z, hz, rfl⟩ := List.mem_map.mp hp
  obtain ⟨b1, b2⟩ := bd z hz
  obtain ⟨c1, c2⟩ := a4j (z := z) A.a1 A.b1 b1 b2
  exact ⟨(a0b A c1 hx).sz (by decide), (a0b A c2 hy).sz (by decide)⟩
 have xt : ∀ q ∈ nbs true (zs.map (clF a b h t u x y)), exT q.1 q.2 := fun q hq => by
  rw [a68] at hq
  obtain ⟨z, hz, rfl⟩ := List.mem_map.mp hq
  obtain ⟨L, h1, h3, h2⟩ := ex z hz
  exact a7r A x y h1 h3 h2
 exact ⟨⟨by rw [List.length_map]; exact l1, by rw [List.length_map]; omega, fun p hp => ⟨(sz p hp).1.mono (by decide), (sz p hp).2.mono (by decide)⟩, fun q hq => (xt q hq).exL, by have nf := a4c true (zs.map (clF a b h t u x y)); rw [List.length_map] at nf; simp at nf; omega⟩, xt, sz⟩
theorem a9G {n : Nat} {f : FS} (h : Fd3 n f) (hn : n < 2 ^ 26) : ∃ ps f', WCl [.feed] (some f) = some (.tup [.bl true, .tup (ps.map pt)], some f') ∧ ExS true ps ∧ Tg true ps ∧ Fd3 (n + 30) f' := by
 obtain ⟨r1, f1, e1, a1, a2, h1⟩ := o4 7 h
 obtain ⟨d1, m1, q1⟩ := D0 (xs := T7.map n9) a1 a2
 obtain ⟨l, hl, rfl⟩ := List.mem_map.mp m1
 have hl0 : 1 ≤ l.length ∧ l.length ≤ 8 := by
  have : (T7.all fun l => decide (1 ≤ l.length ∧ l.length ≤ 8)) = true := by decide
  exact of_decide_eq_true (List.all_eq_true.mp this l hl)
 obtain ⟨r2, f2, e2, b1, b2, h2⟩ := o4 ((l.map prI).length : Int) h1 (by rw [List.length_map]; omega) (by omega) (by rw [List.length_map]; omega)
 obtain ⟨k, rfl⟩ := Int.eq_ofNat_of_zero_le b1
 have hk : k < l.length := by rw [List.length_map] at b2; omega
 obtain ⟨r3, f3, e3, c1, c2, h3⟩ := o4 2 h2
 obtain ⟨r4, f4, e4, i1, i2, h4⟩ := o4 5 h3
 obtain ⟨r5, f5, e5, j1, j2, h5⟩ := o4 3 h4
 obtain ⟨a, b, hh, t, u, t1, t2, A⟩ := a7C i1 i2 j1 j2
 obtain ⟨x, y, f6, e6, gx, gy, h6⟩ := a3t h5 (by omega)
 obtain ⟨_, k1, k2⟩ := a7T hl hk
 have rt := a8v (x1 := .own (T7.map n9)) (X := [.no, .no, .no, .no, .no, .no, .no, .no, .no, .no, .no]) (ds := l.map prI) (k := k) (by rw [List.length_map]; omega) (by rw [List.length_map]; omega) e3 c1 c2
 rw [a9L] at rt
 have hz : K2 (if r3 = 1 then (l.drop k ++ l.take k).reverse else l.drop k ++ l.take k) = true := by
  split
  ·exact k2
  ·exact k1
 obtain ⟨⟨zl1, zl2⟩, bd, _⟩ := a5n hz
 obtain ⟨y11, y12, y13, y14, lp⟩ := a5j A gx gy (T7.map n9) (.tup (((if r3 = 1 then (l.drop k ++ l.take k).reverse else l.drop k ++ l.take k)).map prI)) k f6 ((if r3 = 1 then (l.drop k ++ l.take k).reverse else l.drop k ++ l.take k)) [] .no .no .no .no bd (by rw [List.length_nil]; omega)
 rw [List.nil_append, a8M] at lp
 refine ⟨((if r3 = 1 then (l.drop k ++ l.take k).reverse else l.drop k ++ l.take k)).map (clF a b hh t u x y), f6, l0 (s := clS (T7.map n9) (.tup (((if r3 = 1 then (l.drop k ++ l.take k).reverse else l.drop k ++ l.take k)).map prI)) k a b hh t u x y (.own ((((if r3 = 1 then (l.drop k ++ l.take k).reverse else l.drop k ++ l.take k)).map (clF a b hh t u x y)).map pt)) y11 y12 y13 y14 f6) ?_, (a35 A gx gy hz).1, (a35 A gx gy hz).2, h6.mono (by omega)⟩
 show a1K WSp WPl WPr WSt LDw ⟨[.val .feed, .no, .no, .no, .no, .no, .no, .no, .no, .no, .no, .no, .no, .no, .no], some f⟩ = _
 unfold a1K
 rw [i6 (s1 := ⟨[.val .feed, .own ((T7.take 3).map n9), .no, .no, .no, .no, .no, .no, .no, .no, .no, .no, .no, .no, .no], some f⟩) (B2 (s1 := ⟨[.val .feed, .no, .no, .no, .no, .no, .no, .no, .no, .no, .no, .no, .no, .no, .no], some f⟩) rfl (show 1 < 15 by decide)),
  i6 (s1 := ⟨[.val .feed, .own ((T7.take 5).map n9), .no, .no, .no, .no, .no, .no, .no, .no, .no, .no, .no, .no, .no], some f⟩) (B2 (s1 := ⟨[.val .feed, .own ((T7.take 3).map n9), .no, .no, .no, .no, .no, .no, .no, .no, .no, .no, .no, .no, .no], some f⟩) (W6 (x := .lst ((T7.take 3).map n9)) (y := .lst (((T7.drop 3).take 2).map n9)) (s1 := ⟨[.val .feed, .own ((T7.take 3).map n9), .no, .no, .no, .no, .no, .no, .no, .no, .no, .no, .no, .no, .no], some f⟩) rfl (u3 rfl) (W8 (by decide))) (show 1 < 15 by decide)),
  i6 (s1 := ⟨[.val .feed, .own ((T7.take 6).map n9), .no, .no, .no, .no, .no, .no, .no, .no, .no, .no, .no, .no, .no], some f⟩) (B2 (s1 := ⟨[.val .feed, .own ((T7.take 5).map n9), .no, .no, .no, .no, .no, .no, .no, .no, .no, .no, .no, .no, .no], some f⟩) (W6 (x := .lst ((T7.take 5).map n9)) (y := .lst (((T7.drop 5).take 1).map n9)) (s1 := ⟨[.val .feed, .own ((T7.take 5).map n9), .no, .no, .no, .no, .no, .no, .no, .no, .no, .no, .no, .no, .no], some f⟩) rfl (u3 rfl) (W8 (by decide))) (show 1 < 15 by decide)),
  i6 (s1 := ⟨[.val .feed, .own (T7.map n9), .no, .no, .no, .no, .no, .no, .no, .no, .no, .no, .no, .no, .no], some f⟩) (B2 (s1 := ⟨[.val .feed, .own ((T7.take 6).map n9), .no, .no, .no, .no, .no, .no, .no, .no, .no, .no, .no, .no, .no], some f⟩) (W6 (x := .lst ((T7.take 6).map n9)) (y := .lst ((T7.drop 6).map n9)) (s1 := ⟨[.val .feed, .own ((T7.take 6).map n9), .no, .no, .no, .no, .no, .no, .no, .no, .no, .no, .no, .no, .no], some f⟩) rfl (u3 rfl) (W8 (by decide))) (show 1 < 15 by decide))]
 rw [i6 (s1 := ⟨[.val .feed, .own (T7.map n9), .val (n9 l), .no, .no, .no, .no, .no, .no, .no, .no, .no, .no, .no, .no], some f1⟩) (k5 (b6 rfl (j9 rfl e1) (t8 q1)) rfl),
  i6 (s1 := ⟨[.val .feed, .own (T7.map n9), .val (n9 l), .val (.int k), .no, .no, .no, .no, .no, .no, .no, .no, .no, .no, .no], some f2⟩) (k5 (j9 (i7 rfl (i7 (v5 (p := l4) rfl rfl) rfl)) e2) rfl),
  i6 (s1 := ⟨[.val .feed, .own (T7.map n9), .val (.tup (((if r3 = 1 then (l.drop k ++ l.take k).reverse else l.drop k ++ l.take k)).map prI)), .val (.int k), .no, .no, .no, .no, .no, .no, .no, .no, .no, .no, .no], some f3⟩) (k5 rt rfl),
  i6 (s1 := ⟨[.val .feed, .own (T7.map n9), .val (.tup (((if r3 = 1 then (l.drop k ++ l.take k).reverse else l.drop k ++ l.take k)).map prI)), .val (.int k), .val (.int a), .val (.int b), .val (.int hh), .no, .no, .no, .no, .no, .no, .no, .no], some f4⟩) (k5 (b6 (x := .lst a1L) (s1 := ⟨[.val .feed, .own (T7.map n9), .val (.tup (((if r3 = 1 then (l.drop k ++ l.take k).reverse else l.drop k ++ l.take k)).map prI)), .val (.int k), .no, .no, .no, .no, .no, .no, .no, .no, .no, .no, .no], some f3⟩) (u3 rfl) (j9 rfl e4) (t8 t1)) rfl),
  i6 (s1 := ⟨[.val .feed, .own (T7.map n9), .val (.tup (((if r3 = 1 then (l.drop k ++ l.take k).reverse else l.drop k ++ l.take k)).map prI)), .val (.int k), .val (.int a), .val (.int b), .val (.int hh), .val (.tup [.int t, .int u]), .no, .no, .no, .no, .no, .no, .no], some f5⟩) (k5 (b6 (x := .lst a1d) (s1 := ⟨[.val .feed, .own (T7.map n9), .val (.tup (((if r3 = 1 then (l.drop k ++ l.take k).reverse else l.drop k ++ l.take k)).map prI)), .val (.int k), .val (.int a), .val (.int b), .val (.int hh), .no, .no, .no, .no, .no, .no, .no, .no], some f4⟩) (u3 rfl) (j9 rfl e5) (t8 t2)) rfl),
  i6 (s1 := ⟨[.val .feed, .own (T7.map n9), .val (.tup (((if r3 = 1 then (l.drop k ++ l.take k).reverse else l.drop k ++ l.take k)).map prI)), .val (.int k), .val (.int a), .val (.int b), .val (.int hh), .val (.tup [.int t, .int u]), .val (fr x), .val (fr y), .no, .no, .no, .no, .no], some f6⟩) (k5 (j9 rfl e6) rfl),
  i6 (s1 := clS (T7.map n9) (.tup (((if r3 = 1 then (l.drop k ++ l.take k).reverse else l.drop k ++ l.take k)).map prI)) k a b hh t u x y (.own []) .no .no .no .no f6) (B2 (s1 := ⟨[.val .feed, .own (T7.map n9), .val (.tup (((if r3 = 1 then (l.drop k ++ l.take k).reverse else l.drop k ++ l.take k)).map prI)), .val (.int k), .val (.int a), .val (.int b), .val (.int hh), .val (.tup [.int t, .int u]), .val (fr x), .val (fr y), .no, .no, .no, .no, .no], some f6⟩) rfl (show 10 < 15 by decide)),
  i6 ((a0y (ds := ((if r3 = 1 then (l.drop k ++ l.take k).reverse else l.drop k ++ l.take k)).map prI) (s1 := clS (T7.map n9) (.tup (((if r3 = 1 then (l.drop k ++ l.take k).reverse else l.drop k ++ l.take k)).map prI)) k a b hh t u x y (.own []) .no .no .no .no f6) rfl).trans lp)]
 exact l3 (v4 rfl (v5 rfl rfl))
noncomputable abbrev WEx : DFn := a02 LDw WCl WOp
theorem a7O {n : Nat} {f : FS} (most : Int) (hm : 2 ≤ most ∧ most ≤ 9) (h : Fd3 n f) (hn : n < 2 ^ 25) : ∃ c ps f', WEx [.feed, .int most] (some f) = some (.tup [.bl c, .tup (ps.map pt)], some f') ∧ ExS c ps ∧ Tg c ps ∧ Fd3 (n + 31) f' := by
 obtain ⟨r, f1, e1, a1, a2, h1⟩ := o4 3 h
 by_cases hr : r = 0
 ·subst hr
  obtain ⟨ps, f2, e2, x, tx, h2⟩ := a9G h1 (by omega)
  refine ⟨true, ps, f2, l0 (s := ⟨[.val .feed, .val (.int most)], some f2⟩) (l3 ?_), x, tx, h2.mono (by omega)⟩
  exact (X0 (n5 (b6 (j9 rfl e1) rfl (B7 0 0)))).trans (j9 rfl e2)
 ·obtain ⟨ps, f2, e2, x, tx, h2⟩ := a8h most hm h1 (by omega)
  refine ⟨false, ps, f2, l0 (s := ⟨[.val .feed, .val (.int most)], some f2⟩) (l3 ?_), x, tx, h2.mono (by omega)⟩
  exact (W4 (n5 (b6 (j9 rfl e1) rfl ((B7 r 0).trans (by rw [decide_eq_false hr]))))).trans (j9 rfl e2)
theorem a5u {n : Nat} {f : FS} (most : Int) (hm : 2 ≤ most ∧ most ≤ 9) (h : Fd3 n f) (hn : n < 2 ^ 25) : ∃ c ps f', WEx [.feed, .int most] (some f) = some (.tup [.bl c, .tup (ps.map pt)], some f') ∧ ExS c ps ∧ Fd3 (n + 31) f' := by
 obtain ⟨c, ps, f', e, hx, _, hf⟩ := a7O most hm h hn
 exact ⟨c, ps, f', e, hx, hf⟩
noncomputable def R5 (a b : Pt) (s : Rat) : Pt := (a.1 + s * (b.1 - a.1), a.2 + s * (b.2 - a.2))
theorem a6H {x y z : Rat} (hy : y ≠ 0) (h : x = z * y) : x / y = z := by rw [h, Rat.mul_div_cancel hy]
theorem a3W (p : Rat) : ((p.den : Int) : Rat) ≠ 0 := fun h => B5 p (Rat.intCast_eq_zero_iff.mp h)
variable {c : Bool} {ps : List Pt} {m : Nat} {S : Nat → Rat} {Q : Nat → Pt × Pt} {T : List Rat}
end T
namespace T
open PySem L2 DL
variable {c : Bool} {ps : List Pt} {m : Nat} {S : Nat → Rat} {Q : Nat → Pt × Pt} {T : List Rat}
end T
namespace T
open PySem L2 DL
variable {c : Bool} {ps : List Pt} {m : Nat} {S : Nat → Rat} {Q : Nat → Pt × Pt} {T : List Rat}
end T
namespace T
open PySem L2 DL
variable {c : Bool} {ps : List Pt} {m : Nat} {S : Nat → Rat} {Q : Nat → Pt × Pt} {T : List Rat}
end T
namespace T
open PySem L2 DL
variable {m : Nat} {S : Nat → Rat} {p D : Nat → Pt} {X : List Rat}
end T
namespace T
open PySem L2 DL
noncomputable abbrev FCp : DFn := a0d FL (G9 FL) FP (J8 FF) (G8 FF)
structure Chg (cD : D) (φ : Pt → Pt) (q : Rat) : Prop where
 pl : ∀ (k : Nat) (a : Pt) (fs : Option FS), PtS k a → k ≤ 1500 → FCp [cD, pt a] fs = some (pt (φ a), fs)
 sz : ∀ (k : Nat) (a : Pt), PtS k a → PtS (k + 10) (φ a)
 bt : ∀ (a b : Pt) (s : Rat), φ (R5 a b s) = R5 (φ a) (φ b) s
 dq : ∀ (a b : Pt), dsq (φ a) (φ b) = (q * q) * dsq a b
 q0 : 0 < q
 qz : Sz 5 q
 qg : ∀ x : Rat, Gr C3 x → Gf F6 (q * x)
 qe : ∀ (s : DS), s.sl[2]? = some (.val cD) → dIf (dB (dOp pEq (dOp pIx (dL 2) (dC (.int 0))) (dC (.str "scale")))) (dOp pIx (dL 2) (dC (.int 1))) (c7 (a6 (dC (.int 1)) (a6 (dC (.int 1)) a8))) s = some (fr q, s)
theorem a26 (x y : Str) : pEq (.str x) (.str y) = some (.bl (decide (x = y))) := rfl
theorem a0T {x y : Str} (h : x = y) : pEq (.str x) (.str y) = some (.bl true) := by rw [a26, decide_eq_true h]
theorem a0h {x y : Str} (h : x ≠ y) : pEq (.str x) (.str y) = some (.bl false) := by rw [a26, decide_eq_false h]
theorem Q7 (d : D) (r : List D) : pIx (.tup (d :: r)) (.int 0) = some d := (ixT (d :: r) 0).trans (atN (i := 0) rfl)
theorem T9 {i : Nat} {s : DS} {d : D} (h : s.sl[i]? = some (.val d)) : dL i s = some (d, s) := by
 unfold dL
 rw [h]
theorem X8 {g : D → Option D} {f : DE} {s s1 : DS} {x y : D} (h : f s = some (x, s1)) (hg : g x = some y) : dUn g f s = some (y, s1) := by
 unfold dUn
 rw [h, Option.bind_some]
 show (g x).map _ = _
 rw [hg]
 rfl
theorem a1H {cD : D} {w : Str} {r : List D} (hc : cD = .tup (.str w :: r)) (hw : w ≠ "scale") (s : DS) (h : s.sl[2]? = some (.val cD)) : dIf (dB (dOp pEq (dOp pIx (dL 2) (dC (.int 0))) (dC (.str "scale")))) (dOp pIx (dL 2) (dC (.int 1))) (c7 (a6 (dC (.int 1)) (a6 (dC (.int 1)) a8))) s = some (fr 1, s) := by
 subst hc
 exact (W4 (n5 (b6 (b6 (T9 h) rfl (Q7 _ _)) rfl (a0h hw)))).trans (v4 rfl rfl)
theorem a19 {x : Rat} (h : Gr C3 x) : Gf F6 (1 * x) := by
 rw [Rat.one_mul]
 exact h.fine.mono (by unfold C3 F6 A1; decide)
noncomputable abbrev cpS (cD : D) (a : Pt) (x2 : Sl) (fs : Option FS) : DS := ⟨[.val cD, .val (pt a), x2], fs⟩
theorem R0 {cD : D} {w u : Str} {r : List D} (hc : cD = .tup (.str w :: r)) (hw : w ≠ u) (a : Pt) (X : DM) (fs : Option FS) : k4 (dB (dOp pEq (dOp pIx (dL 0) (dC (.int 0))) (dC (.str u)))) X k9 (cpS cD a .no fs) = some (.next, cpS cD a .no fs) := by
 subst hc
 exact K5 (n5 (b6 (b6 rfl rfl (Q7 _ _)) rfl (a0h hw)))
theorem a1i {cD : D} {w u : Str} {r : List D} (hc : cD = .tup (.str w :: r)) (hw : w = u) (a : Pt) (X : DM) (fs : Option FS) : k4 (dB (dOp pEq (dOp pIx (dL 0) (dC (.int 0))) (dC (.str u)))) X k9 (cpS cD a .no fs) = X (cpS cD a .no fs) := by
 subst hc
 exact E6 (n5 (b6 (b6 rfl rfl (Q7 _ _)) rfl (a0T hw)))
theorem a6f {x y : Rat} (hx : Sz 5 x) (hy : Sz 5 y) : Chg (.tup [.str "move", fr x, fr y]) (fun a => (a.1 + x, a.2 + y)) 1 := by
 refine ⟨?_, ?_, ?_, ?_, by decide, Sz.lit (by decide), fun _ => a19, a1H rfl (by decide)⟩
 ·intro k a fs ha hk
  have ps := Ps.of ha.1 ha.2
  have e1 := a6I a fs ps (by omega)
  have e2 := pup a fs ps (by omega)
  have p1 := a3D a.1 x fs ha.1 hx (by omega)
  have p2 := a3D a.2 y fs ha.2 hy (by omega)
  have e3 := b0d (a.1 + x) (a.2 + y) fs (ha.1.add hx) (ha.2.add hy) (by omega)
  refine l0 (s := cpS (.tup [.str "move", fr x, fr y]) a .no fs) ?_
  show J4 FL (G9 FL) FP (J8 FF) (G8 FF) (cpS (.tup [.str "move", fr x, fr y]) a .no fs) = _
  unfold J4
  refine B4 ?_
  rw [a1i rfl rfl]
  exact l3 (l7 (i7 (l7 (i7 (l7 rfl e1) (i7 (b6 rfl rfl ((ixT [.str "move", fr x, fr y] 1).trans (atN (i := 1) rfl))) rfl)) p1) (i7 (l7 (i7 (l7 rfl e2) (i7 (b6 rfl rfl ((ixT [.str "move", fr x, fr y] 2).trans (atN (i := 2) rfl))) rfl)) p2) rfl)) e3)
 ·intro k a ha
  exact ⟨(ha.1.add hx).mono (by omega), (ha.2.add hy).mono (by omega)⟩
 ·intro a b s
  unfold R5
  exact Prod.ext (by grind) (by grind)
 ·intro a b
  unfold dsq
  grind
theorem b0l : Chg (.tup [.str "quarter"]) (fun a => (-a.2, a.1)) 1 := by
 refine ⟨?_, ?_, ?_, ?_, by decide, Sz.lit (by decide), fun _ => a19, a1H rfl (by decide)⟩
 ·intro k a fs ha hk
  refine l0 (s := cpS (.tup [.str "quarter"]) a .no fs) ?_
  show J4 FL (G9 FL) FP (J8 FF) (G8 FF) (cpS (.tup [.str "quarter"]) a .no fs) = _
  unfold J4
  rw [i6 (R0 rfl (by decide) ..)]
  refine B4 ?_
  rw [a1i rfl rfl]
  have e : pt (-a.2, a.1) = .tup [.int (-(pY a)), .int (pX a), .int (pL a)] := by
   unfold pt pX pY pL
   simp only [Rat.neg_num, Rat.neg_den, Nat.lcm_comm a.2.den a.1.den, Int.neg_mul]
  rw [e]
  exact l3 (U8 (X8 (b6 rfl rfl (P7 a)) rfl) (b6 rfl rfl (Q1 a)) (b6 rfl rfl (J6 a)))
 ·intro k a ha
  exact ⟨ha.2.neg.mono (by omega), ha.1.mono (by omega)⟩
 ·intro a b s
  unfold R5
  exact Prod.ext (by grind) (by grind)
 ·intro a b
  unfold dsq
  grind
theorem a5t : Chg (.tup [.str "mirror"]) (fun a => (-a.1, a.2)) 1 := by
 refine ⟨?_, ?_, ?_, ?_, by decide, Sz.lit (by decide), fun _ => a19, a1H rfl (by decide)⟩
 ·intro k a fs ha hk
  refine l0 (s := cpS (.tup [.str "mirror"]) a .no fs) ?_
  show J4 FL (G9 FL) FP (J8 FF) (G8 FF) (cpS (.tup [.str "mirror"]) a .no fs) = _
  unfold J4
  rw [i6 (R0 rfl (by decide) ..), i6 (R0 rfl (by decide) ..)]
  refine B4 ?_
  rw [a1i rfl rfl]
  have e : pt (-a.1, a.2) = .tup [.int (-(pX a)), .int (pY a), .int (pL a)] := by
   unfold pt pX pY pL
   simp only [Rat.neg_num, Rat.neg_den, Int.neg_mul]
  rw [e]
  exact l3 (U8 (X8 (b6 rfl rfl (Q1 a)) rfl) (b6 rfl rfl (P7 a)) (b6 rfl rfl (J6 a)))
 ·intro k a ha
  exact ⟨ha.1.neg.mono (by omega), ha.2.mono (by omega)⟩
 ·intro a b s
  unfold R5
  exact Prod.ext (by grind) (by grind)
 ·intro a b
  unfold dsq
  grind
theorem a31 {x d n l : Rat} (hl : l ≠ 0) (hd : d ≠ 0) : x * l * n / (l * d) = n / d * x := by
 refine a6H (fun z => ?_) ?_
 ·rcases Rat.mul_eq_zero.mp z with z | z
  ·exact hl z
  ·exact hd z
 ·rw [Rat.div_def]
  have := Rat.mul_inv_cancel d hd
  grind
theorem a9X {q : Rat} (h0 : 0 < q) (hq : Sz 5 q) (hg : ∀ x : Rat, Gr C3 x → Gf F6 (q * x)) : Chg (.tup [.str "scale", fr q]) (fun a => (q * a.1, q * a.2)) q := by
 refine ⟨?_, ?_, ?_, ?_, h0, hq, hg, ?_⟩
 ·intro k a fs ha hk
  have ps := Ps.of ha.1 ha.2
  have b1 := ps.x.bits (by omega)
  have b2 := ps.y.bits (by omega)
  have b3 := ps.l.bits (by omega)
  have n1 := hq.num.bits (by omega)
  have n2 := hq.den.bits (by omega)
  have e := a4m (pX a * q.num) (pY a * q.num) (pL a * q.den) fs (Int.mul_ne_zero (R9 a) (B5 q)) (ps.l.mul hq.den) (by omega)
  have q1 : Rat.divInt (pX a * q.num) (pL a * q.den) = q * a.1 := by
   rw [Rat.divInt_eq_div, Rat.intCast_mul, Rat.intCast_mul, T4, a31 (T6 a) (a3W q), ← Rat.divInt_eq_div, ← S6]
  have q2 : Rat.divInt (pY a * q.num) (pL a * q.den) = q * a.2 := by
   rw [Rat.divInt_eq_div, Rat.intCast_mul, Rat.intCast_mul, U1, a31 (T6 a) (a3W q), ← Rat.divInt_eq_div, ← S6]
  rw [q1, q2] at e
  refine l0 (s := cpS (.tup [.str "scale", fr q]) a (.val (fr q)) fs) ?_
  show J4 FL (G9 FL) FP (J8 FF) (G8 FF) (cpS (.tup [.str "scale", fr q]) a .no fs) = _
  unfold J4
  rw [i6 (R0 rfl (by decide) ..), i6 (R0 rfl (by decide) ..), i6 (R0 rfl (by decide) ..),
   i6 (s1 := cpS (.tup [.str "scale", fr q]) a (.val (fr q)) fs) (k5 (b6 rfl rfl ((ixT [.str "scale", fr q] 1).trans (atN (i := 1) rfl))) rfl)]
  exact l3 (l7 (i7 (U8 (b6 (b6 rfl rfl (Q1 a)) (b6 rfl rfl (K7 q)) (o5 b1 n1)) (b6 (b6 rfl rfl (P7 a)) (b6 rfl rfl (K7 q)) (o5 b2 n1)) (b6 (b6 rfl rfl (J6 a)) (b6 rfl rfl (F0 q)) (o5 b3 n2))) rfl) e)
 ·intro k a ha
  exact ⟨(hq.mul ha.1).mono (by omega), (hq.mul ha.2).mono (by omega)⟩
 ·intro a b s
  unfold R5
  exact Prod.ext (by grind) (by grind)
 ·intro a b
  unfold dsq
  grind
 ·intro s h
  exact (X0 (n5 (b6 (b6 (T9 h) rfl (Q7 _ _)) rfl (a0T rfl)))).trans (b6 (T9 h) rfl ((ixT [.str "scale", fr q] 1).trans (atN (i := 1) rfl)))
theorem a6c {a b : Int} (hb : 0 < b) (h : (52962 : Int) % b = 0) (ha : a.natAbs ≤ 17) {x : Rat} (g : Gr C3 x) : Gf F6 (Rat.divInt a b * x) := by
 obtain ⟨n, hn, rfl⟩ := g
 obtain ⟨c, hc⟩ := Int.dvd_of_emod_eq_zero h
 have c0 : 0 < c := by
  rcases Int.lt_or_le 0 c with z | z
  ·exact z
  ·have : b * c ≤ b * 0 := Int.mul_le_mul_of_nonneg_left z (by omega)
   omega
 have c1 : c ≤ 52962 := by
  have : 1 * c ≤ b * c := Int.mul_le_mul_of_nonneg_right (by omega) (by omega)
  omega
 refine ⟨n * (a * c), ?_, ?_⟩
 ·rw [Int.natAbs_mul, Int.natAbs_mul]
  have h1 : a.natAbs * c.natAbs ≤ 17 * 52962 := Nat.mul_le_mul ha (by omega)
  exact Nat.le_trans (Nat.mul_le_mul hn h1) (by unfold C3 F6 A1; decide)
 ·rw [← Rat.divInt_mul_right (n := a) (d := b) (show c ≠ 0 by omega), ← hc, Rat.mul_comm, Rat.divInt_mul_divInt]
  rfl
noncomputable def mvT : List (Int × Int) := [(0, 1), (1, 1), (-3, 2), (7, 3), (-20, 1)]
noncomputable def scT : List (Int × Int) := [(1, 1), (2, 1), (1, 3), (3, 2), (12, 1)]
noncomputable def okF (z : Int × Int) : Bool := decide ((Rat.divInt z.1 z.2).num = z.1 ∧ ((Rat.divInt z.1 z.2).den : Int) = z.2 ∧ 0 < z.2 ∧ z.1.natAbs < 32 ∧ z.2.natAbs < 32)
theorem a6U : mvT.all okF = true := by decide +kernel
theorem a53 : (scT.all fun z => okF z && decide (0 < z.1 ∧ z.1 ≤ 17 ∧ (52962 : Int) % z.2 = 0)) = true := by decide +kernel
theorem a06 {z : Int × Int} (h : okF z = true) : D.tup [.int z.1, .int z.2] = fr (Rat.divInt z.1 z.2) ∧ 0 < z.2 ∧ Sz 5 (Rat.divInt z.1 z.2) := by
 obtain ⟨q1, q2, q3, q4, q5⟩ := of_decide_eq_true h
 refine ⟨?_, q3, Sz.of_divInt (by omega) q4 q5⟩
 unfold fr
 rw [q1, q2]
theorem a3N {r : Int} (h0 : 0 ≤ r) (h1 : r < 5) : ∃ p : Rat, atI (mvT.map fun z => D.tup [.int z.1, .int z.2]) r = some (fr p) ∧ Sz 5 p := by
 obtain ⟨x, hx, e⟩ := D0 (xs := mvT.map fun z => D.tup [.int z.1, .int z.2]) h0 h1
 obtain ⟨z, hz, rfl⟩ := List.mem_map.mp hx
 obtain ⟨a, _, b⟩ := a06 (List.all_eq_true.mp a6U z hz)
 rw [a] at e
 exact ⟨_, e, b⟩
theorem a8G {r : Int} (h0 : 0 ≤ r) (h1 : r < 5) : ∃ p : Rat, atI (scT.map fun z => D.tup [.int z.1, .int z.2]) r = some (fr p) ∧ Sz 5 p ∧ 0 < p ∧ ∀ x : Rat, Gr C3 x → Gf F6 (p * x) := by
 obtain ⟨x, hx, e⟩ := D0 (xs := scT.map fun z => D.tup [.int z.1, .int z.2]) h0 h1
 obtain ⟨z, hz, rfl⟩ := List.mem_map.mp hx
 obtain ⟨k1, k2⟩ := Bool.and_eq_true_iff.mp (List.all_eq_true.mp a53 z hz)
 obtain ⟨a, b0, b⟩ := a06 k1
 obtain ⟨c1, c2, c3⟩ := of_decide_eq_true k2
 rw [a] at e
 exact ⟨_, e, b, W1 c1 b0, fun x g => a6c b0 c3 (by omega) g⟩
noncomputable abbrev T2 : DFn := a1m LDw
inductive CK : D → (Pt → Pt) → Rat → Prop
 | move {x y : Rat} (hx : Sz 5 x) (hy : Sz 5 y) : CK (.tup [.str "move", fr x, fr y]) (fun a => (a.1 + x, a.2 + y)) 1
 | quarter : CK (.tup [.str "quarter"]) (fun a => (-a.2, a.1)) 1
 | mirror : CK (.tup [.str "mirror"]) (fun a => (-a.1, a.2)) 1
 | scale {q : Rat} (h0 : 0 < q) (hq : Sz 5 q) (hg : ∀ x : Rat, Gr C3 x → Gf F6 (q * x)) : CK (.tup [.str "scale", fr q]) (fun a => (q * a.1, q * a.2)) q
theorem CK.chg {cD : D} {φ : Pt → Pt} {q : Rat} (h : CK cD φ q) : Chg cD φ q := by
 cases h with
 | move hx hy => exact a6f hx hy
 | quarter => exact b0l
 | mirror => exact a5t
 | scale h0 hq hg => exact a9X h0 hq hg
theorem a6u {n : Nat} {f : FS} (h : Fd3 n f) (hn : n < 2 ^ 28) : ∃ cD φ q f', T2 [.feed] (some f) = some (cD, some f') ∧ CK cD φ q ∧ Fd3 (n + 3) f' := by
 obtain ⟨r, f1, e1, a1, a2, h1⟩ := o4 4 h
 have s0 : j4 (c9 LDw (a6 (dV 0) (a6 (dC (.int 4)) a8))) (i5 1) ⟨[.val .feed, .no, .no, .no], some f⟩ = some (.next, ⟨[.val .feed, .val (.int r), .no, .no], some f1⟩) := k5 (j9 rfl e1) rfl
 by_cases c0 : r = 0
 ·obtain ⟨r2, f2, e2, b1, b2, h2⟩ := o4 5 h1
  obtain ⟨r3, f3, e3, d1, d2, h3⟩ := o4 5 h2
  obtain ⟨x, q1, g1⟩ := a3N b1 b2
  obtain ⟨y, q2, g2⟩ := a3N d1 d2
  refine ⟨_, _, _, f3, l0 (s := ⟨[.val .feed, .val (.int r), .own (mvT.map fun z => D.tup [.int z.1, .int z.2]), .val (fr x)], some f3⟩) ?_, CK.move g1 g2, h3⟩
  show N7 LDw ⟨[.val .feed, .no, .no, .no], some f⟩ = _
  unfold N7
  rw [i6 s0]
  refine B4 ?_
  rw [E6 (s1 := ⟨[.val .feed, .val (.int r), .no, .no], some f1⟩) (n5 (b6 rfl rfl ((B7 r 0).trans (by rw [decide_eq_true c0])))),
   i6 (s1 := ⟨[.val .feed, .val (.int r), .own (mvT.map fun z => D.tup [.int z.1, .int z.2]), .no], some f1⟩) (B2 (s1 := ⟨[.val .feed, .val (.int r), .no, .no], some f1⟩) rfl (show 2 < 4 by decide)),
   i6 (s1 := ⟨[.val .feed, .val (.int r), .own (mvT.map fun z => D.tup [.int z.1, .int z.2]), .val (fr x)], some f2⟩) (k5 (b6 rfl (j9 rfl e2) (t8 q1)) rfl)]
  exact l3 (U8 rfl rfl (b6 rfl (j9 rfl e3) (t8 q2)))
 ·have s1 : ∀ X, k4 (dB (dOp pEq (dL 1) (dC (.int 0)))) X k9 ⟨[.val .feed, .val (.int r), .no, .no], some f1⟩ = some (.next, ⟨[.val .feed, .val (.int r), .no, .no], some f1⟩) := fun X => K5 (n5 (b6 rfl rfl ((B7 r 0).trans (by rw [decide_eq_false c0]))))
  by_cases c3 : r = 3
  ·obtain ⟨r2, f2, e2, b1, b2, h2⟩ := o4 5 h1
   obtain ⟨q, q1, g1, g2, g3⟩ := a8G b1 b2
   refine ⟨_, _, _, f2, l0 (s := ⟨[.val .feed, .val (.int r), .no, .no], some f2⟩) ?_, CK.scale g2 g1 g3, h2.mono (by omega)⟩
   show N7 LDw ⟨[.val .feed, .no, .no, .no], some f⟩ = _
   unfold N7
   rw [i6 s0, i6 (s1 _)]
   refine B4 ?_
   rw [E6 (s1 := ⟨[.val .feed, .val (.int r), .no, .no], some f1⟩) (n5 (b6 rfl rfl ((B7 r 3).trans (by rw [decide_eq_true c3]))))]
   exact l3 (v4 rfl (b6 (x := .lst (scT.map fun z => D.tup [.int z.1, .int z.2])) (s1 := ⟨[.val .feed, .val (.int r), .no, .no], some f1⟩) (u3 rfl) (j9 rfl e2) (t8 q1)))
  ·have s2 : ∀ X, k4 (dB (dOp pEq (dL 1) (dC (.int 3)))) X k9 ⟨[.val .feed, .val (.int r), .no, .no], some f1⟩ = some (.next, ⟨[.val .feed, .val (.int r), .no, .no], some f1⟩) := fun X => K5 (n5 (b6 rfl rfl ((B7 r 3).trans (by rw [decide_eq_false c3]))))
   have key : ∀ cD, atI [D.tup [.str "quarter"], .tup [.str "mirror"]] (r - 1) = some cD → T2 [.feed] (some f) = some (cD, some f1) := fun cD q => by
    refine l0 (s := ⟨[.val .feed, .val (.int r), .no, .no], some f1⟩) ?_
    show N7 LDw ⟨[.val .feed, .no, .no, .no], some f⟩ = _
    unfold N7
    rw [i6 s0, i6 (s1 _), i6 (s2 _)]
    exact l3 (b6 (x := .lst [D.tup [.str "quarter"], .tup [.str "mirror"]]) (s1 := ⟨[.val .feed, .val (.int r), .no, .no], some f1⟩) (u3 rfl) (b6 rfl rfl rfl) (t8 q))
   by_cases c1 : r = 1
   ·exact ⟨_, _, _, f1, key _ (by rw [c1]; rfl), CK.quarter, h1.mono (by omega)⟩
   ·have c2 : r = 2 := by omega
    exact ⟨_, _, _, f1, key _ (by rw [c2]; rfl), CK.mirror, h1.mono (by omega)⟩
theorem a1O {α : Type} {caps : List Sl} {fe : DE} (fs : Option FS) (A G : α → D) : ∀ l : List α, (∀ z ∈ l, fe ⟨.val (A z) :: caps, fs⟩ = some (G z, ⟨.val (A z) :: caps, fs⟩)) → v8 (fun d => some (.val d :: caps)) C0 fe (l.map A) fs = some (l.map G, fs) := by
 intro l
 induction l with
 | nil => exact fun _ => rfl
 | cons z r ih =>
  intro h
  have e := h z (List.mem_cons_self ..)
  have ih := ih fun y hy => h y (List.mem_cons_of_mem _ hy)
  rw [List.map_cons, v8, Option.bind_some,
   show C0 ⟨.val (A z) :: caps, fs⟩ = some (true, ⟨.val (A z) :: caps, fs⟩) from rfl, Option.bind_some, if_pos rfl, e, Option.bind_some, ih]
  rfl
variable {c : Bool} {ps : List Pt} {m : Nat} {S : Nat → Rat} {Q : Nat → Pt × Pt} {T : List Rat}
end T
namespace T
open PySem L2 DL
variable {c : Bool} {ps : List Pt} {cD : D} {φ : Pt → Pt} {q : Rat}
variable {m : Nat} {S : Nat → Rat} {Q : Nat → Pt × Pt} {T : List Rat}
variable {S' : Nat → Rat} {Q' : Nat → Pt × Pt}
noncomputable abbrev FCs : DFn := a1f FCp
noncomputable abbrev FCl : DFn := a0e FCs
theorem a5C (C : Chg cD φ q) {k : Nat} (hk : k ≤ 1500) (fs : Option FS) {qs : List Pt} (hq : ∀ p ∈ qs, PtS k p) (hl : qs.length ≤ 50) (c : Bool) : FCl [cD, .tup [.bl c, .tup (qs.map pt)]] fs = some (.tup [.bl c, .tup ((qs.map φ).map pt)], fs) := by
 have cm := a1O (caps := [.val cD]) (fe := c9 FCp (a6 (dV 1) (a6 (dV 0) a8))) fs pt (fun p => pt (φ p)) qs fun p hp => l7 rfl (C.pl k p fs (hq p hp) hk)
 have e1 : FCs [cD, .tup (qs.map pt)] fs = some (.tup ((qs.map φ).map pt), fs) := by
  refine l0 (s := ⟨[.val cD, .val (.tup (qs.map pt))], fs⟩) (l3 (v5 (p := C4) (u3 (T0 (idx := [0]) (ds := qs.map pt) (R := (qs.map φ).map pt) (s1 := ⟨[.val cD, .val (.tup (qs.map pt))], fs⟩) rfl (K9 (by rw [List.length_map]; omega)) ?_)) rfl))
  rw [List.map_map]
  exact cm
 exact l0 (s := ⟨[.val cD, .val (.tup [.bl c, .tup (qs.map pt)])], fs⟩) (l3 (v4 (b6 rfl rfl rfl) (l7 (i7 rfl (i7 (b6 rfl rfl rfl) rfl)) e1)))
end T
namespace T
open PySem L2 DL
noncomputable abbrev WNr : DFn := Y7 WSp LLw LDw
noncomputable def G42 (x : Rat) : Prop := ∃ n : Int, n.natAbs ≤ 2 ^ 70 ∧ x = Rat.divInt n 42
noncomputable def nrP (p : Pt) : Prop := (G42 p.1 ∧ G42 p.2) ∧ p.1 < 7 ∧ p.2 < 7
theorem V8 {r b : Int} (h0 : 0 ≤ r) (h1 : r < 13) (b0 : 0 < b) (b1 : b ≤ 3) : G42 (Rat.divInt (r - 6) b) ∧ Rat.divInt (r - 6) b < 7 := by
 have hb : b = 1 ∨ b = 2 ∨ b = 3 := by omega
 obtain ⟨c, hc, c1⟩ : ∃ c : Int, b * c = 42 ∧ c.natAbs ≤ 42 := by
  rcases hb with rfl | rfl | rfl
  ·exact ⟨42, by decide, by decide⟩
  ·exact ⟨21, by decide, by decide⟩
  ·exact ⟨14, by decide, by decide⟩
 have c0 : c ≠ 0 := fun z => by rw [z] at hc; omega
 refine ⟨⟨(r - 6) * c, ?_, ?_⟩, ?_⟩
 ·rw [Int.natAbs_mul]
  exact Nat.le_trans (Nat.mul_le_mul (show (r - 6).natAbs ≤ 6 by omega) c1) (by decide)
 ·rw [← hc, Rat.divInt_mul_right c0]
 ·have p : (0 : Rat) < (b : Rat) := Rat.intCast_pos.mpr b0
  have nz : (b : Rat) ≠ 0 := fun z => by rw [z] at p; exact absurd p Rat.lt_irrefl
  rw [Rat.divInt_eq_div]
  have e := Rat.div_mul_cancel (a := ((r - 6 : Int) : Rat)) nz
  have l : ((r - 6 : Int) : Rat) < 7 * (b : Rat) := by
   have : ((r - 6 : Int) : Rat) < ((7 * b : Int) : Rat) := Rat.intCast_lt_intCast.mpr (by omega)
   rw [Rat.intCast_mul] at this
   exact this
  refine Rat.not_le.mp fun z => ?_
  have := Rat.mul_le_mul_of_nonneg_right z (Rat.le_of_lt p)
  rw [e] at this
  grind
theorem a4T {r : Int} (h0 : 0 ≤ r) (h1 : r < 4) : ∃ b : Int, atI [D.int 1, .int 1, .int 2, .int 3] r = some (.int b) ∧ 0 < b ∧ b ≤ 3 := by
 have : r = 0 ∨ r = 1 ∨ r = 2 ∨ r = 3 := by omega
 rcases this with rfl | rfl | rfl | rfl
 ·exact ⟨1, rfl, by decide⟩
 ·exact ⟨1, rfl, by decide⟩
 ·exact ⟨2, rfl, by decide⟩
 ·exact ⟨3, rfl, by decide⟩
theorem a3o {r b : Int} (h0 : 0 ≤ r) (h1 : r < 13) (b0 : 0 < b) (b1 : b ≤ 3) : Sz 5 (Rat.divInt (r - 6) b) ∧ Bd 5 b ∧ b ≠ 0 :=
 ⟨Sz.of_divInt (by omega) (by omega) (by omega), show b.natAbs < 2 ^ 5 by omega, by omega⟩
theorem a72 {n : Nat} {f : FS} (h : Fd3 n f) (hn : n < 2 ^ 29) : ∃ p f', WNr [.feed] (some f) = some (pt p, some f') ∧ PtS 5 p ∧ nrP p ∧ Fd3 (n + 4) f' := by
 obtain ⟨r1, f1, e1, a1, a2, h1⟩ := o4 13 h
 obtain ⟨r2, f2, e2, b1, b2, h2⟩ := o4 4 h1
 obtain ⟨r3, f3, e3, c1, c2, h3⟩ := o4 13 h2
 obtain ⟨r4, f4, e4, d1, d2, h4⟩ := o4 4 h3
 obtain ⟨b, q1, x1, x2⟩ := a4T b1 b2
 obtain ⟨d, q2, y1, y2⟩ := a4T d1 d2
 obtain ⟨s1, u1, v1⟩ := a3o a1 a2 x1 x2
 obtain ⟨s2, u2, v2⟩ := a3o c1 c2 y1 y2
 have w1 := Q5 (r1 - 6) b (some f2) v1 u1 (by decide)
 have w2 := Q5 (r3 - 6) d (some f4) v2 u2 (by decide)
 have sp := J5 _ _ (some f4) s1 s2 (by decide)
 refine ⟨(Rat.divInt (r1 - 6) b, Rat.divInt (r3 - 6) d), f4, l0 (s := ⟨[.val .feed, .val (fr (Rat.divInt (r1 - 6) b))], some f4⟩) ?_, ⟨s1, s2⟩, ⟨⟨(V8 a1 a2 x1 x2).1, (V8 c1 c2 y1 y2).1⟩, (V8 a1 a2 x1 x2).2, (V8 c1 c2 y1 y2).2⟩, h4⟩
 show a1U WSp LLw LDw ⟨[.val .feed, .no], some f⟩ = _
 unfold a1U
 rw [i6 (s1 := ⟨[.val .feed, .val (fr (Rat.divInt (r1 - 6) b))], some f2⟩) (k5 (X1 (i7 (b6 (j9 rfl e1) rfl rfl) (i7 (b6 (x := .lst [D.int 1, .int 1, .int 2, .int 3]) (s1 := ⟨[.val .feed, .no], some f1⟩) rfl (j9 rfl e2) (t8 q1)) rfl)) w1) rfl)]
 exact l3 (X1 (i7 rfl (i7 (X1 (i7 (b6 (j9 rfl e3) rfl rfl) (i7 (b6 (x := .lst [D.int 1, .int 1, .int 2, .int 3]) (s1 := ⟨[.val .feed, .val (fr (Rat.divInt (r1 - 6) b))], some f3⟩) rfl (j9 rfl e4) (t8 q2)) rfl)) w2) rfl)) sp)
theorem a3k {n : Nat} {f : FS} (h : Fd3 n f) (hn : n < 2 ^ 29) : ∃ p f', WNr [.feed] (some f) = some (pt p, some f') ∧ PtS 5 p ∧ Fd3 (n + 4) f' := by
 obtain ⟨p, f', e, s, _, h'⟩ := a72 h hn
 exact ⟨p, f', e, s, h'⟩
noncomputable abbrev WGo : DFn := X4 P9
theorem a4f {k : Nat} (a b : Pt) (fs : Option FS) (ha : Ps k a) (hb : Ps k b) (hk : k ≤ 1000) : ∃ x y : Int, P9 [pt a, pt b] fs = some (.tup [.int x, .int y], fs) ∧ Bd (2 * k + 1) x ∧ Bd (2 * k + 1) y := by
 have q : ∀ {i : Int}, Bd k i → o0 i = true := fun h => h.bits (by omega)
 refine ⟨pX b * pL a - pX a * pL b, pY b * pL a - pY a * pL b, l0 (s := ⟨[.val (pt a), .val (pt b)], fs⟩) (l3 ?_), ((hb.x.mul ha.l).sub (ha.x.mul hb.l)).mono (by omega), ((hb.y.mul ha.l).sub (ha.y.mul hb.l)).mono (by omega)⟩
 exact v4 (b6 (b6 (b6 rfl rfl (Q1 b)) (b6 rfl rfl (J6 a)) (o5 (q hb.x) (q ha.l))) (b6 (b6 rfl rfl (Q1 a)) (b6 rfl rfl (J6 b)) (o5 (q ha.x) (q hb.l))) rfl)
  (b6 (b6 (b6 rfl rfl (P7 b)) (b6 rfl rfl (J6 a)) (o5 (q hb.y) (q ha.l))) (b6 (b6 rfl rfl (P7 a)) (b6 rfl rfl (J6 b)) (o5 (q ha.y) (q hb.l))) rfl)
theorem a6Q {a b : DE} {s s1 s2 : DS} {x y : Bool} (h1 : a s = some (.bl x, s1)) (h2 : b s1 = some (.bl y, s2)) : ∃ z s3, t5 a b s = some (.bl z, s3) ∧ (s3 = s1 ∨ s3 = s2) := by
 unfold t5
 rw [n5 h1, Option.bind_some]
 cases x with
 | true => exact ⟨y, s2, by rw [if_pos rfl, h2], .inr rfl⟩
 | false => exact ⟨false, s1, by rw [if_neg Bool.false_ne_true], .inl rfl⟩
theorem a1C {k : Nat} (a b c : Pt) (fs : Option FS) (ha : Ps k a) (hb : Ps k b) (hc : Ps k c) (hk : k ≤ 1000) : ∃ z, WGo [pt a, pt b, pt c] fs = some (.bl z, fs) := by
 obtain ⟨x1, y1, e1, u1, v1⟩ := a4f a b fs ha hb hk
 obtain ⟨x2, y2, e2, u2, v2⟩ := a4f b c fs hb hc hk
 have q : ∀ {i : Int}, Bd (2 * k + 1) i → o0 i = true := fun h => h.bits (by omega)
 obtain ⟨z, s3, e3, hs⟩ := a6Q (a := dOp pEq (dOp k0 (dOp pIx (dL 3) (dC (.int 0))) (dOp pIx (dL 4) (dC (.int 1)))) (dOp k0 (dOp pIx (dL 3) (dC (.int 1))) (dOp pIx (dL 4) (dC (.int 0))))) (b := dOp (k8 (fun i j => decide (j < i))) (dOp n4 (dOp k0 (dOp pIx (dL 3) (dC (.int 0))) (dOp pIx (dL 4) (dC (.int 0)))) (dOp k0 (dOp pIx (dL 3) (dC (.int 1))) (dOp pIx (dL 4) (dC (.int 1))))) (dC (.int 0)))
  (s := ⟨[.val (pt a), .val (pt b), .val (pt c), .val (.tup [.int x1, .int y1]), .val (.tup [.int x2, .int y2])], fs⟩) (b6 (b6 (b6 rfl rfl rfl) (b6 rfl rfl rfl) (o5 (q u1) (q v2))) (b6 (b6 rfl rfl rfl) (b6 rfl rfl rfl) (o5 (q v1) (q u2))) (B7 _ _)) (b6 (b6 (b6 (b6 rfl rfl rfl) (b6 rfl rfl rfl) (o5 (q u1) (q u2))) (b6 (b6 rfl rfl rfl) (b6 rfl rfl rfl) (o5 (q v1) (q v2))) rfl) rfl rfl)
 have hs : s3 = ⟨[.val (pt a), .val (pt b), .val (pt c), .val (.tup [.int x1, .int y1]), .val (.tup [.int x2, .int y2])], fs⟩ := by rcases hs with rfl | rfl <;> rfl
 subst hs
 refine ⟨z, l0 (s := ⟨[.val (pt a), .val (pt b), .val (pt c), .val (.tup [.int x1, .int y1]), .val (.tup [.int x2, .int y2])], fs⟩) ?_⟩
 show a03 P9 ⟨[.val (pt a), .val (pt b), .val (pt c), .no, .no], fs⟩ = _
 unfold a03
 rw [i6 (s1 := ⟨[.val (pt a), .val (pt b), .val (pt c), .val (.tup [.int x1, .int y1]), .val (.tup [.int x2, .int y2])], fs⟩) (a5o (i7 (l7 rfl e1) (i7 (l7 rfl e2) rfl)) rfl)]
 exact l3 e3
noncomputable def PsL (ps : List Pt) : Prop := ∀ p ∈ ps, PtS 78 p
noncomputable def Nd (ps : List Pt) : Prop := ∀ i a b, ps[i]? = some a → ps[i + 1]? = some b → a ≠ b
theorem Nd.snoc {ps : List Pt} {p : Pt} (h : Nd ps) (hl : ∀ z, ps[ps.length - 1]? = some z → p ≠ z) : Nd (ps ++ [p]) := fun i a b ha hb => by
 by_cases c : i + 1 < ps.length
 ·rw [List.getElem?_append_left (by omega)] at ha
  rw [List.getElem?_append_left c] at hb
  exact h i a b ha hb
 ·by_cases c2 : i + 1 = ps.length
  ·rw [List.getElem?_append_left (by omega)] at ha
   rw [List.getElem?_append_right (by omega), c2, Nat.sub_self] at hb
   cases hb
   exact fun e => hl a (by rw [← c2, Nat.add_sub_cancel]; exact ha) e.symm
  ·rw [List.getElem?_append_right (by omega), List.getElem?_eq_none (by rw [List.length_singleton]; omega)] at hb
   cases hb
theorem a1b {ps : List Pt} (h : PsL ps) {i : Nat} {p : Pt} (hi : ps[i]? = some p) : Ps 156 p := (h p (List.mem_of_getElem? hi)).ps
theorem a2Q {ps : List Pt} {p : Pt} (h2 : 2 ≤ ps.length) (h : ps[ps.length - 2]? = some p) : atI (ps.map pt) (-2) = some (pt p) := by
 unfold atI ixN
 rw [if_neg (by omega), if_pos (by rw [List.length_map]; omega)]
 show (ps.map pt)[_]? = _
 rw [List.length_map, show ((-2 : Int) + ps.length).toNat = ps.length - 2 by omega, List.getElem?_map, h]
 rfl
theorem a05 {ps : List Pt} {p : Pt} (h : ps[ps.length - 1]? = some p) : atI (ps.map pt) (-1) = some (pt p) := W0 (by rw [List.length_map, List.getElem?_map, h]; rfl)
noncomputable abbrev WCh : DFn := a1k WSp WPl WXy WGo LDw WNr
noncomputable abbrev lWH : DM := R3 WSp WPl WXy WGo LDw WNr
noncomputable abbrev chS (F : D) (most many : Int) (ps : List Pt) (x5 x6 : Sl) (f : FS) : DS := ⟨[.val .feed, .val F, .val (.int most), .own (ps.map pt), .val (.int many), x5, x6, .no, .no], some f⟩
theorem b0F {n : Nat} {f : FS} {F : D} {most many : Int} {ps : List Pt} (x5 x6 : Sl) (hp : PsL ps) (h1 : 1 ≤ ps.length) (h9 : ps.length ≤ 9) (h : Fd3 n f) (hn : n < 2 ^ 28) : ∃ p f', PtS 78 p ∧ Fd3 (n + 5) f' ∧
  j4 (dIf (dB (dOp (k8 (fun i j => decide (j < i))) (c9 LDw (a6 (dV 0) (a6 (dC (.int 4)) a8))) (dC (.int 0)))) (c9 WNr (a6 (dV 0) a8)) (dOp pIx (dL 3) (c9 LDw (a6 (dV 0) (a6 (dCB (one l4) (a6 (dL 3) a8)) a8))))) (i5 6) (chS F most many ps x5 x6 f) = some (.next, chS F most many ps x5 (.val (pt p)) f') := by
 obtain ⟨r1, f1, e1, a1, a2, h1'⟩ := o4 4 h
 by_cases hr : 0 < r1
 ·obtain ⟨p, f2, e2, s2, h2⟩ := a3k h1' (by omega)
  exact ⟨p, f2, s2.mono (by decide), h2.mono (by omega), k5 ((X0 (n5 (b6 (j9 rfl e1) rfl (congrArg (fun b => some (D.bl b)) (decide_eq_true hr))))).trans (j9 rfl e2)) rfl⟩
 ·obtain ⟨r2, f2, e2, b1, b2, h2⟩ := o4 ((ps.map pt).length : Int) h1' (by rw [List.length_map]; omega) (by omega) (by rw [List.length_map]; omega)
  obtain ⟨d, m, q⟩ := D0 b1 b2
  obtain ⟨p, hp', rfl⟩ := List.mem_map.mp m
  exact ⟨p, f2, hp p hp', h2.mono (by omega), k5 ((W4 (n5 (b6 (j9 rfl e1) rfl (congrArg (fun b => some (D.bl b)) (decide_eq_false hr))))).trans (b6 rfl (j9 (i7 rfl (i7 (v5 (p := l4) rfl rfl) rfl)) e2) (t8 q))) rfl⟩
theorem a89 {F : D} {most many : Int} {ps : List Pt} {p : Pt} (x5 : Sl) (f : FS) (hp : PsL ps) (h1 : 1 ≤ ps.length) (hs : PtS 78 p) : ∃ b : Bool, (b = true → (ps.length : Int) < many ∧ ∀ z, ps[ps.length - 1]? = some z → p ≠ z) ∧
  v3 (dB (dOp (k8 (fun i j => decide (i < j))) (dCB (one l4) (a6 (dL 3) a8)) (dL 4))) (v3 (dB (dOp pNe (dL 6) (dOp pIx (dL 3) (dUn j8 (dC (.int 1)))))) (dOr (dB (dOp (k8 (fun i j => decide (i < j))) (dCB (one l4) (a6 (dL 3) a8)) (dC (.int 2)))) (A8 (dTr (c9 WGo (a6 (dOp pIx (dL 3) (dUn j8 (dC (.int 2)))) (a6 (dOp pIx (dL 3) (dUn j8 (dC (.int 1)))) (a6 (dV 6) a8)))))))) (chS F most many ps x5 (.val (pt p)) f) = some (b, chS F most many ps x5 (.val (pt p)) f) := by
 obtain ⟨z, hz⟩ : ∃ z, ps[ps.length - 1]? = some z := ⟨_, List.getElem?_eq_getElem (by omega)⟩
 have l1 := a05 hz
 have len : ∀ k : Int, (dB (dOp (k8 (fun i j => decide (i < j))) (dCB (one l4) (a6 (dL 3) a8)) (dC (.int k)))) (chS F most many ps x5 (.val (pt p)) f) = some (decide (((ps.map pt).length : Int) < k), chS F most many ps x5 (.val (pt p)) f) := fun k => n5 (b6 (v5 (p := l4) rfl rfl) rfl rfl)
 have lm : (dB (dOp (k8 (fun i j => decide (i < j))) (dCB (one l4) (a6 (dL 3) a8)) (dL 4))) (chS F most many ps x5 (.val (pt p)) f) = some (decide (((ps.map pt).length : Int) < many), chS F most many ps x5 (.val (pt p)) f) := n5 (b6 (v5 (p := l4) rfl rfl) rfl rfl)
 by_cases c : ((ps.map pt).length : Int) < many
 ·rw [decide_eq_true c] at lm
  have c' : (ps.length : Int) < many := by rw [List.length_map] at c; exact c
  have ne : (dB (dOp pNe (dL 6) (dOp pIx (dL 3) (dUn j8 (dC (.int 1)))))) (chS F most many ps x5 (.val (pt p)) f) = some (!decide (p = z), chS F most many ps x5 (.val (pt p)) f) := n5 (b6 rfl (b6 rfl rfl (t8 l1)) (a4d hs.ps (a1b hp hz)))
  cases hne : (!decide (p = z)) with
  | false =>
   rw [hne] at ne
   exact ⟨false, fun e => (by cases e), R7 lm (a0n ne)⟩
  | true =>
   have pz : ∀ z', ps[ps.length - 1]? = some z' → p ≠ z' := fun z' e q => by
    rw [hz] at e; cases e
    rw [decide_eq_true q] at hne; cases hne
   rw [hne] at ne
   have l2 := len 2
   by_cases c2 : ((ps.map pt).length : Int) < 2
   ·rw [decide_eq_true c2] at l2
    exact ⟨true, fun _ => ⟨c', pz⟩, R7 lm (R7 ne (a6t l2))⟩
   ·rw [decide_eq_false c2] at l2
    have h2 : 2 ≤ ps.length := by rw [List.length_map] at c2; omega
    obtain ⟨y, hy⟩ : ∃ y, ps[ps.length - 2]? = some y := ⟨_, List.getElem?_eq_getElem (by omega)⟩
    have q2 := a2Q h2 hy
    obtain ⟨g, hg⟩ := a1C y z p (some f) (a1b hp hy) (a1b hp hz) hs.ps (by decide)
    have t : dTr (c9 WGo (a6 (dOp pIx (dL 3) (dUn j8 (dC (.int 2)))) (a6 (dOp pIx (dL 3) (dUn j8 (dC (.int 1)))) (a6 (dV 6) a8)))) (chS F most many ps x5 (.val (pt p)) f) = some (g, chS F most many ps x5 (.val (pt p)) f) := a5B (l7 (i7 (b6 rfl rfl (t8 q2)) (i7 (b6 rfl rfl (t8 l1)) (i7 rfl rfl))) hg)
    exact ⟨!g, fun _ => ⟨c', pz⟩, R7 lm (R7 ne (a8b l2 (a5Z t)))⟩
 ·rw [decide_eq_false c] at lm
  exact ⟨false, fun e => (by cases e), a0n lm⟩
theorem a75 {n : Nat} {f : FS} {F : D} {most many : Int} {ps : List Pt} (x5 x6 : Sl) (hm : many ≤ 9) (hp : PsL ps) (hd : Nd ps) (h1 : 1 ≤ ps.length) (h9 : ps.length ≤ 9) (h : Fd3 n f) (hn : n < 2 ^ 28) :
  ∃ ps' x6' f', lWH (chS F most many ps x5 x6 f) = some (.next, chS F most many ps' x5 x6' f') ∧ PsL ps' ∧ Nd ps' ∧ 1 ≤ ps'.length ∧ ps'.length ≤ 9 ∧ Fd3 (n + 5) f' := by
 obtain ⟨p, f1, sp, hf, e1⟩ := b0F (F := F) (most := most) (many := many) x5 x6 hp h1 h9 h hn
 obtain ⟨b, hb, e2⟩ := a89 (F := F) (most := most) (many := many) x5 f1 hp h1 sp
 have ll : (ps.map pt).length < sizeLine := Nat.lt_of_le_of_lt (by rw [List.length_map]; exact h9) (show 9 < sizeLine by decide)
 cases b with
 | true =>
  have := (hb rfl).1
  refine ⟨ps ++ [p], .val (pt p), f1, ?_, fun q hq => ?_, hd.snoc (hb rfl).2, by rw [List.length_append, List.length_singleton]; omega, by rw [List.length_append, List.length_singleton]; omega, hf⟩
  ·show R3 WSp WPl WXy WGo LDw WNr _ = _
   unfold R3
   rw [i6 e1, E6 e2]
   unfold chS
   rw [a4E]
   exact Z5 (s1 := chS F most many ps x5 (.val (pt p)) f1) rfl rfl rfl ll
  ·rcases List.mem_append.mp hq with hq | hq
   ·exact hp q hq
   ·rw [List.mem_singleton.mp hq]; exact sp
 | false =>
  refine ⟨ps, .val (pt p), f1, ?_, hp, hd, h1, h9, hf⟩
  show R3 WSp WPl WXy WGo LDw WNr _ = _
  unfold R3
  rw [i6 e1, T1 e2]
  rfl
theorem a6i {n : Nat} {f : FS} {p0 : Pt} {most : Int} (hm : 2 ≤ most ∧ most ≤ 9) (h0 : PtS 78 p0) (h : Fd3 n f) (hn : n < 2 ^ 27) : ∃ (ps : List Pt) (f' : FS), WCh [.feed, .lst [pt p0], .int most] (some f) = some (.tup (ps.map pt), some f') ∧ (∀ p ∈ ps, PtS 80 p) ∧ Nd ps ∧ 2 ≤ ps.length ∧ ps.length ≤ 9 ∧ Fd3 (n + 71) f' := by
 obtain ⟨r, f1, e1, a1, a2, h1⟩ := o4 (most - 1) h
 obtain ⟨s', lp, ps, x5, x6, f', rfl, hp, hd, l1, l9, I⟩ := Z3 (t := i5 5) (b := lWH) (fun i s => ∃ ps x5 x6 f', s = chS (.lst [pt p0]) most (2 + r) ps x5 x6 f' ∧ PsL ps ∧ Nd ps ∧ 1 ≤ ps.length ∧ ps.length ≤ 9 ∧ Fd3 (n + 1 + 5 * i) f') (ups 0 14) 0 (chS (.lst [pt p0]) most (2 + r) [p0] .no .no f1)
  ⟨[p0], .no, .no, f1, rfl, (fun q hq => by rw [List.mem_singleton.mp hq]; exact h0.mono (by decide)), (fun i a b _ hb => by rw [List.getElem?_eq_none (by rw [List.length_singleton]; omega)] at hb; cases hb), Nat.le_refl _, show 1 ≤ 9 by decide, h1⟩ (by
   rintro i d s hd ⟨ps, x5, x6, f', rfl, hp, hn', l1, l9, I⟩
   obtain ⟨rfl, hi⟩ := a07 hd
   rw [Nat.zero_add] at *
   obtain ⟨ps', x6', f'', e, hp', hn'', l1', l9', I'⟩ := a75 (F := .lst [pt p0]) (most := most) (many := 2 + r) (.val (.int ((0 : Int) + i))) x6 (by omega) hp hn' l1 l9 I (by omega)
   exact ⟨chS (.lst [pt p0]) most (2 + r) ps (.val (.int ((0 : Int) + i))) x6 f', _, rfl, .inl e, ps', _, x6', f'', rfl, hp', hn'', l1', l9', I'.mono (by omega)⟩)
 rw [Nat.zero_add, V5] at I
 have pre : ∀ R, (i4 (k4 (dB (dOp (k8 (fun i j => decide (i < j))) (dCB (one l4) (a6 (dL 3) a8)) (dC (.int 2)))) (i4 (j4 (c9 WXy (a6 (dOp pIx (dL 3) (dC (.int 0))) a8)) (t3 2 (m5 (i5 7) (m5 (i5 8) t7)))) (C8 3 (c9 WSp (a6 (dV 7) (a6 (c9 WPl (a6 (dV 8) (a6 (c7 (a6 (dC (.int 1)) (a6 (dC (.int 1)) a8))) a8))) a8))))) k9) (j6 (dCB (one C4) (a6 (dL 3) a8)))) (chS (.lst [pt p0]) most (2 + r) ps x5 x6 f') = R → a1S WSp WPl WXy WGo LDw WNr ⟨[.val .feed, .val (.lst [pt p0]), .val (.int most), .no, .no, .no, .no, .no, .no], some f⟩ = R := fun R er => by
  unfold a1S
  rw [i6 (s1 := ⟨[.val .feed, .val (.lst [pt p0]), .val (.int most), .own [pt p0], .no, .no, .no, .no, .no], some f⟩) (B2 (s1 := ⟨[.val .feed, .val (.lst [pt p0]), .val (.int most), .no, .no, .no, .no, .no, .no], some f⟩) rfl (show 3 < 9 by decide)),
   i6 (s1 := chS (.lst [pt p0]) most (2 + r) [p0] .no .no f1) (k5 (b6 rfl (j9 (i7 rfl (i7 (b6 rfl rfl rfl) rfl)) e1) rfl) rfl),
   i6 ((a2p (xs := [.int 14]) (s1 := chS (.lst [pt p0]) most (2 + r) [p0] .no .no f1) rfl (a1X (n := 14) (by decide))).trans lp)]
  exact er
 have lt : (dB (dOp (k8 (fun i j => decide (i < j))) (dCB (one l4) (a6 (dL 3) a8)) (dC (.int 2)))) (chS (.lst [pt p0]) most (2 + r) ps x5 x6 f') = some (decide (((ps.map pt).length : Int) < 2), chS (.lst [pt p0]) most (2 + r) ps x5 x6 f') := n5 (b6 (v5 (p := l4) rfl rfl) rfl rfl)
 by_cases c : ((ps.map pt).length : Int) < 2
 ·rw [decide_eq_true c] at lt
  rw [List.length_map] at c
  obtain ⟨a, ha⟩ : ∃ a, ps = [a] := by
   cases ps with
   | nil => cases l1
   | cons a t => cases t with
    | nil => exact ⟨a, rfl⟩
    | cons b t => simp at c; omega
  subst ha
  have sa := hp a (List.mem_singleton.mpr rfl)
  have x := wxy a (some f') sa.ps (by decide)
  have s1 : Sz 1 (1 : Rat) := Sz.lit (by decide)
  have pl := N4 a.2 1 (some f') sa.y s1 (by decide)
  have sp := J5 a.1 (a.2 + 1) (some f') sa.x (sa.y.add s1) (by decide)
  refine ⟨[a, (a.1, a.2 + 1)], f', l0 (s := ⟨[.val .feed, .val (.lst [pt p0]), .val (.int most), .own ([a, (a.1, a.2 + 1)].map pt), .val (.int (2 + r)), x5, x6, .val (fr a.1), .val (fr a.2)], some f'⟩) (pre _ ?_), ?_, ?_, Nat.le_refl 2, show 2 ≤ 9 by decide, I.mono (by omega)⟩
  ·rw [i6 (s1 := ⟨[.val .feed, .val (.lst [pt p0]), .val (.int most), .own ([a, (a.1, a.2 + 1)].map pt), .val (.int (2 + r)), x5, x6, .val (fr a.1), .val (fr a.2)], some f'⟩) (by
    rw [E6 lt, i6 (s1 := ⟨[.val .feed, .val (.lst [pt p0]), .val (.int most), .own ([a].map pt), .val (.int (2 + r)), x5, x6, .val (fr a.1), .val (fr a.2)], some f'⟩) (k5 (l7 (i7 (b6 rfl rfl rfl) rfl) x) rfl)]
    exact Z5 (ds := [pt a]) (s1 := ⟨[.val .feed, .val (.lst [pt p0]), .val (.int most), .own ([a].map pt), .val (.int (2 + r)), x5, x6, .val (fr a.1), .val (fr a.2)], some f'⟩) rfl (l7 (i7 rfl (i7 (l7 (i7 rfl (i7 rfl rfl)) pl) rfl)) sp) rfl (show 1 < sizeLine by decide))]
   exact l3 (v5 rfl rfl)
  ·intro q hq
   rcases List.mem_cons.mp hq with rfl | hq
   ·exact sa.mono (by decide)
   ·rw [List.mem_singleton.mp hq]
    exact ⟨sa.x.mono (by decide), (sa.y.add s1).mono (by decide)⟩
  ·refine Nd.snoc (ps := [a]) (fun i a b _ hb => by rw [List.getElem?_eq_none (by rw [List.length_singleton]; omega)] at hb; cases hb) fun z hz e => ?_
   cases hz
   have := congrArg Prod.snd e
   have : a.2 + 1 = a.2 := this
   grind
 ·rw [decide_eq_false c] at lt
  refine ⟨ps, f', l0 (s := chS (.lst [pt p0]) most (2 + r) ps x5 x6 f') (pre _ ?_), fun p hq => (hp p hq).mono (by decide), hd, by rw [List.length_map] at c; omega, l9, I.mono (by omega)⟩
  rw [i6 (s1 := chS (.lst [pt p0]) most (2 + r) ps x5 x6 f') (by rw [T1 lt]; rfl)]
  exact l3 (v5 rfl rfl)
noncomputable abbrev WAn : DFn := a1T LDw WGo WCh WNr
theorem b0i {r : Int} (h0 : 0 ≤ r) (h1 : r < 3) : ∃ p : Pt, atI [D.tup [.int 9999, .int (-5), .int 1], .tup [.int (-1000000000), .int 2, .int 1], .tup [.int 100000000000000000000, .int (-3), .int 7]] r = some (pt p) ∧ PtS 78 p := by
 have k : ∀ x y d : Int, 1 ≤ d → Int.gcd (Int.gcd x y : Int) d = 1 → x.natAbs < 2 ^ 78 → y.natAbs < 2 ^ 78 → d.natAbs < 2 ^ 78 → D.tup [.int x, .int y, .int d] = pt (Rat.divInt x d, Rat.divInt y d) ∧ PtS 78 (Rat.divInt x d, Rat.divInt y d) := fun x y d hd hg h1 h2 h3 =>
  ⟨a9W hd hg, Sz.of_divInt (by omega) h1 h3, Sz.of_divInt (by omega) h2 h3⟩
 have : r = 0 ∨ r = 1 ∨ r = 2 := by omega
 rcases this with rfl | rfl | rfl
 ·have q := k 9999 (-5) 1 (by decide) (by decide +kernel) (by decide) (by decide) (by decide)
  exact ⟨_, (congrArg some q.1 :), q.2⟩
 ·have q := k (-1000000000) 2 1 (by decide) (by decide +kernel) (by decide) (by decide) (by decide)
  exact ⟨_, (congrArg some q.1 :), q.2⟩
 ·have q := k 100000000000000000000 (-3) 7 (by decide) (by decide +kernel) (by decide) (by decide) (by decide)
  exact ⟨_, (congrArg some q.1 :), q.2⟩
structure AnS (c : Bool) (ps : List Pt) : Prop where
 lo : 1 ≤ ps.length
 hi : ps.length ≤ 9
 sz : ∀ p ∈ ps, PtS 200 p
structure LnK (c : Bool) (ps : List Pt) : Prop where
 lo : 1 ≤ ps.length
 hi : ps.length ≤ 9
 sz : ∀ p ∈ ps, PtS 80 p
 nd : Nd ps
 cl : c = true → ∀ a z, ps[0]? = some a → ps[ps.length - 1]? = some z → a ≠ z
theorem LnK.an {c : Bool} {ps : List Pt} (h : LnK c ps) : AnS c ps := ⟨h.lo, h.hi, fun p hp => (h.sz p hp).mono (by decide)⟩
theorem ExS.an {c : Bool} {ps : List Pt} (h : ExS c ps) : AnS c ps := ⟨h.lo, h.hi, h.sz⟩
theorem V2 {a b : DE} {s s1 : DS} {r : Option (D × DS)} (h1 : a s = some (.bl true, s1)) (h2 : b s1 = r) : t5 a b s = r := by
 unfold t5
 rw [n5 h1, Option.bind_some, if_pos rfl]
 exact h2
theorem Z4 {a b : DE} {s s1 : DS} (h1 : a s = some (.bl false, s1)) : t5 a b s = some (.bl false, s1) := by
 unfold t5
 rw [n5 h1, Option.bind_some, if_neg Bool.false_ne_true]
theorem a4z {a : DE} {s s1 : DS} {b : Bool} (h1 : a s = some (.bl b, s1)) : y9 a s = some (.bl (!b), s1) := by
 unfold y9
 rw [n5 h1]
 rfl
theorem a7L {p p' : D → D → Option D} {fa fb fc : DE} {s : DS} {x y z : D} {b c : Bool} (h1 : fa s = some (x, s)) (h2 : fb s = some (y, s)) (h3 : p x y = some (.bl b)) (h4 : fc s = some (z, s)) (h5 : p' y z = some (.bl c)) : N8 p p' fa fb fc s = some (.bl (b && c), s) := by
 unfold N8
 rw [h1, Option.bind_some, h2, Option.bind_some, h3, Option.bind_some]
 cases b with
 | true =>
  show (fc s).bind _ = _
  rw [h4, Option.bind_some, h5]
  rfl
 | false => rfl
noncomputable abbrev anS (most : Int) (x2 : Sl) (ps : List Pt) (x4 : Sl) (f : FS) : DS := ⟨[.val .feed, .val (.int most), x2, .val (.tup (ps.map pt)), x4], some f⟩
theorem ixP {ps : List Pt} {i : Nat} {p : Pt} (h : ps[i]? = some p) : pIx (.tup (ps.map pt)) (.int (i : Int)) = some (pt p) := (ixT _ _).trans (atN (by rw [List.getElem?_map, h]; rfl))
theorem a8x {most : Int} {ps : List Pt} (x2 x4 : Sl) (f : FS) (hp : ∀ p ∈ ps, PtS 80 p) (h2 : 2 ≤ ps.length) : ∃ b : Bool, (b = true → 2 < ps.length ∧ ∀ a z, ps[0]? = some a → ps[ps.length - 1]? = some z → a ≠ z) ∧
  j4 (t5 (N8 (k8 (fun i j => decide (i < j))) (k8 (fun i j => decide (i < j))) (dC (.int 2)) (dCB (one l4) (a6 (dL 3) a8)) (dC (.int 9))) (t5 (dOp pNe (dOp pIx (dL 3) (dC (.int 0))) (dOp pIx (dL 3) (dUn j8 (dC (.int 1))))) (y9 (c9 WGo (a6 (dOp pIx (dL 3) (dUn j8 (dC (.int 2)))) (a6 (dOp pIx (dL 3) (dUn j8 (dC (.int 1)))) (a6 (dOp pIx (dL 3) (dC (.int 0))) a8))))))) (i5 4) (anS most x2 ps x4 f) = some (.next, anS most x2 ps (.val (.bl b)) f) := by
 obtain ⟨a, ha⟩ : ∃ z, ps[0]? = some z := ⟨_, List.getElem?_eq_getElem (by omega)⟩
 obtain ⟨y, hy⟩ : ∃ z, ps[ps.length - 2]? = some z := ⟨_, List.getElem?_eq_getElem (by omega)⟩
 obtain ⟨z, hz⟩ : ∃ z, ps[ps.length - 1]? = some z := ⟨_, List.getElem?_eq_getElem (by omega)⟩
 have sz : ∀ {i : Nat} {p : Pt}, ps[i]? = some p → Ps 160 p := fun h => (hp _ (List.mem_of_getElem? h)).ps
 have i0 := ixP ha
 have i1 : pIx (.tup (ps.map pt)) (.int (-1)) = some (pt z) := (ixT _ _).trans (a05 hz)
 have i2 : pIx (.tup (ps.map pt)) (.int (-2)) = some (pt y) := (ixT _ _).trans (a2Q h2 hy)
 obtain ⟨g, hg⟩ := a1C y z a (some f) (sz hy) (sz hz) (sz ha) (by decide)
 have c1 : N8 (k8 (fun i j => decide (i < j))) (k8 (fun i j => decide (i < j))) (dC (.int 2)) (dCB (one l4) (a6 (dL 3) a8)) (dC (.int 9)) (anS most x2 ps x4 f) = some (.bl (decide ((2 : Int) < ((ps.map pt).length : Int)) && decide (((ps.map pt).length : Int) < 9)), anS most x2 ps x4 f) := a7L rfl (v5 (p := l4) rfl rfl) rfl rfl rfl
 have c2 : dOp pNe (dOp pIx (dL 3) (dC (.int 0))) (dOp pIx (dL 3) (dUn j8 (dC (.int 1)))) (anS most x2 ps x4 f) = some (.bl (!decide (a = z)), anS most x2 ps x4 f) := b6 (b6 rfl rfl i0) (b6 rfl rfl i1) (a4d (sz ha) (sz hz))
 have c3 : y9 (c9 WGo (a6 (dOp pIx (dL 3) (dUn j8 (dC (.int 2)))) (a6 (dOp pIx (dL 3) (dUn j8 (dC (.int 1)))) (a6 (dOp pIx (dL 3) (dC (.int 0))) a8)))) (anS most x2 ps x4 f) = some (.bl (!g), anS most x2 ps x4 f) := a4z (l7 (i7 (b6 rfl rfl i2) (i7 (b6 rfl rfl i1) (i7 (b6 rfl rfl i0) rfl))) hg)
 generalize e1 : (decide ((2 : Int) < ((ps.map pt).length : Int)) && decide (((ps.map pt).length : Int) < 9)) = b1 at c1
 generalize e2 : (!decide (a = z)) = b2 at c2
 cases b1 with
 | false => exact ⟨false, fun q => (by cases q), k5 (Z4 c1) rfl⟩
 | true =>
  cases b2 with
  | false => exact ⟨false, fun q => (by cases q), k5 (V2 c1 (Z4 c2)) rfl⟩
  | true =>
   refine ⟨!g, fun _ => ⟨?_, fun a' z' q1 q2 q3 => ?_⟩, k5 (V2 c1 (V2 c2 c3)) rfl⟩
   ·rw [Bool.and_eq_true, decide_eq_true_iff, List.length_map] at e1
    omega
   ·rw [ha] at q1; rw [hz] at q2; cases q1; cases q2
    rw [decide_eq_true q3] at e2; cases e2
theorem a9P {most : Int} {ps : List Pt} (x2 : Sl) (b : Bool) (f : FS) (hp : ∀ p ∈ ps, PtS 80 p) (h2 : 2 ≤ ps.length) : ∃ b' : Bool, (b' = true → b = true) ∧
  j4 (t5 (dV 4) (y9 (c9 WGo (a6 (dOp pIx (dL 3) (dUn j8 (dC (.int 1)))) (a6 (dOp pIx (dL 3) (dC (.int 0))) (a6 (dOp pIx (dL 3) (dC (.int 1))) a8)))))) (i5 4) (anS most x2 ps (.val (.bl b)) f) = some (.next, anS most x2 ps (.val (.bl b')) f) := by
 obtain ⟨a, ha⟩ : ∃ z, ps[0]? = some z := ⟨_, List.getElem?_eq_getElem (by omega)⟩
 obtain ⟨y, hy⟩ : ∃ z, ps[1]? = some z := ⟨_, List.getElem?_eq_getElem (by omega)⟩
 obtain ⟨z, hz⟩ : ∃ z, ps[ps.length - 1]? = some z := ⟨_, List.getElem?_eq_getElem (by omega)⟩
 have sz : ∀ {i : Nat} {p : Pt}, ps[i]? = some p → Ps 160 p := fun h => (hp _ (List.mem_of_getElem? h)).ps
 have i0 := ixP ha
 have i2 := ixP hy
 have i1 : pIx (.tup (ps.map pt)) (.int (-1)) = some (pt z) := (ixT _ _).trans (a05 hz)
 obtain ⟨g, hg⟩ := a1C z a y (some f) (sz hz) (sz ha) (sz hy) (by decide)
 cases b with
 | false => exact ⟨false, fun q => q, k5 (Z4 rfl) rfl⟩
 | true => exact ⟨!g, fun _ => rfl, k5 (V2 rfl (a4z (l7 (i7 (b6 rfl rfl i1) (i7 (b6 rfl rfl i0) (i7 (b6 rfl rfl i2) rfl))) hg))) rfl⟩
theorem a9f {n : Nat} {f : FS} (most : Int) (hm : 2 ≤ most ∧ most ≤ 9) (h : Fd3 n f) (hn : n < 2 ^ 26) : ∃ c ps f', WAn [.feed, .int most] (some f) = some (.tup [.bl c, .tup (ps.map pt)], some f') ∧ LnK c ps ∧ Fd3 (n + 90) f' := by
 obtain ⟨p0, f1, e1, s1, h1⟩ := a3k h (by omega)
 obtain ⟨r2, f2, e2, a1, a2, h2⟩ := o4 4 h1
 have first : ∃ p f3, PtS 78 p ∧ Fd3 (n + 6) f3 ∧ k4 (dB (dOp pEq (c9 LDw (a6 (dV 0) (a6 (dC (.int 4)) a8))) (dC (.int 0)))) (w9 2 (l5 (a6 (dOp pIx (l6 (l5 (a6 (c7 (a6 (dC (.int 9999)) (a6 (dUn j8 (dC (.int 5))) (a6 (dC (.int 1)) a8)))) (a6 (c7 (a6 (dUn j8 (dOp E2 (dC (.int 10)) (dC (.int 9)))) (a6 (dC (.int 2)) (a6 (dC (.int 1)) a8)))) (a6 (c7 (a6 (dOp E2 (dC (.int 10)) (dC (.int 20))) (a6 (dUn j8 (dC (.int 3))) (a6 (dC (.int 7)) a8)))) a8))))) (c9 LDw (a6 (dV 0) (a6 (dC (.int 3)) a8)))) a8))) k9 ⟨[.val .feed, .val (.int most), .own [pt p0], .no, .no], some f1⟩ = some (.next, ⟨[.val .feed, .val (.int most), .own [pt p], .no, .no], some f3⟩) := by
  by_cases hr : r2 = 0
  ·obtain ⟨r3, f3, e3, b1, b2, h3⟩ := o4 3 h2
   obtain ⟨p, q, sp⟩ := b0i b1 b2
   refine ⟨p, f3, sp, h3, ?_⟩
   rw [E6 (s1 := ⟨[.val .feed, .val (.int most), .own [pt p0], .no, .no], some f2⟩) (n5 (b6 (j9 rfl e2) rfl ((B7 r2 0).trans (by rw [decide_eq_true hr]))))]
   exact B2 (s1 := ⟨[.val .feed, .val (.int most), .own [pt p0], .no, .no], some f3⟩) (a14 (b6 (x := .lst [D.tup [.int 9999, .int (-5), .int 1], .tup [.int (-1000000000), .int 2, .int 1], .tup [.int 100000000000000000000, .int (-3), .int 7]]) (s1 := ⟨[.val .feed, .val (.int most), .own [pt p0], .no, .no], some f2⟩) rfl (j9 rfl e3) (t8 q))) (show 2 < 5 by decide)
  ·refine ⟨p0, f2, s1.mono (by decide), h2.mono (by omega), ?_⟩
   rw [T1 (s1 := ⟨[.val .feed, .val (.int most), .own [pt p0], .no, .no], some f2⟩) (n5 (b6 (j9 rfl e2) rfl ((B7 r2 0).trans (by rw [decide_eq_false hr]))))]
   rfl
 obtain ⟨p, f3, sp, h3, e3⟩ := first
 obtain ⟨ps, f4, e4, hp, hd, l2, l9, h4⟩ := a6i hm sp h3 (by omega)
 obtain ⟨b, cb, c1⟩ := a8x (most := most) (.val (.lst [pt p])) .no f4 hp l2
 obtain ⟨b', cb2, c2⟩ := a9P (most := most) (.val (.lst [pt p])) b f4 hp l2
 obtain ⟨r5, f5, e5, i1, i2, h5⟩ := o4 2 h4
 have fin : ∃ (c : Bool) (f6 : FS), Fd3 (n + 90) f6 ∧ (c = true → b' = true) ∧ t5 (dV 4) (dOp pEq (c9 LDw (a6 (dV 0) (a6 (dC (.int 2)) a8))) (dC (.int 0))) (anS most (.val (.lst [pt p])) ps (.val (.bl b')) f4) = some (.bl c, anS most (.val (.lst [pt p])) ps (.val (.bl b')) f6) := by
  cases b' with
  | false => exact ⟨false, f4, h4.mono (by omega), fun q => q, Z4 rfl⟩
  | true => exact ⟨decide (r5 = 0), f5, h5.mono (by omega), fun _ => rfl, V2 rfl (b6 (j9 rfl e5) rfl (B7 r5 0))⟩
 obtain ⟨c, f6, h6, hc, e6⟩ := fin
 refine ⟨c, ps, f6, l0 (s := anS most (.val (.lst [pt p])) ps (.val (.bl b')) f6) ?_, ⟨by omega, l9, hp, hd, fun q => (cb (cb2 (hc q))).2⟩, h6⟩
 show a2u LDw WGo WCh WNr ⟨[.val .feed, .val (.int most), .no, .no, .no], some f⟩ = _
 unfold a2u
 rw [i6 (s1 := ⟨[.val .feed, .val (.int most), .own [pt p0], .no, .no], some f1⟩) (B2 (s1 := ⟨[.val .feed, .val (.int most), .no, .no, .no], some f1⟩) (a14 (j9 rfl e1)) (show 2 < 5 by decide)), i6 e3,
  i6 (s1 := anS most (.val (.lst [pt p])) ps .no f4) (k5 (X1 (sl' := [.val .feed, .val (.int most), .val (.lst [pt p]), .no, .no]) rfl e4) rfl), i6 c1, i6 c2]
 exact l3 (v4 e6 rfl)
theorem a9Z {n : Nat} {f : FS} (most : Int) (hm : 2 ≤ most ∧ most ≤ 9) (h : Fd3 n f) (hn : n < 2 ^ 26) : ∃ c ps f', WAn [.feed, .int most] (some f) = some (.tup [.bl c, .tup (ps.map pt)], some f') ∧ AnS c ps ∧ Fd3 (n + 90) f' := by
 obtain ⟨c, ps, f', e, l, h'⟩ := a9f most hm h hn
 exact ⟨c, ps, f', e, l.an, h'⟩
variable {cD : D} {φ : Pt → Pt} {q : Rat}
noncomputable abbrev WMv : DFn := a0l WSp WPr WPl WXy
noncomputable abbrev mvS (cD : D) (a : Pt) (fs : Option FS) : DS := ⟨[.val cD, .val (pt a), .val (fr a.1), .val (fr a.2)], fs⟩
theorem C6 {cD : D} {w u : Str} {r : List D} (hc : cD = .tup (.str w :: r)) (hw : w ≠ u) (X : DM) (s : DS) (hs : s.sl[0]? = some (.val cD)) : k4 (dB (dOp pEq (dOp pIx (dL 0) (dC (.int 0))) (dC (.str u)))) X k9 s = some (.next, s) := by
 subst hc
 exact K5 (n5 (b6 (b6 (T9 hs) rfl (Q7 _ _)) rfl (a0h hw)))
theorem M9 {cD : D} {w u : Str} {r : List D} (hc : cD = .tup (.str w :: r)) (hw : w = u) (X : DM) (s : DS) (hs : s.sl[0]? = some (.val cD)) : k4 (dB (dOp pEq (dOp pIx (dL 0) (dC (.int 0))) (dC (.str u)))) X k9 s = X s := by
 subst hc
 exact E6 (n5 (b6 (b6 (T9 hs) rfl (Q7 _ _)) rfl (a0T hw)))
theorem a3O (p : Rat) : D.tup [.int (-p.num), .int p.den] = fr (-p) := by
 unfold fr
 rw [Rat.neg_num, Rat.neg_den]
theorem CK.moved (C : CK cD φ q) {k : Nat} {a : Pt} (fs : Option FS) (ha : PtS k a) (hk : k ≤ 1500) : WMv [cD, pt a] fs = some (pt (φ a), fs) := by
 have xy := wxy a fs (Ps.of ha.1 ha.2) (by omega)
 have s0 : j4 (c9 WXy (a6 (dV 1) a8)) (t3 2 (m5 (i5 2) (m5 (i5 3) t7))) ⟨[.val cD, .val (pt a), .no, .no], fs⟩ = some (.next, mvS cD a fs) := k5 (l7 rfl xy) rfl
 refine l0 (s := mvS cD a fs) ?_
 show a0L WSp WPr WPl WXy ⟨[.val cD, .val (pt a), .no, .no], fs⟩ = _
 unfold a0L
 rw [i6 s0]
 cases C with
 | @move x y hx hy =>
  refine B4 ?_
  rw [M9 rfl rfl _ _ rfl]
  have p1 := N4 a.1 x fs ha.1 hx (by omega)
  have p2 := N4 a.2 y fs ha.2 hy (by omega)
  have sp := J5 (a.1 + x) (a.2 + y) fs (ha.1.add hx) (ha.2.add hy) (by omega)
  exact l3 (l7 (i7 (l7 (i7 rfl (i7 (b6 rfl rfl ((ixT [.str "move", fr x, fr y] 1).trans (atN (i := 1) rfl))) rfl)) p1) (i7 (l7 (i7 rfl (i7 (b6 rfl rfl ((ixT [.str "move", fr x, fr y] 2).trans (atN (i := 2) rfl))) rfl)) p2) rfl)) sp)
 | quarter =>
  rw [i6 (C6 rfl (by decide) _ _ rfl)]
  refine B4 ?_
  rw [M9 rfl rfl _ _ rfl]
  have sp := J5 (-a.2) a.1 fs ha.2.neg ha.1 (by omega)
  rw [← a3O] at sp
  exact l3 (l7 (i7 (v4 (X8 (b6 rfl rfl (K7 a.2)) rfl) (b6 rfl rfl (F0 a.2))) (i7 rfl rfl)) sp)
 | mirror =>
  rw [i6 (C6 rfl (by decide) _ _ rfl), i6 (C6 rfl (by decide) _ _ rfl)]
  refine B4 ?_
  rw [M9 rfl rfl _ _ rfl]
  have sp := J5 (-a.1) a.2 fs ha.1.neg ha.2 (by omega)
  rw [← a3O] at sp
  exact l3 (l7 (i7 (v4 (X8 (b6 rfl rfl (K7 a.1)) rfl) (b6 rfl rfl (F0 a.1))) (i7 rfl rfl)) sp)
 | scale h0 hq hg =>
  rw [i6 (C6 rfl (by decide) _ _ rfl), i6 (C6 rfl (by decide) _ _ rfl), i6 (C6 rfl (by decide) _ _ rfl)]
  have p1 := a1Y a.1 q fs ha.1 hq (by omega)
  have p2 := a1Y a.2 q fs ha.2 hq (by omega)
  rw [Rat.mul_comm] at p1 p2
  have sp := J5 (q * a.1) (q * a.2) fs (hq.mul ha.1) (hq.mul ha.2) (by omega)
  exact l3 (l7 (i7 (l7 (i7 rfl (i7 (b6 rfl rfl ((ixT [.str "scale", fr q] 1).trans (atN (i := 1) rfl))) rfl)) p1) (i7 (l7 (i7 rfl (i7 (b6 rfl rfl ((ixT [.str "scale", fr q] 1).trans (atN (i := 1) rfl))) rfl)) p2) rfl)) sp)
noncomputable abbrev V9 : List (Str × Str) := [("both", "both"), ("left", "right"), ("right", "left")]
noncomputable def okS (x : Str) : Bool := PyData.strOk x && decide (x.length ≤ 20)
noncomputable abbrev ruD (hf : Rat) (sd en jo : Str) (bd : Rat) : D := .tup [fr hf, .str sd, .str en, .str jo, fr bd]
structure RuS (hf : Rat) (sd en jo : Str) (bd : Rat) (sd' : Str) : Prop where
 h : Sz 5 hf
 b : Sz 5 bd
 o : C5 V9 sd = some sd'
 s : okS sd = true
 s' : okS sd' = true
 e : okS en = true
 j : okS jo = true
theorem a1j {x : Str} (h : okS x = true) : Ok 0 20 (.str x) := by
 obtain ⟨a, b⟩ := Bool.and_eq_true_iff.mp h
 exact (Ok.str a).mono (Nat.le_refl _) (of_decide_eq_true b)
theorem a3Y {x : Str} (h : okS x = true) : x.length ≤ sizeLine := Nat.le_trans (of_decide_eq_true (Bool.and_eq_true_iff.mp h).2) (by decide)
theorem a1x {hf bd : Rat} {sd en jo : Str} {k : Nat} (h : Sz k hf) (hk : k ≤ 1920) (b : Sz 5 bd) (s : okS sd = true) (e : okS en = true) (j : okS jo = true) : Ok 2 80 (ruD hf sd en jo bd) :=
 (Ok.tup (OkL.cons (Ok.fr h hk) (OkL.cons (a1j s) (OkL.cons (a1j e) (OkL.cons (a1j j) (OkL.cons (Ok.fr b) OkL.nil)))))).mono (by decide) (by decide)
theorem a5l {kvs : List (Str × Str)} {f : DE} {s s1 : DS} {k v : Str} (h : f s = some (.str k, s1)) (h2 : C5 kvs k = some v) (hv : v.length ≤ sizeLine) : M2 kvs f s = some (.str v, s1) := by
 unfold M2
 rw [h, Option.bind_some]
 show (some k).bind _ = _
 rw [Option.bind_some, h2, Option.bind_some, if_pos hv]
theorem slE {f : DE} {lo hi : DO} {s s1 s2 s3 : DS} {ds : List D} {l h : Option Int} (e : f s = some (.tup ds, s1)) (e1 : lo s1 = some (l, s2)) (e2 : hi s2 = some (h, s3)) : dSl f lo hi s = some (.tup (D5 ds l h), s3) := by
 unfold dSl
 rw [e, Option.bind_some, e1, Option.bind_some, e2]
 rfl
theorem a0s {a : DE} {s s1 : DS} {x : D} (h : a s = some (x, s1)) : c7 (a6 a a8) s = some (.tup [x], s1) := by
 unfold c7
 rw [i7 h (show a8 s1 = some ([], s1) from rfl), Option.bind_some]
 exact if_pos (show 1 ≤ sizeLine by decide)
noncomputable abbrev FCr : DFn := a0C O8 FT
noncomputable abbrev WRd : DFn := a0r WPr
theorem CK.rule (C : CK cD φ q) {hf bd : Rat} {sd en jo sd' : Str} (R : RuS hf sd en jo bd sd') (fs : Option FS) : ∃ r', FCr [cD, ruD hf sd en jo bd] fs = some (r', fs) ∧ WRd [cD, ruD hf sd en jo bd] fs = some (r', fs) ∧ Ok 2 80 r' := by
 have i0 : pIx (ruD hf sd en jo bd) (.int 0) = some (fr hf) := (ixT _ _).trans (atN (i := 0) rfl)
 have i1 : pIx (ruD hf sd en jo bd) (.int 1) = some (.str sd) := (ixT _ _).trans (atN (i := 1) rfl)
 have same : ∀ {w : Str} {r : List D}, cD = .tup (.str w :: r) → w ≠ "scale" → w ≠ "mirror" → ∃ r', FCr [cD, ruD hf sd en jo bd] fs = some (r', fs) ∧ WRd [cD, ruD hf sd en jo bd] fs = some (r', fs) ∧ Ok 2 80 r' := fun {w r} hc n1 n2 => by
  refine ⟨ruD hf sd en jo bd, ?_, ?_, a1x R.h (by decide) R.b R.s R.e R.j⟩
  ·refine l0 (s := ⟨[.val cD, .val (ruD hf sd en jo bd)], fs⟩) ?_
   show O0 O8 FT ⟨[.val cD, .val (ruD hf sd en jo bd)], fs⟩ = _
   unfold O0
   rw [i6 (C6 hc n1 _ _ rfl), i6 (C6 hc n2 _ _ rfl)]
   exact l3 rfl
  ·refine l0 (s := ⟨[.val cD, .val (ruD hf sd en jo bd)], fs⟩) ?_
   show L8 WPr ⟨[.val cD, .val (ruD hf sd en jo bd)], fs⟩ = _
   unfold L8
   rw [i6 (C6 hc n1 _ _ rfl), i6 (C6 hc n2 _ _ rfl)]
   exact l3 rfl
 cases C with
 | move hx hy => exact same rfl (by decide) (by decide)
 | quarter => exact same rfl (by decide) (by decide)
 | mirror =>
  refine ⟨ruD hf sd' en jo bd, ?_, ?_, a1x R.h (by decide) R.b R.s' R.e R.j⟩
  ·have e : O8 [ruD hf sd en jo bd] fs = some (ruD hf sd' en jo bd, fs) := by
    refine l0 (s := ⟨[.val (ruD hf sd en jo bd)], fs⟩) ?_
    show a2i ⟨[.val (ruD hf sd en jo bd)], fs⟩ = _
    unfold a2i
    exact l3 (b6 (v4 (b6 rfl rfl i0) (a5l (b6 rfl rfl i1) R.o (a3Y R.s'))) (slE (l := some 2) (h := none) (ds := [fr hf, .str sd, .str en, .str jo, fr bd]) rfl rfl rfl) rfl)
   refine l0 (s := ⟨[.val (.tup [.str "mirror"]), .val (ruD hf sd en jo bd)], fs⟩) ?_
   show O0 O8 FT ⟨[.val (.tup [.str "mirror"]), .val (ruD hf sd en jo bd)], fs⟩ = _
   unfold O0
   rw [i6 (C6 rfl (by decide) _ _ rfl)]
   refine B4 ?_
   rw [M9 rfl rfl _ _ rfl]
   exact l3 (l7 rfl e)
  ·refine l0 (s := ⟨[.val (.tup [.str "mirror"]), .val (ruD hf sd en jo bd)], fs⟩) ?_
   show L8 WPr ⟨[.val (.tup [.str "mirror"]), .val (ruD hf sd en jo bd)], fs⟩ = _
   unfold L8
   rw [i6 (C6 rfl (by decide) _ _ rfl)]
   refine B4 ?_
   rw [M9 rfl rfl _ _ rfl]
   exact l3 (b6 (b6 (slE (l := none) (h := some 1) (ds := [fr hf, .str sd, .str en, .str jo, fr bd]) rfl rfl rfl) (a0s (a5l (b6 rfl rfl i1) R.o (a3Y R.s'))) rfl) (slE (l := some 2) (h := none) (ds := [fr hf, .str sd, .str en, .str jo, fr bd]) rfl rfl rfl) rfl)
 | scale h0 hq hg =>
  refine ⟨ruD (hf * q) sd en jo bd, ?_, ?_, a1x (R.h.mul hq) (by decide) R.b R.s R.e R.j⟩
  ·have p := a70 hf q fs R.h hq (by decide)
   refine l0 (s := ⟨[.val (.tup [.str "scale", fr q]), .val (ruD hf sd en jo bd)], fs⟩) ?_
   show O0 O8 FT ⟨[.val (.tup [.str "scale", fr q]), .val (ruD hf sd en jo bd)], fs⟩ = _
   unfold O0
   refine B4 ?_
   rw [M9 rfl rfl _ _ rfl]
   exact l3 (b6 (a0s (l7 (i7 (b6 rfl rfl i0) (i7 (b6 rfl rfl ((ixT [.str "scale", fr q] 1).trans (atN (i := 1) rfl))) rfl)) p)) (slE (l := some 1) (h := none) (ds := [fr hf, .str sd, .str en, .str jo, fr bd]) rfl rfl rfl) rfl)
  ·have p := a1Y hf q fs R.h hq (by decide)
   refine l0 (s := ⟨[.val (.tup [.str "scale", fr q]), .val (ruD hf sd en jo bd)], fs⟩) ?_
   show L8 WPr ⟨[.val (.tup [.str "scale", fr q]), .val (ruD hf sd en jo bd)], fs⟩ = _
   unfold L8
   refine B4 ?_
   rw [M9 rfl rfl _ _ rfl]
   exact l3 (b6 (a0s (l7 (i7 (b6 rfl rfl i0) (i7 (b6 rfl rfl ((ixT [.str "scale", fr q] 1).trans (atN (i := 1) rfl))) rfl)) p)) (slE (l := some 1) (h := none) (ds := [fr hf, .str sd, .str en, .str jo, fr bd]) rfl rfl rfl) rfl)
noncomputable abbrev WRu : DFn := a0i LDw
noncomputable def hfT : List (Int × Int) := [(1, 1), (1, 2), (2, 3), (7, 1), (3, 10)]
noncomputable def bdT : List (Int × Int) := [(1, 1), (3, 2), (2, 1), (5, 1)]
theorem a6G : hfT.all okF = true := by decide +kernel
theorem b0c : bdT.all okF = true := by decide +kernel
noncomputable def sdT : List Str := ["both", "left", "right"]
theorem a9N : (sdT.all fun x => okS x && ((C5 V9 x).any fun y => okS y)) = true := by decide +kernel
noncomputable def enT : List Str := ["cut", "square", "round"]
noncomputable def joT : List Str := ["cut", "pointed", "round"]
theorem a8Y : enT.all okS = true := by decide +kernel
theorem a7n : joT.all okS = true := by decide +kernel
theorem a4l {T : List (Int × Int)} (hT : T.all okF = true) {r : Int} (h0 : 0 ≤ r) (h1 : r < T.length) : ∃ p : Rat, atI (T.map fun z => D.tup [.int z.1, .int z.2]) r = some (fr p) ∧ Sz 5 p := by
 obtain ⟨x, hx, e⟩ := D0 (xs := T.map fun z => D.tup [.int z.1, .int z.2]) h0 (by rw [List.length_map]; exact h1)
 obtain ⟨z, hz, rfl⟩ := List.mem_map.mp hx
 obtain ⟨a, _, b⟩ := a06 (List.all_eq_true.mp hT z hz)
 rw [a] at e
 exact ⟨_, e, b⟩
theorem a0M {T : List Str} {P : Str → Bool} (hT : T.all P = true) {r : Int} (h0 : 0 ≤ r) (h1 : r < T.length) : ∃ x : Str, atI (T.map D.str) r = some (.str x) ∧ P x = true := by
 obtain ⟨x, hx, e⟩ := D0 (xs := T.map D.str) h0 (by rw [List.length_map]; exact h1)
 obtain ⟨z, hz, rfl⟩ := List.mem_map.mp hx
 exact ⟨z, e, List.all_eq_true.mp hT z hz⟩
theorem a9c {a b c d e : DE} {s s1 s2 s3 s4 s5 : DS} {x y z u v : D} (h1 : a s = some (x, s1)) (h2 : b s1 = some (y, s2)) (h3 : c s2 = some (z, s3)) (h4 : d s3 = some (u, s4)) (h5 : e s4 = some (v, s5)) : c7 (a6 a (a6 b (a6 c (a6 d (a6 e a8))))) s = some (.tup [x, y, z, u, v], s5) := by
 unfold c7
 rw [i7 h1 (i7 h2 (i7 h3 (i7 h4 (i7 h5 (show a8 s5 = some ([], s5) from rfl))))), Option.bind_some]
 exact if_pos (show 5 ≤ sizeLine by decide)
theorem b0x {n : Nat} {f : FS} (h : Fd3 n f) (hn : n < 2 ^ 28) : ∃ hf sd en jo bd sd' f', WRu [.feed] (some f) = some (ruD hf sd en jo bd, some f') ∧ RuS hf sd en jo bd sd' ∧ Fd3 (n + 5) f' := by
 obtain ⟨r1, f1, e1, a1, b1, h1⟩ := o4 5 h
 obtain ⟨r2, f2, e2, a2, b2, h2⟩ := o4 3 h1
 obtain ⟨r3, f3, e3, a3, b3, h3⟩ := o4 3 h2
 obtain ⟨r4, f4, e4, a4, b4, h4⟩ := o4 3 h3
 obtain ⟨r5, f5, e5, a5, b5, h5⟩ := o4 4 h4
 obtain ⟨hf, q1, z1⟩ := a4l a6G a1 b1
 obtain ⟨sd, q2, z2⟩ := a0M a9N a2 b2
 obtain ⟨en, q3, z3⟩ := a0M a8Y a3 b3
 obtain ⟨jo, q4, z4⟩ := a0M a7n a4 b4
 obtain ⟨bd, q5, z5⟩ := a4l b0c a5 b5
 obtain ⟨z2, z6⟩ := Bool.and_eq_true_iff.mp z2
 have z67 : ∃ sd', C5 V9 sd = some sd' ∧ okS sd' = true := by
  cases o : C5 V9 sd with
  | none => rw [o] at z6; cases z6
  | some y => rw [o] at z6; exact ⟨y, rfl, z6⟩
 obtain ⟨sd', z6, z7⟩ := z67
 refine ⟨hf, sd, en, jo, bd, sd', f5, l0 (s := ⟨[.val .feed, .val (fr hf), .val (.str sd), .val (.str en), .val (.str jo)], some f5⟩) ?_, ⟨z1, z5, z6, z2, z7, z3, z4⟩, h5⟩
 show a00 LDw ⟨[.val .feed, .no, .no, .no, .no], some f⟩ = _
 unfold a00
 rw [i6 (s1 := ⟨[.val .feed, .val (fr hf), .no, .no, .no], some f1⟩) (k5 (b6 (x := .lst (hfT.map fun z => D.tup [.int z.1, .int z.2])) (s1 := ⟨[.val .feed, .no, .no, .no, .no], some f⟩) (u3 rfl) (j9 rfl e1) (t8 q1)) rfl),
  i6 (s1 := ⟨[.val .feed, .val (fr hf), .val (.str sd), .no, .no], some f2⟩) (k5 (b6 (x := .lst (sdT.map D.str)) (s1 := ⟨[.val .feed, .val (fr hf), .no, .no, .no], some f1⟩) (u3 rfl) (j9 rfl e2) (t8 q2)) rfl),
  i6 (s1 := ⟨[.val .feed, .val (fr hf), .val (.str sd), .val (.str en), .no], some f3⟩) (k5 (b6 (x := .lst (enT.map D.str)) (s1 := ⟨[.val .feed, .val (fr hf), .val (.str sd), .no, .no], some f2⟩) (u3 rfl) (j9 rfl e3) (t8 q3)) rfl),
  i6 (s1 := ⟨[.val .feed, .val (fr hf), .val (.str sd), .val (.str en), .val (.str jo)], some f4⟩) (k5 (b6 (x := .lst (joT.map D.str)) (s1 := ⟨[.val .feed, .val (fr hf), .val (.str sd), .val (.str en), .no], some f3⟩) (u3 rfl) (j9 rfl e4) (t8 q4)) rfl)]
 exact l3 (a9c rfl rfl rfl rfl (b6 (x := .lst (bdT.map fun z => D.tup [.int z.1, .int z.2])) (s1 := ⟨[.val .feed, .val (fr hf), .val (.str sd), .val (.str en), .val (.str jo)], some f4⟩) (u3 rfl) (j9 rfl e5) (t8 q5)))
noncomputable abbrev C50 : DM := Y2 FCr WRd WRu FCl FCp WMv WEx WAn T2 M7
theorem a8Z {n : Nat} {f : FS} (k : Int) (h : Fd3 n f) (hn : n < 2 ^ 24) (x0 x3 x4 x5 x6 : Sl) : ∃ y3 y4 y5 y6 f', C50 ⟨[x0, .val .feed, .val (.int k), x3, x4, x5, x6], some f⟩ = some (.next, ⟨[x0, .val .feed, .val (.int k), y3, y4, y5, y6], some f'⟩) ∧ Fd3 (n + 98) f' := by
 obtain ⟨cD, φ, q, f0, e0, C, h0⟩ := a6u h (by omega)
 have dr : ∃ (c : Bool) (ps : List Pt) (f1 : FS), AnS c ps ∧ Fd3 (n + 93) f1 ∧ dIf (dB (dOp pEq (dOp r8 (dL 2) (dC (.int 2))) (dC (.int 0)))) (c9 WEx (a6 (dV 1) (a6 (dC (.int 9)) a8))) (c9 WAn (a6 (dV 1) (a6 (dC (.int 9)) a8))) ⟨[x0, .val .feed, .val (.int k), .val cD, x4, x5, x6], some f0⟩ = some (.tup [.bl c, .tup (ps.map pt)], ⟨[x0, .val .feed, .val (.int k), .val cD, x4, x5, x6], some f1⟩) := by
  have mm : r8 (.int k) (.int 2) = some (.int (k.fmod 2)) := a7x k (by decide)
  by_cases hk : k.fmod 2 = 0
  ·obtain ⟨c, ps, f1, e1, hx, h1⟩ := a5u 9 (by decide) h0 (by omega)
   exact ⟨c, ps, f1, hx.an, h1.mono (by omega), (X0 (n5 (b6 (b6 rfl rfl mm) rfl ((B7 _ 0).trans (by rw [decide_eq_true hk]))))).trans (j9 rfl e1)⟩
  ·obtain ⟨c, ps, f1, e1, hx, h1⟩ := a9Z 9 (by decide) h0 (by omega)
   exact ⟨c, ps, f1, hx, h1.mono (by omega), (W4 (n5 (b6 (b6 rfl rfl mm) rfl ((B7 _ 0).trans (by rw [decide_eq_false hk]))))).trans (j9 rfl e1)⟩
 obtain ⟨c, ps, f1, hx, h1, e1⟩ := dr
 obtain ⟨hf, sd, en, jo, bd, sd', f2, e2, R, h2⟩ := b0x h1 (by omega)
 obtain ⟨r', r1, r2, ro⟩ := C.rule R (some f2)
 have hi := hx.hi
 have cm := a1O (caps := [.val cD]) (fe := c9 WMv (a6 (dV 1) (a6 (dV 0) a8))) (some f1) pt (fun p => pt (φ p)) ps fun p hp => l7 rfl (C.moved (some f1) (hx.sz p hp) (by decide))
 have cp := a1O (caps := [.val cD]) (fe := c9 FCp (a6 (dV 1) (a6 (dV 0) a8))) (some f1) pt (fun p => pt (φ p)) ps fun p hp => l7 rfl (C.chg.pl 200 p (some f1) (hx.sz p hp) (by decide))
 have cl := a5C C.chg (k := 200) (by decide) (some f1) hx.sz (by omega) c
 have el : (ps.map φ).map pt = ps.map fun p => pt (φ p) := by rw [List.map_map]; rfl
 rw [el] at cl
 have okp : OkL 1 (9 * 4) (ps.map fun p => pt (φ p)) := (OkL.all (k := 1) (n := 3) fun d hd => by
  obtain ⟨p, hp, rfl⟩ := List.mem_map.mp hd
  exact Ok.pt (C.chg.sz 200 p (hx.sz p hp)).ps (by decide)).mono (Nat.le_refl _) (by rw [List.length_map]; omega)
 have o1 := (Ok.lst okp).repr
 have o2 := (Ok.tup (OkL.cons (Ok.bl c) (OkL.cons (Ok.tup okp) OkL.nil))).repr
 have o3 := ro.repr
 have ln : (ps.map pt).length ≤ 100 := by rw [List.length_map]; omega
 have cl : FCl [cD, .tup [.bl c, .tup (ps.map pt)]] (some f1) = some (.tup [.bl c, .tup (ps.map fun p => pt (φ p))], some f1) := cl
 generalize ps.map (fun p => pt (φ p)) = P2 at *
 generalize ps.map pt = P1 at *
 generalize ruD hf sd en jo bd = rD at *
 refine ⟨.val cD, .val (.tup [.bl c, .tup P1]), .val (.tup P2), .val rD, f2, ?_, h2.mono (by omega)⟩
 show Y2 FCr WRd WRu FCl FCp WMv WEx WAn T2 M7 _ = _
 unfold Y2
 have st : DS := ⟨[x0, .val .feed, .val (.int k), .val cD, .val (.tup [.bl c, .tup P1]), .val (.tup P2), x6], some f1⟩
 rw [i6 (s1 := ⟨[x0, .val .feed, .val (.int k), .val cD, x4, x5, x6], some f0⟩) (k5 (j9 rfl e0) rfl),
  i6 (s1 := ⟨[x0, .val .feed, .val (.int k), .val cD, .val (.tup [.bl c, .tup P1]), x5, x6], some f1⟩) (k5 e1 rfl),
  i6 (s1 := ⟨[x0, .val .feed, .val (.int k), .val cD, .val (.tup [.bl c, .tup P1]), .val (.tup P2), x6], some f1⟩) (k5 (v5 (p := C4) (u3 (T0 (idx := [3]) (ds := P1) (R := P2) (s1 := ⟨[x0, .val .feed, .val (.int k), .val cD, .val (.tup [.bl c, .tup P1]), x5, x6], some f1⟩) rfl (K9 ln) cm)) rfl) rfl),
  i6 (s1 := ⟨[x0, .val .feed, .val (.int k), .val cD, .val (.tup [.bl c, .tup P1]), .val (.tup P2), x6], some f1⟩) (K5 (n5 (b6 (v5 (p := A6) (u3 (T0 (idx := [3]) (ds := P1) (R := P2) (s1 := ⟨[x0, .val .feed, .val (.int k), .val cD, .val (.tup [.bl c, .tup P1]), .val (.tup P2), x6], some f1⟩) rfl (K9 ln) cp)) o1) (v5 (p := A6) (u3 rfl) o1) (a0Y _)))),
  i6 (s1 := ⟨[x0, .val .feed, .val (.int k), .val cD, .val (.tup [.bl c, .tup P1]), .val (.tup P2), x6], some f1⟩) (K5 (n5 (b6 (v5 (p := A6) (l7 rfl cl) o2) (v5 (p := A6) (v4 (b6 rfl rfl rfl) rfl) o2) (a0Y _)))),
  i6 (s1 := ⟨[x0, .val .feed, .val (.int k), .val cD, .val (.tup [.bl c, .tup P1]), .val (.tup P2), .val rD], some f2⟩) (k5 (j9 rfl e2) rfl)]
 exact K5 (n5 (b6 (v5 (p := A6) (l7 rfl r1) o3) (v5 (p := A6) (l7 rfl r2) o3) (a0Y _)))
noncomputable abbrev a9h : DFn := a1n FCr WRd WRu FCl FCp WMv WEx WAn T2 M7
theorem math (ns : List Int) (hl : ns.length ≤ 63) : ∃ fs', a9h [.scr ns] none = some (.bl true, fs') := by
 have e0 := a5I ns
 obtain ⟨s', lp, x2, x3, x4, x5, x6, f', rfl, I⟩ := Z3 (t := i5 2) (b := C50) (fun i s => ∃ x2 x3 x4 x5 x6 f', s = ⟨[.val (.scr ns), .val .feed, x2, x3, x4, x5, x6], some f'⟩ ∧ Fd3 (98 * i) f') (ups 0 6) 0 ⟨[.val (.scr ns), .val .feed, .no, .no, .no, .no, .no], some ⟨ns, 0, 0, 0, 1⟩⟩
  ⟨.no, .no, .no, .no, .no, _, rfl, Fd3.zero ns⟩ (by
   rintro i d s hd ⟨x2, x3, x4, x5, x6, f', rfl, I⟩
   obtain ⟨rfl, hi⟩ := a07 hd
   rw [Nat.zero_add] at *
   obtain ⟨y3, y4, y5, y6, f'', e, I'⟩ := a8Z ((0 : Int) + i) I (by omega) (.val (.scr ns)) x3 x4 x5 x6
   exact ⟨⟨[.val (.scr ns), .val .feed, .val (.int ((0 : Int) + i)), x3, x4, x5, x6], some f'⟩, _, rfl, .inl e, _, y3, y4, y5, y6, f'', rfl, I'.mono (by omega)⟩)
 refine ⟨some f', l0 (s := ⟨[.val (.scr ns), .val .feed, x2, x3, x4, x5, x6], some f'⟩) ?_⟩
 show a2a FCr WRd WRu FCl FCp WMv WEx WAn T2 M7 ⟨[.val (.scr ns), .no, .no, .no, .no, .no, .no], none⟩ = _
 unfold a2a
 rw [i6 (s1 := ⟨[.val (.scr ns), .val .feed, .no, .no, .no, .no, .no], some ⟨ns, 0, 0, 0, 1⟩⟩) (k5 (j9 rfl e0) rfl),
  i6 ((a2p (xs := [.int 6]) (s1 := ⟨[.val (.scr ns), .val .feed, .no, .no, .no, .no, .no], some ⟨ns, 0, 0, 0, 1⟩⟩) rfl (a1X (n := 6) (by decide))).trans lp)]
 exact l3 rfl
end T
namespace T
open PySem PySem.Spec L2 DL
noncomputable def top (i : Nat) : Stmt := PySem.Challenge.pw_widelines_k50_places_lines_rules_changed.main.body.getD i (.Pass ⟨0, 0, 0, 0⟩)
noncomputable abbrev a1y : Stmt := top 19
theorem sc_law_new_tape : FnScope ["_law_script"] ["_law_script"] (k3 a1y) := ⟨rfl, rfl, rfl, by decide +kernel, rfl, by decide +kernel, by decide +kernel⟩
set_option maxHeartbeats 4000000 in
section
variable {P : Program} {w : World} {K : PySem.W.Frag} {mg : Str → Option Value} {base : Heap}
theorem a82 {f : Addr} {fd : FuncData} (B : Blt mg) (F : GF K mg "_law_new_tape" a1y f fd) : Cal P w K mg base 1 "_law_new_tape" ["_law_script"] (M7) :=
 n0 F (fun _ _ _ _ _ _ => on1 fun _ => rfl) sc_law_new_tape fun cdv A outer s H E g hr =>
  have nd := sc_law_new_tape.nd
  (j7 (k6 (a6A (pv 0))))
noncomputable abbrev a0E : Stmt := top 20
theorem sc_law_draw : FnScope ["_law_tape", "_law_many", "_law_found", "_law_spot_here", "_law_cell", "_law_seed"] ["_law_tape", "_law_many"] (k3 a0E) := ⟨rfl, rfl, rfl, by decide +kernel, rfl, by decide +kernel, by decide +kernel⟩
set_option maxHeartbeats 4000000 in
theorem a7Q {f : Addr} {fd : FuncData} (B : Blt mg) (F : GF K mg "_law_draw" a0E f fd) : Cal P w K mg base 1 "_law_draw" ["_law_tape", "_law_many"] (C2) :=
 n0 F (fun _ _ _ _ _ _ => on2 fun _ _ => rfl) sc_law_draw fun cdv A outer s H E g hr =>
  have nd := sc_law_draw.nd
  (j3 (u5 (n8 U4 (B9 (fun i j => decide (j < i))) (EO.b (L7 (pv 0))) (EO.b a7) (m9 _)) (j3 (k7 (i := 2) nd rfl (by first | exact Or.inl rfl | exact Or.inr rfl) (j5 E9 D8 (EO.b (L7 (pv 0))) (c5 (pv 1)))) (j3 (a1Q (pv 0) (j5 D3 D7 (EO.b (L7 (pv 0))) (c5 (pv 1)))) (j7 (k6 (c8 (pv 2)))))) u6) (j3 (k7 (i := 3) nd rfl (by first | exact Or.inl rfl | exact Or.inr rfl) (L7 (pv 0))) (j3 (a1Q (pv 0) (j5 B0 A7 (c5 (pv 3)) (EO.b a7))) (j3 (k7 (i := 4) nd rfl (by first | exact Or.inl rfl | exact Or.inr rfl) a7) (j3 (u5 (n8 U4 (B9 (fun i j => decide (j < i))) (EO.b (v7 E3 E8 (by rfl) B.len E4 (bc (EO.b (L7 (pv 0))) p7))) (EO.b a7) (m9 _)) (j7 (k7 (i := 4) nd rfl (by first | exact Or.inl rfl | exact Or.inr rfl) (e8 d0 e7 (EO.b (L7 (pv 0))) (EO.b (j5 E9 D8 (c5 (pv 3)) (EO.b (v7 E3 E8 (by rfl) B.len E4 (bc (EO.b (L7 (pv 0))) p7))))) (fun _ _ => rfl)))) u6) (j3 (u5 (WO.t (a0k (n8 a7B (B9 (fun i j => decide (j ≤ i))) (c5 (pv 4)) (EO.b (j5 W3 X9 (EO.b a7) (EO.b a7))) (m9 _)) (a4L (n8 K4 (B9 (fun i j => decide (i < j))) (c5 (pv 3)) (EO.b (v7 E3 E8 (by rfl) B.len E4 (bc (EO.b (L7 (pv 0))) p7))) (m9 _))))) (j3 (a1Q (pv 0) (j5 D3 D7 (c5 (pv 4)) (c5 (pv 1)))) (j7 (k6 (j5 E9 D8 (c5 (pv 4)) (c5 (pv 1)))))) u6) (j3 (k7 (i := 5) nd rfl (by first | exact Or.inl rfl | exact Or.inr rfl) (j5 E9 D8 (EO.b (j5 m8 m7 (EO.b (j5 B0 A7 (EO.b (j5 B0 A7 (EO.b (j5 E9 D8 (c5 (pv 4)) (EO.b a7))) (EO.b (j5 m8 m7 (EO.b (j5 m8 m7 (EO.b a7) (c5 (pv 3)))) (c5 (pv 3)))))) (EO.b a7))) (EO.b a7))) (EO.b a7))) (j7 (k6 (j5 E9 D8 (EO.b (j5 D3 D7 (EO.b (j5 E9 D8 (EO.b (j5 m8 m7 (EO.b (j5 E9 D8 (EO.b (j5 B0 A7 (EO.b (j5 m8 m7 (c5 (pv 5)) (EO.b a7))) (EO.b (j5 m8 m7 (c5 (pv 3)) (EO.b a7))))) (EO.b a7))) (EO.b a7))) (EO.b a7))) (EO.b a7))) (c5 (pv 1))))))))))))
noncomputable abbrev a0H : Stmt := top 38
theorem sc_law_change : FnScope ["_law_tape", "_law_choice", "_law_some", "_law_x"] ["_law_tape"] (k3 a0H) := ⟨rfl, rfl, rfl, by decide +kernel, rfl, by decide +kernel, by decide +kernel⟩
set_option maxHeartbeats 4000000 in
theorem a7Z {m_law_draw : DFn} (C_law_draw : Cal P w K mg base 1 "_law_draw" ["_law_tape", "_law_many"] m_law_draw) {f : Addr} {fd : FuncData} (B : Blt mg) (F : GF K mg "_law_change" a0H f fd) : Cal P w K mg base 2 "_law_change" ["_law_tape"] (a1m m_law_draw) :=
 n0 F (fun _ _ _ _ _ _ => on1 fun _ => rfl) sc_law_change fun cdv A outer s H E g hr =>
  have nd := sc_law_change.nd
  (j3 (k7 (i := 1) nd rfl (by first | exact Or.inl rfl | exact Or.inr rfl) (i9 C_law_draw _ hr (by decide) (by rfl) (ac (c8 (pv 0)) (ac a7 a9)) (c6 (c6 i8)))) (j3 (u5 (n8 (A2 (u64 hr)) A3 (c5 (pv 1)) (EO.b a7) (m9 _)) (j3 (B8 (i := 2) nd rfl (by first | exact Or.inl rfl | exact Or.inr rfl) (o9 (ac (i3 (ac a7 (ac a7 a9))) (ac (i3 (ac a7 (ac a7 a9))) (ac (i3 (ac (o8 p8 o6 (EO.b a7)) (ac a7 a9))) (ac (i3 (ac a7 (ac a7 a9))) (ac (i3 (ac (o8 p8 o6 (EO.b a7)) (ac a7 a9))) a9))))))) (j3 (k7 (i := 3) nd rfl (by first | exact Or.inl rfl | exact Or.inr rfl) (e8 d0 e7 (c5 (pv 2)) (EO.b (i9 C_law_draw _ hr (by decide) (by rfl) (ac (c8 (pv 0)) (ac a7 a9)) (c6 (c6 i8)))) (fun _ _ => rfl))) (j7 (k6 (i3 (ac (u8 (by decide +kernel)) (ac (c8 (pv 3)) (ac (e8 d0 e7 (c5 (pv 2)) (EO.b (i9 C_law_draw _ hr (by decide) (by rfl) (ac (c8 (pv 0)) (ac a7 a9)) (c6 (c6 i8)))) (fun _ _ => rfl)) a9)))))))) u6) (j3 (u5 (n8 (A2 (u64 hr)) A3 (c5 (pv 1)) (EO.b a7) (m9 _)) (j7 (k6 (i3 (ac (u8 (by decide +kernel)) (ac (e8 d0 e7 (EO.b (FO.v (o9 (ac (i3 (ac a7 (ac a7 a9))) (ac (i3 (ac a7 (ac a7 a9))) (ac (i3 (ac a7 (ac a7 a9))) (ac (i3 (ac a7 (ac a7 a9))) (ac (i3 (ac a7 (ac a7 a9))) a9)))))))) (EO.b (i9 C_law_draw _ hr (by decide) (by rfl) (ac (c8 (pv 0)) (ac a7 a9)) (c6 (c6 i8)))) (fun _ _ => rfl)) a9))))) u6) (j7 (k6 (e8 d0 e7 (EO.b (FO.v (o9 (ac (i3 (ac (u8 (by decide +kernel)) a9)) (ac (i3 (ac (u8 (by decide +kernel)) a9)) a9))))) (EO.b (j5 F4 F7 (c5 (pv 1)) (EO.b a7))) (fun _ _ => rfl)))))))
noncomputable abbrev a2k : Stmt := top 40
theorem sc_law_rule : FnScope ["_law_tape", "_law_half", "_law_side", "_law_ending", "_law_joining"] ["_law_tape"] (k3 a2k) := ⟨rfl, rfl, rfl, by decide +kernel, rfl, by decide +kernel, by decide +kernel⟩
set_option maxHeartbeats 4000000 in
theorem a5F {m_law_draw : DFn} (C_law_draw : Cal P w K mg base 1 "_law_draw" ["_law_tape", "_law_many"] m_law_draw) {f : Addr} {fd : FuncData} (B : Blt mg) (F : GF K mg "_law_rule" a2k f fd) : Cal P w K mg base 2 "_law_rule" ["_law_tape"] (a0i m_law_draw) :=
 n0 F (fun _ _ _ _ _ _ => on1 fun _ => rfl) sc_law_rule fun cdv A outer s H E g hr =>
  have nd := sc_law_rule.nd
  (j3 (k7 (i := 1) nd rfl (by first | exact Or.inl rfl | exact Or.inr rfl) (e8 d0 e7 (EO.b (FO.v (o9 (ac (i3 (ac a7 (ac a7 a9))) (ac (i3 (ac a7 (ac a7 a9))) (ac (i3 (ac a7 (ac a7 a9))) (ac (i3 (ac a7 (ac a7 a9))) (ac (i3 (ac a7 (ac a7 a9))) a9)))))))) (EO.b (i9 C_law_draw _ hr (by decide) (by rfl) (ac (c8 (pv 0)) (ac a7 a9)) (c6 (c6 i8)))) (fun _ _ => rfl))) (j3 (k7 (i := 2) nd rfl (by first | exact Or.inl rfl | exact Or.inr rfl) (e8 d0 e7 (EO.b (FO.v (o9 (ac (u8 (by decide +kernel)) (ac (u8 (by decide +kernel)) (ac (u8 (by decide +kernel)) a9)))))) (EO.b (i9 C_law_draw _ hr (by decide) (by rfl) (ac (c8 (pv 0)) (ac a7 a9)) (c6 (c6 i8)))) (fun _ _ => rfl))) (j3 (k7 (i := 3) nd rfl (by first | exact Or.inl rfl | exact Or.inr rfl) (e8 d0 e7 (EO.b (FO.v (o9 (ac (u8 (by decide +kernel)) (ac (u8 (by decide +kernel)) (ac (u8 (by decide +kernel)) a9)))))) (EO.b (i9 C_law_draw _ hr (by decide) (by rfl) (ac (c8 (pv 0)) (ac a7 a9)) (c6 (c6 i8)))) (fun _ _ => rfl))) (j3 (k7 (i := 4) nd rfl (by first | exact Or.inl rfl | exact Or.inr rfl) (e8 d0 e7 (EO.b (FO.v (o9 (ac (u8 (by decide +kernel)) (ac (u8 (by decide +kernel)) (ac (u8 (by decide +kernel)) a9)))))) (EO.b (i9 C_law_draw _ hr (by decide) (by rfl) (ac (c8 (pv 0)) (ac a7 a9)) (c6 (c6 i8)))) (fun _ _ => rfl))) (j7 (k6 (i3 (ac (c8 (pv 1)) (ac (c8 (pv 2)) (ac (c8 (pv 3)) (ac (c8 (pv 4)) (ac (e8 d0 e7 (EO.b (FO.v (o9 (ac (i3 (ac a7 (ac a7 a9))) (ac (i3 (ac a7 (ac a7 a9))) (ac (i3 (ac a7 (ac a7 a9))) (ac (i3 (ac a7 (ac a7 a9))) a9))))))) (EO.b (i9 C_law_draw _ hr (by decide) (by rfl) (ac (c8 (pv 0)) (ac a7 a9)) (c6 (c6 i8)))) (fun _ _ => rfl)) a9))))))))))))
noncomputable abbrev a15 : Stmt := top 29
theorem sc_law_start : FnScope ["_law_tape", "_law_some", "_law_x"] ["_law_tape"] (k3 a15) := ⟨rfl, rfl, rfl, by decide +kernel, rfl, by decide +kernel, by decide +kernel⟩
set_option maxHeartbeats 4000000 in
theorem a9g {m_law_draw : DFn} (C_law_draw : Cal P w K mg base 1 "_law_draw" ["_law_tape", "_law_many"] m_law_draw) {f : Addr} {fd : FuncData} (B : Blt mg) (F : GF K mg "_law_start" a15 f fd) : Cal P w K mg base 2 "_law_start" ["_law_tape"] (Y6 m_law_draw) :=
 n0 F (fun _ _ _ _ _ _ => on1 fun _ => rfl) sc_law_start fun cdv A outer s H E g hr =>
  have nd := sc_law_start.nd
  (j3 (B8 (i := 1) nd rfl (by first | exact Or.inl rfl | exact Or.inr rfl) (o9 (ac (i3 (ac a7 (ac a7 a9))) (ac (i3 (ac a7 (ac a7 a9))) (ac (i3 (ac (o8 p8 o6 (EO.b a7)) (ac a7 a9))) (ac (i3 (ac a7 (ac a7 a9))) (ac (i3 (ac (o8 p8 o6 (EO.b a7)) (ac a7 a9))) (ac (i3 (ac a7 (ac a7 a9))) a9)))))))) (j3 (k7 (i := 2) nd rfl (by first | exact Or.inl rfl | exact Or.inr rfl) (e8 d0 e7 (c5 (pv 1)) (EO.b (i9 C_law_draw _ hr (by decide) (by rfl) (ac (c8 (pv 0)) (ac a7 a9)) (c6 (c6 i8)))) (fun _ _ => rfl))) (j7 (k6 (i3 (ac (c8 (pv 2)) (ac (e8 d0 e7 (c5 (pv 1)) (EO.b (i9 C_law_draw _ hr (by decide) (by rfl) (ac (c8 (pv 0)) (ac a7 a9)) (c6 (c6 i8)))) (fun _ _ => rfl)) a9)))))))
noncomputable abbrev a10 : Stmt := top 21
theorem sc_law_divisor : FnScope ["_law_one", "_law_other"] ["_law_one", "_law_other"] (k3 a10) := ⟨rfl, rfl, rfl, by decide +kernel, rfl, by decide +kernel, by decide +kernel⟩
set_option maxHeartbeats 4000000 in
theorem a8p {f : Addr} {fd : FuncData} (B : Blt mg) (F : GF K mg "_law_divisor" a10 f fd) : Cal P w K mg base 1 "_law_divisor" ["_law_one", "_law_other"] (w8) :=
 n0 F (fun _ _ _ _ _ _ => on2 fun _ _ => rfl) sc_law_divisor fun cdv A outer s H E g hr =>
  have nd := sc_law_divisor.nd
  (j3 (a1G (i := 0) (j := 1) rfl nd rfl rfl (by decide) rfl rfl (ac (v7 Z9 W5 (by rfl) B.abs X3 (bc (c5 (pv 0)) p7)) (ac (v7 Z9 W5 (by rfl) B.abs X3 (bc (c5 (pv 1)) p7)) a9)) rfl) (j3 (a4J PassesOwn.never (n8 U4 (B9 (fun i j => decide (j < i))) (c5 (pv 1)) (EO.b a7) (m9 _)) (j7 (a1G (i := 0) (j := 1) rfl nd rfl rfl (by decide) rfl rfl (ac (c8 (pv 1)) (ac (j5 E9 D8 (c5 (pv 0)) (c5 (pv 1))) a9)) rfl))) (j7 (k6 (c8 (pv 0))))))
noncomputable abbrev a1P : Stmt := top 22
theorem sc_law_low : FnScope ["_law_top", "_law_bottom", "_law_shared"] ["_law_top", "_law_bottom"] (k3 a1P) := ⟨rfl, rfl, rfl, by decide +kernel, rfl, by decide +kernel, by decide +kernel⟩
set_option maxHeartbeats 4000000 in
theorem a7e {m_law_divisor : DFn} (C_law_divisor : Cal P w K mg base 1 "_law_divisor" ["_law_one", "_law_other"] m_law_divisor) {f : Addr} {fd : FuncData} (B : Blt mg) (F : GF K mg "_law_low" a1P f fd) : Cal P w K mg base 2 "_law_low" ["_law_top", "_law_bottom"] (C1 m_law_divisor) :=
 n0 F (fun _ _ _ _ _ _ => on2 fun _ _ => rfl) sc_law_low fun cdv A outer s H E g hr =>
  have nd := sc_law_low.nd
  (j3 (k7 (i := 2) nd rfl (by first | exact Or.inl rfl | exact Or.inr rfl) (i9 C_law_divisor _ hr (by decide) (by rfl) (ac (c8 (pv 0)) (ac (c8 (pv 1)) a9)) (c6 (c6 i8)))) (j3 (u5 (n8 K4 (B9 (fun i j => decide (i < j))) (c5 (pv 1)) (EO.b a7) (m9 _)) (j7 (k7 (i := 2) nd rfl (by first | exact Or.inl rfl | exact Or.inr rfl) (o8 p8 o6 (c5 (pv 2))))) u6) (j7 (k6 (i3 (ac (j5 D3 D7 (c5 (pv 0)) (c5 (pv 2))) (ac (j5 D3 D7 (c5 (pv 1)) (c5 (pv 2))) a9)))))))
noncomputable abbrev a1p : Stmt := top 25
theorem sc_law_product : FnScope ["_law_one", "_law_other"] ["_law_one", "_law_other"] (k3 a1p) := ⟨rfl, rfl, rfl, by decide +kernel, rfl, by decide +kernel, by decide +kernel⟩
set_option maxHeartbeats 4000000 in
theorem a9v {m_law_low : DFn} (C_law_low : Cal P w K mg base 2 "_law_low" ["_law_top", "_law_bottom"] m_law_low) {f : Addr} {fd : FuncData} (B : Blt mg) (F : GF K mg "_law_product" a1p f fd) : Cal P w K mg base 3 "_law_product" ["_law_one", "_law_other"] (S9 m_law_low) :=
 n0 F (fun _ _ _ _ _ _ => on2 fun _ _ => rfl) sc_law_product fun cdv A outer s H E g hr =>
  have nd := sc_law_product.nd
  (j7 (k6 (i9 C_law_low _ hr (by decide) (by rfl) (ac (j5 m8 m7 (EO.b (e8 d0 e7 (c5 (pv 0)) (EO.b a7) (fun _ _ => rfl))) (EO.b (e8 d0 e7 (c5 (pv 1)) (EO.b a7) (fun _ _ => rfl)))) (ac (j5 m8 m7 (EO.b (e8 d0 e7 (c5 (pv 0)) (EO.b a7) (fun _ _ => rfl))) (EO.b (e8 d0 e7 (c5 (pv 1)) (EO.b a7) (fun _ _ => rfl)))) a9)) (c6 (c6 i8)))))
noncomputable abbrev a1W : Stmt := top 26
theorem sc_law_spot : FnScope ["_law_x", "_law_y", "_law_some", "_law_shared"] ["_law_x", "_law_y"] (k3 a1W) := ⟨rfl, rfl, rfl, by decide +kernel, rfl, by decide +kernel, by decide +kernel⟩
set_option maxHeartbeats 4000000 in
theorem a95 {m_law_divisor : DFn} (C_law_divisor : Cal P w K mg base 1 "_law_divisor" ["_law_one", "_law_other"] m_law_divisor) {f : Addr} {fd : FuncData} (B : Blt mg) (F : GF K mg "_law_spot" a1W f fd) : Cal P w K mg base 2 "_law_spot" ["_law_x", "_law_y"] (L3 m_law_divisor) :=
 n0 F (fun _ _ _ _ _ _ => on2 fun _ _ => rfl) sc_law_spot fun cdv A outer s H E g hr =>
  have nd := sc_law_spot.nd
  (j3 (k7 (i := 2) nd rfl (by first | exact Or.inl rfl | exact Or.inr rfl) (i3 (ac (j5 m8 m7 (EO.b (e8 d0 e7 (c5 (pv 0)) (EO.b a7) (fun _ _ => rfl))) (EO.b (e8 d0 e7 (c5 (pv 1)) (EO.b a7) (fun _ _ => rfl)))) (ac (j5 m8 m7 (EO.b (e8 d0 e7 (c5 (pv 1)) (EO.b a7) (fun _ _ => rfl))) (EO.b (e8 d0 e7 (c5 (pv 0)) (EO.b a7) (fun _ _ => rfl)))) (ac (j5 m8 m7 (EO.b (e8 d0 e7 (c5 (pv 0)) (EO.b a7) (fun _ _ => rfl))) (EO.b (e8 d0 e7 (c5 (pv 1)) (EO.b a7) (fun _ _ => rfl)))) a9))))) (j3 (k7 (i := 3) nd rfl (by first | exact Or.inl rfl | exact Or.inr rfl) (i9 C_law_divisor _ hr (by decide) (by rfl) (ac (i9 C_law_divisor _ hr (by decide) (by rfl) (ac (e8 d0 e7 (c5 (pv 2)) (EO.b a7) (fun _ _ => rfl)) (ac (e8 d0 e7 (c5 (pv 2)) (EO.b a7) (fun _ _ => rfl)) a9)) (c6 (c6 i8))) (ac (e8 d0 e7 (c5 (pv 2)) (EO.b a7) (fun _ _ => rfl)) a9)) (c6 (c6 i8)))) (j7 (k6 (O6 O7 M6 (by rfl) B.tuple M8 (bc (EO.b (FO.v (U9 (N' := ["_law_one", "_law_shared"]) (idx := [3]) rfl (P5 (by rfl) (.cons rfl .nil) (by decide +kernel) rfl (by decide +kernel) (by rfl) (.cons rfl (by first | exact Or.inl rfl | exact Or.inr rfl) (by first | exact Or.inl rfl | exact Or.inr rfl) .nil)) (K1 (c8 (pv 2))) (fun _ _ _ _ => n6 (i := 0) (show List.Nodup (["_law_one", "_law_shared"] : List Str) by decide +kernel) rfl (Or.inl rfl)) (fun _ _ _ _ _ => N5) (fun _ _ _ _ _ => (j5 D3 D7 (c5 (pv 0)) (c5 (pv 1))))))) p7))))))
noncomputable abbrev a2z : Stmt := top 23
theorem sc_law_plus : FnScope ["_law_one", "_law_other"] ["_law_one", "_law_other"] (k3 a2z) := ⟨rfl, rfl, rfl, by decide +kernel, rfl, by decide +kernel, by decide +kernel⟩
set_option maxHeartbeats 4000000 in
theorem a6n {m_law_low : DFn} (C_law_low : Cal P w K mg base 2 "_law_low" ["_law_top", "_law_bottom"] m_law_low) {f : Addr} {fd : FuncData} (B : Blt mg) (F : GF K mg "_law_plus" a2z f fd) : Cal P w K mg base 3 "_law_plus" ["_law_one", "_law_other"] (R8 m_law_low) :=
 n0 F (fun _ _ _ _ _ _ => on2 fun _ _ => rfl) sc_law_plus fun cdv A outer s H E g hr =>
  have nd := sc_law_plus.nd
  (j7 (k6 (i9 C_law_low _ hr (by decide) (by rfl) (ac (j5 B0 A7 (EO.b (j5 m8 m7 (EO.b (e8 d0 e7 (c5 (pv 0)) (EO.b a7) (fun _ _ => rfl))) (EO.b (e8 d0 e7 (c5 (pv 1)) (EO.b a7) (fun _ _ => rfl))))) (EO.b (j5 m8 m7 (EO.b (e8 d0 e7 (c5 (pv 1)) (EO.b a7) (fun _ _ => rfl))) (EO.b (e8 d0 e7 (c5 (pv 0)) (EO.b a7) (fun _ _ => rfl)))))) (ac (j5 m8 m7 (EO.b (e8 d0 e7 (c5 (pv 0)) (EO.b a7) (fun _ _ => rfl))) (EO.b (e8 d0 e7 (c5 (pv 1)) (EO.b a7) (fun _ _ => rfl)))) a9)) (c6 (c6 i8)))))
noncomputable abbrev a0U : Stmt := top 31
theorem sc_law_closed : FnScope ["_law_tape", "_law_some", "_law_told", "_law_k", "_law_a", "_law_b", "_law_h", "_law_size", "_law_x", "_law_y", "_law_found", "_law_one", "_law_other", "_law_far", "_law_high"] ["_law_tape"] (k3 a0U) := ⟨rfl, rfl, rfl, by decide +kernel, rfl, by decide +kernel, by decide +kernel⟩
set_option maxHeartbeats 4000000 in
theorem a6s {m_law_spot : DFn} {m_law_plus : DFn} {m_law_product : DFn} {m_law_start : DFn} {m_law_draw : DFn} (C_law_spot : Cal P w K mg base 2 "_law_spot" ["_law_x", "_law_y"] m_law_spot) (C_law_plus : Cal P w K mg base 3 "_law_plus" ["_law_one", "_law_other"] m_law_plus) (C_law_product : Cal P w K mg base 3 "_law_product" ["_law_one", "_law_other"] m_law_product) (C_law_start : Cal P w K mg base 2 "_law_start" ["_law_tape"] m_law_start) (C_law_draw : Cal P w K mg base 1 "_law_draw" ["_law_tape", "_law_many"] m_law_draw) {f : Addr} {fd : FuncData} (B : Blt mg) (F : GF K mg "_law_closed" a0U f fd) : Cal P w K mg base 4 "_law_closed" ["_law_tape"] (a2l m_law_spot m_law_plus m_law_product m_law_start m_law_draw) :=
 n0 F (fun _ _ _ _ _ _ => on1 fun _ => rfl) sc_law_closed fun cdv A outer s H E g hr =>
  have nd := sc_law_closed.nd
  (j3 (B8 (i := 1) nd rfl (by first | exact Or.inl rfl | exact Or.inr rfl) (o9 (ac (i3 (ac (i3 (ac a7 (ac a7 a9))) (ac (i3 (ac a7 (ac a7 a9))) (ac (i3 (ac a7 (ac a7 a9))) a9)))) (ac (i3 (ac (i3 (ac a7 (ac a7 a9))) (ac (i3 (ac a7 (ac a7 a9))) (ac (i3 (ac a7 (ac a7 a9))) a9)))) (ac (i3 (ac (i3 (ac a7 (ac a7 a9))) (ac (i3 (ac a7 (ac a7 a9))) (ac (i3 (ac a7 (ac a7 a9))) (ac (i3 (ac a7 (ac a7 a9))) a9))))) a9))))) (j3 (B8 (i := 1) nd rfl (by first | exact Or.inl rfl | exact Or.inr rfl) (Y5 U6 Y8 (c5 (pv 1)) (EO.b (FO.v (o9 (ac (i3 (ac (i3 (ac a7 (ac a7 a9))) (ac (i3 (ac a7 (ac a7 a9))) (ac (i3 (ac a7 (ac a7 a9))) (ac (i3 (ac a7 (ac a7 a9))) a9))))) (ac (i3 (ac (i3 (ac a7 (ac a7 a9))) (ac (i3 (ac a7 (ac a7 a9))) (ac (i3 (ac a7 (ac a7 a9))) (ac (i3 (ac a7 (ac a7 a9))) a9))))) a9))))))) (j3 (B8 (i := 1) nd rfl (by first | exact Or.inl rfl | exact Or.inr rfl) (Y5 U6 Y8 (c5 (pv 1)) (EO.b (FO.v (o9 (ac (i3 (ac (i3 (ac a7 (ac a7 a9))) (ac (i3 (ac a7 (ac a7 a9))) (ac (i3 (ac a7 (ac a7 a9))) (ac (i3 (ac a7 (ac a7 a9))) (ac (i3 (ac a7 (ac a7 a9))) (ac (i3 (ac a7 (ac a7 a9))) a9))))))) a9)))))) (j3 (B8 (i := 1) nd rfl (by first | exact Or.inl rfl | exact Or.inr rfl) (Y5 U6 Y8 (c5 (pv 1)) (EO.b (FO.v (o9 (ac (i3 (ac (i3 (ac a7 (ac a7 a9))) (ac (i3 (ac a7 (ac a7 a9))) (ac (i3 (ac a7 (ac a7 a9))) (ac (i3 (ac a7 (ac a7 a9))) (ac (i3 (ac a7 (ac a7 a9))) (ac (i3 (ac a7 (ac a7 a9))) (ac (i3 (ac a7 (ac a7 a9))) (ac (i3 (ac a7 (ac a7 a9))) a9))))))))) a9)))))) (j3 (k7 (i := 2) nd rfl (by first | exact Or.inl rfl | exact Or.inr rfl) (e8 d0 e7 (c5 (pv 1)) (EO.b (i9 C_law_draw _ hr (by decide) (by rfl) (ac (c8 (pv 0)) (ac a7 a9)) (c6 (c6 i8)))) (fun _ _ => rfl))) (j3 (k7 (i := 3) nd rfl (by first | exact Or.inl rfl | exact Or.inr rfl) (i9 C_law_draw _ hr (by decide) (by rfl) (ac (c8 (pv 0)) (ac (v7 E3 E8 (by rfl) B.len E4 (bc (c5 (pv 2)) p7)) a9)) (c6 (c6 i8)))) (j3 (k7 (i := 2) nd rfl (by first | exact Or.inl rfl | exact Or.inr rfl) (a7q (EO.b (j5 B0 A7 (EO.b (N3 (c5 (pv 2)) (N2 (c5 (pv 3))) L9)) (EO.b (N3 (c5 (pv 2)) L9 (N2 (c5 (pv 3))))))) (EO.b (j5 F4 F7 (EO.b a7) (EO.b (j5 m8 m7 (EO.b a7) (EO.b (i9 C_law_draw _ hr (by decide) (by rfl) (ac (c8 (pv 0)) (ac a7 a9)) (c6 (c6 i8)))))))))) (j3 (M5 (e8 d0 e7 (EO.b (FO.v (o9 (ac (i3 (ac a7 (ac a7 (ac a7 a9)))) (ac (i3 (ac a7 (ac a7 (ac a7 a9)))) (ac (i3 (ac a7 (ac a7 (ac a7 a9)))) (ac (i3 (ac (o8 p8 o6 (EO.b a7)) (ac a7 (ac a7 a9)))) (ac (i3 (ac a7 (ac a7 (ac a7 a9)))) a9)))))))) (EO.b (i9 C_law_draw _ hr (by decide) (by rfl) (ac (c8 (pv 0)) (ac a7 a9)) (c6 (c6 i8)))) (fun _ _ => rfl)) (G4 rfl (w6 (u4 (n6 (i := 4) nd rfl (by first | exact Or.inl rfl | exact Or.inr rfl))) (w6 (u4 (n6 (i := 5) nd rfl (by first | exact Or.inl rfl | exact Or.inr rfl))) (w6 (u4 (n6 (i := 6) nd rfl (by first | exact Or.inl rfl | exact Or.inr rfl))) J3))))) (j3 (k7 (i := 7) nd rfl (by first | exact Or.inl rfl | exact Or.inr rfl) (e8 d0 e7 (EO.b (FO.v (o9 (ac (i3 (ac a7 (ac a7 a9))) (ac (i3 (ac a7 (ac a7 a9))) (ac (i3 (ac a7 (ac a7 a9))) a9)))))) (EO.b (i9 C_law_draw _ hr (by decide) (by rfl) (ac (c8 (pv 0)) (ac a7 a9)) (c6 (c6 i8)))) (fun _ _ => rfl))) (j3 (M5 (i9 C_law_start _ hr (by decide) (by rfl) (ac (c8 (pv 0)) a9) (c6 i8)) (G4 rfl (w6 (u4 (n6 (i := 8) nd rfl (by first | exact Or.inl rfl | exact Or.inr rfl))) (w6 (u4 (n6 (i := 9) nd rfl (by first | exact Or.inl rfl | exact Or.inr rfl))) J3)))) (j3 (B8 (i := 10) nd rfl (by first | exact Or.inl rfl | exact Or.inr rfl) (o9 a9)) (j3 (a1E PassesOwn.never rfl (c8 (pv 2)) (G4 rfl (w6 (u4 (n6 (i := 11) nd rfl (by first | exact Or.inl rfl | exact Or.inr rfl))) (w6 (u4 (n6 (i := 12) nd rfl (by first | exact Or.inl rfl | exact Or.inr rfl))) J3))) (j3 (k7 (i := 13) nd rfl (by first | exact Or.inl rfl | exact Or.inr rfl) (i9 C_law_product _ hr (by decide) (by rfl) (ac (c8 (pv 7)) (ac (i3 (ac (j5 F4 F7 (EO.b (j5 m8 m7 (c5 (pv 11)) (c5 (pv 4)))) (EO.b (j5 m8 m7 (c5 (pv 12)) (c5 (pv 5))))) (ac (c8 (pv 6)) a9))) a9)) (c6 (c6 i8)))) (j3 (k7 (i := 14) nd rfl (by first | exact Or.inl rfl | exact Or.inr rfl) (i9 C_law_product _ hr (by decide) (by rfl) (ac (c8 (pv 7)) (ac (i3 (ac (j5 B0 A7 (EO.b (j5 m8 m7 (c5 (pv 11)) (c5 (pv 5)))) (EO.b (j5 m8 m7 (c5 (pv 12)) (c5 (pv 4))))) (ac (c8 (pv 6)) a9))) a9)) (c6 (c6 i8)))) (j7 (X5 (pv 10) (i9 C_law_spot _ hr (by decide) (by rfl) (ac (i9 C_law_plus _ hr (by decide) (by rfl) (ac (c8 (pv 8)) (ac (c8 (pv 13)) a9)) (c6 (c6 i8))) (ac (i9 C_law_plus _ hr (by decide) (by rfl) (ac (c8 (pv 9)) (ac (c8 (pv 14)) a9)) (c6 (c6 i8))) a9)) (c6 (c6 i8)))))))) (j7 (k6 (i3 (ac Q8 (ac (O6 O7 M6 (by rfl) B.tuple M8 (bc (c5 (pv 10)) p7)) a9)))))))))))))))))
noncomputable abbrev a17 : Stmt := top 28
theorem sc_law_menu : FnScope ["_law_tape", "_law_great", "_law_choice", "_law_some", "_law_a", "_law_b", "_law_h", "_law_found", "_law_x", "_law_y"] ["_law_tape"] (k3 a17) := ⟨rfl, rfl, rfl, by decide +kernel, rfl, by decide +kernel, by decide +kernel⟩
set_option maxHeartbeats 4000000 in
theorem a8i {m_law_draw : DFn} (C_law_draw : Cal P w K mg base 1 "_law_draw" ["_law_tape", "_law_many"] m_law_draw) {f : Addr} {fd : FuncData} (B : Blt mg) (F : GF K mg "_law_menu" a17 f fd) : Cal P w K mg base 2 "_law_menu" ["_law_tape"] (a0I m_law_draw) :=
 n0 F (fun _ _ _ _ _ _ => on1 fun _ => rfl) sc_law_menu fun cdv A outer s H E g hr =>
  have nd := sc_law_menu.nd
  (j3 (k7 (i := 1) nd rfl (by first | exact Or.inl rfl | exact Or.inr rfl) (e8 d0 e7 (EO.b (FO.v (o9 (ac a7 (ac a7 (ac a7 (ac a7 (ac a7 (ac a7 (ac a7 (ac (j5 W3 X9 (EO.b a7) (EO.b a7)) a9))))))))))) (EO.b (i9 C_law_draw _ hr (by decide) (by rfl) (ac (c8 (pv 0)) (ac a7 a9)) (c6 (c6 i8)))) (fun _ _ => rfl))) (j3 (k7 (i := 2) nd rfl (by first | exact Or.inl rfl | exact Or.inr rfl) (i9 C_law_draw _ hr (by decide) (by rfl) (ac (c8 (pv 0)) (ac a7 a9)) (c6 (c6 i8)))) (j3 (u5 (n8 (A2 (u64 hr)) A3 (c5 (pv 2)) (EO.b a7) (m9 _)) (j3 (B8 (i := 3) nd rfl (by first | exact Or.inl rfl | exact Or.inr rfl) (o9 (ac (i3 (ac a7 (ac a7 a9))) (ac (i3 (ac a7 (ac a7 a9))) (ac (i3 (ac a7 (ac a7 a9))) (ac (i3 (ac a7 (ac a7 a9))) (ac (i3 (ac a7 (ac a7 a9))) a9))))))) (j7 (k6 (i3 (ac (FO.v (o9 (ac (i3 (ac a7 (ac a7 (ac a7 a9)))) (ac (i3 (ac a7 (ac a7 (ac a7 a9)))) (ac (i3 (ac (o8 p8 o6 (EO.b a7)) (ac a7 (ac a7 a9)))) (ac (i3 (ac a7 (ac (o8 p8 o6 (EO.b a7)) (ac a7 a9)))) a9)))))) (ac (FO.v (a4v (caps := ["_law_great"]) (idx := [1]) rfl (a39 (by rfl) (.cons rfl .nil) (by decide +kernel) rfl (by decide +kernel) (by rfl) (.cons rfl (by first | exact Or.inl rfl | exact Or.inr rfl) (by first | exact Or.inl rfl | exact Or.inr rfl) .nil)) (K1 (c8 (pv 3))) (show List.Nodup (["_law_top", "_law_bottom", "_law_great"] : List Str) by decide +kernel) (fun _ _ _ _ => rfl) (fun _ _ _ _ => rfl) (fun _ _ _ _ _ => N5) (fun _ _ _ _ _ => (i3 (ac (j5 m8 m7 (c5 (pv 2)) (c5 (pv 0))) (ac (c8 (pv 1)) a9)))))) a9)))))) u6) (j3 (M5 (e8 d0 e7 (EO.b (FO.v (o9 (ac (i3 (ac a7 (ac a7 (ac a7 a9)))) (ac (i3 (ac a7 (ac a7 (ac a7 a9)))) (ac (i3 (ac a7 (ac a7 (ac a7 a9)))) (ac (i3 (ac a7 (ac a7 (ac a7 a9)))) a9))))))) (EO.b (j5 F4 F7 (c5 (pv 2)) (EO.b a7))) (fun _ _ => rfl)) (G4 rfl (w6 (u4 (n6 (i := 4) nd rfl (by first | exact Or.inl rfl | exact Or.inr rfl))) (w6 (u4 (n6 (i := 5) nd rfl (by first | exact Or.inl rfl | exact Or.inr rfl))) (w6 (u4 (n6 (i := 6) nd rfl (by first | exact Or.inl rfl | exact Or.inr rfl))) J3))))) (j3 (B8 (i := 7) nd rfl (by first | exact Or.inl rfl | exact Or.inr rfl) (o9 (ac (i3 (ac (c8 (pv 6)) (ac a7 (ac (c8 (pv 6)) a9)))) (ac (i3 (ac a7 (ac (c8 (pv 6)) (ac (c8 (pv 6)) a9)))) (ac (i3 (ac (o8 p8 o6 (c5 (pv 6))) (ac a7 (ac (c8 (pv 6)) a9)))) (ac (i3 (ac a7 (ac (o8 p8 o6 (c5 (pv 6))) (ac (c8 (pv 6)) a9)))) a9)))))) (j3 (a1E PassesOwn.never rfl (FO.v (o9 (ac (i3 (ac (c8 (pv 4)) (ac (c8 (pv 5)) a9))) (ac (i3 (ac (c8 (pv 5)) (ac (c8 (pv 4)) a9))) a9)))) (G4 rfl (w6 (u4 (n6 (i := 8) nd rfl (by first | exact Or.inl rfl | exact Or.inr rfl))) (w6 (u4 (n6 (i := 9) nd rfl (by first | exact Or.inl rfl | exact Or.inr rfl))) J3))) (j7 (B8 (i := 7) nd rfl (by first | exact Or.inl rfl | exact Or.inr rfl) (Y5 U6 Y8 (c5 (pv 7)) (EO.b (FO.v (o9 (ac (i3 (ac (c8 (pv 8)) (ac (c8 (pv 9)) (ac (c8 (pv 6)) a9)))) (ac (i3 (ac (o8 p8 o6 (c5 (pv 9))) (ac (c8 (pv 8)) (ac (c8 (pv 6)) a9)))) (ac (i3 (ac (o8 p8 o6 (c5 (pv 8))) (ac (o8 p8 o6 (c5 (pv 9))) (ac (c8 (pv 6)) a9)))) (ac (i3 (ac (c8 (pv 9)) (ac (o8 p8 o6 (c5 (pv 8))) (ac (c8 (pv 6)) a9)))) a9))))))))))) (j7 (k6 (i3 (ac (c8 (pv 7)) (ac (FO.v (a4v (caps := ["_law_great"]) (idx := [1]) rfl (a39 (by rfl) (.cons rfl .nil) (by decide +kernel) rfl (by decide +kernel) (by rfl) (.cons rfl (by first | exact Or.inl rfl | exact Or.inr rfl) (by first | exact Or.inl rfl | exact Or.inr rfl) .nil)) (K1 (FO.v (o9 (ac (i3 (ac (c8 (pv 6)) (ac a7 a9))) (ac (i3 (ac a7 (ac a7 a9))) (ac (i3 (ac (c8 (pv 6)) (ac a7 a9))) (ac (i3 (ac a7 (ac a7 a9))) a9))))))) (show List.Nodup (["_law_top", "_law_bottom", "_law_great"] : List Str) by decide +kernel) (fun _ _ _ _ => rfl) (fun _ _ _ _ => rfl) (fun _ _ _ _ _ => N5) (fun _ _ _ _ _ => (i3 (ac (j5 m8 m7 (c5 (pv 2)) (c5 (pv 0))) (ac (c8 (pv 1)) a9)))))) a9)))))))))))
noncomputable abbrev a1l : Stmt := top 30
theorem sc_law_open : FnScope ["_law_tape", "_law_most", "_law_ways", "_law_sizes", "_law_x", "_law_y", "_law_found", "_law_former", "_law_k", "_law_some", "_law_size"] ["_law_tape", "_law_most"] (k3 a1l) := ⟨rfl, rfl, rfl, by decide +kernel, rfl, by decide +kernel, by decide +kernel⟩
set_option maxHeartbeats 4000000 in
theorem a8m {m_law_spot : DFn} {m_law_plus : DFn} {m_law_product : DFn} {m_law_draw : DFn} {m_law_start : DFn} {m_law_menu : DFn} (C_law_spot : Cal P w K mg base 2 "_law_spot" ["_law_x", "_law_y"] m_law_spot) (C_law_plus : Cal P w K mg base 3 "_law_plus" ["_law_one", "_law_other"] m_law_plus) (C_law_product : Cal P w K mg base 3 "_law_product" ["_law_one", "_law_other"] m_law_product) (C_law_draw : Cal P w K mg base 1 "_law_draw" ["_law_tape", "_law_many"] m_law_draw) (C_law_start : Cal P w K mg base 2 "_law_start" ["_law_tape"] m_law_start) (C_law_menu : Cal P w K mg base 2 "_law_menu" ["_law_tape"] m_law_menu) {f : Addr} {fd : FuncData} (B : Blt mg) (F : GF K mg "_law_open" a1l f fd) : Cal P w K mg base 4 "_law_open" ["_law_tape", "_law_most"] (a2o m_law_spot m_law_plus m_law_product m_law_draw m_law_start m_law_menu) :=
 n0 F (fun _ _ _ _ _ _ => on2 fun _ _ => rfl) sc_law_open fun cdv A outer s H E g hr =>
  have nd := sc_law_open.nd
  (j3 (M5 (i9 C_law_menu _ hr (by decide) (by rfl) (ac (c8 (pv 0)) a9) (c6 i8)) (G4 rfl (w6 (u4 (n6 (i := 2) nd rfl (by first | exact Or.inl rfl | exact Or.inr rfl))) (w6 (u4 (n6 (i := 3) nd rfl (by first | exact Or.inl rfl | exact Or.inr rfl))) J3)))) (j3 (M5 (i9 C_law_start _ hr (by decide) (by rfl) (ac (c8 (pv 0)) a9) (c6 i8)) (G4 rfl (w6 (u4 (n6 (i := 4) nd rfl (by first | exact Or.inl rfl | exact Or.inr rfl))) (w6 (u4 (n6 (i := 5) nd rfl (by first | exact Or.inl rfl | exact Or.inr rfl))) J3)))) (j3 (B8 (i := 6) nd rfl (by first | exact Or.inl rfl | exact Or.inr rfl) (o9 (ac (i9 C_law_spot _ hr (by decide) (by rfl) (ac (c8 (pv 4)) (ac (c8 (pv 5)) a9)) (c6 (c6 i8))) a9))) (j3 (k7 (i := 7) nd rfl (by first | exact Or.inl rfl | exact Or.inr rfl) a86) (j3 (a2t PassesOwn.never rfl (by rfl) B.range (j5 B0 A7 (EO.b a7) (EO.b (i9 C_law_draw _ hr (by decide) (by rfl) (ac (c8 (pv 0)) (ac (j5 F4 F7 (c5 (pv 1)) (EO.b a7)) a9)) (c6 (c6 i8))))) (u4 (n6 (i := 8) nd rfl (by first | exact Or.inl rfl | exact Or.inr rfl))) (j3 (a6X (i := 9) nd rfl (by first | exact Or.inl rfl | exact Or.inr rfl) (a6V (N' := ["_law_choice", "_law_former"]) (idx := [7]) rfl (P5 (by rfl) (.cons rfl .nil) (by decide +kernel) rfl (by decide +kernel) (by rfl) (.cons rfl (by first | exact Or.inl rfl | exact Or.inr rfl) (by first | exact Or.inl rfl | exact Or.inr rfl) .nil)) (K1 (c8 (pv 2))) (fun _ _ _ _ => n6 (i := 0) (show List.Nodup (["_law_choice", "_law_former"] : List Str) by decide +kernel) rfl (Or.inl rfl)) (fun _ _ _ _ _ => (a8Q (n8 (M1 (u64 hr)) N9 (c5 (pv 0)) (c5 (pv 1)) (m9 _)))) (fun _ _ _ _ _ => (c8 (pv 0))))) (j3 (k7 (i := 7) nd rfl (by first | exact Or.inl rfl | exact Or.inr rfl) (e8 d0 e7 (c5 (pv 9)) (EO.b (i9 C_law_draw _ hr (by decide) (by rfl) (ac (c8 (pv 0)) (ac (v7 E3 E8 (by rfl) B.len E4 (bc (c5 (pv 9)) p7)) a9)) (c6 (c6 i8)))) (fun _ _ => rfl))) (j3 (k7 (i := 10) nd rfl (by first | exact Or.inl rfl | exact Or.inr rfl) (e8 d0 e7 (c5 (pv 3)) (EO.b (i9 C_law_draw _ hr (by decide) (by rfl) (ac (c8 (pv 0)) (ac (v7 E3 E8 (by rfl) B.len E4 (bc (c5 (pv 3)) p7)) a9)) (c6 (c6 i8)))) (fun _ _ => rfl))) (j3 (k7 (i := 4) nd rfl (by first | exact Or.inl rfl | exact Or.inr rfl) (i9 C_law_plus _ hr (by decide) (by rfl) (ac (c8 (pv 4)) (ac (i9 C_law_product _ hr (by decide) (by rfl) (ac (c8 (pv 10)) (ac (i3 (ac (e8 d0 e7 (c5 (pv 7)) (EO.b a7) (fun _ _ => rfl)) (ac (e8 d0 e7 (c5 (pv 7)) (EO.b a7) (fun _ _ => rfl)) a9))) a9)) (c6 (c6 i8))) a9)) (c6 (c6 i8)))) (j3 (k7 (i := 5) nd rfl (by first | exact Or.inl rfl | exact Or.inr rfl) (i9 C_law_plus _ hr (by decide) (by rfl) (ac (c8 (pv 5)) (ac (i9 C_law_product _ hr (by decide) (by rfl) (ac (c8 (pv 10)) (ac (i3 (ac (e8 d0 e7 (c5 (pv 7)) (EO.b a7) (fun _ _ => rfl)) (ac (e8 d0 e7 (c5 (pv 7)) (EO.b a7) (fun _ _ => rfl)) a9))) a9)) (c6 (c6 i8))) a9)) (c6 (c6 i8)))) (j7 (X5 (pv 6) (i9 C_law_spot _ hr (by decide) (by rfl) (ac (c8 (pv 4)) (ac (c8 (pv 5)) a9)) (c6 (c6 i8))))))))))) (j7 (k6 (i3 (ac Q8 (ac (O6 O7 M6 (by rfl) B.tuple M8 (bc (c5 (pv 6)) p7)) a9))))))))))
noncomputable abbrev a0u : Stmt := top 32
theorem sc_law_exact : FnScope ["_law_tape", "_law_most"] ["_law_tape", "_law_most"] (k3 a0u) := ⟨rfl, rfl, rfl, by decide +kernel, rfl, by decide +kernel, by decide +kernel⟩
set_option maxHeartbeats 4000000 in
theorem a7s {m_law_draw : DFn} {m_law_closed : DFn} {m_law_open : DFn} (C_law_draw : Cal P w K mg base 1 "_law_draw" ["_law_tape", "_law_many"] m_law_draw) (C_law_closed : Cal P w K mg base 4 "_law_closed" ["_law_tape"] m_law_closed) (C_law_open : Cal P w K mg base 4 "_law_open" ["_law_tape", "_law_most"] m_law_open) {f : Addr} {fd : FuncData} (B : Blt mg) (F : GF K mg "_law_exact" a0u f fd) : Cal P w K mg base 5 "_law_exact" ["_law_tape", "_law_most"] (a02 m_law_draw m_law_closed m_law_open) :=
 n0 F (fun _ _ _ _ _ _ => on2 fun _ _ => rfl) sc_law_exact fun cdv A outer s H E g hr =>
  have nd := sc_law_exact.nd
  (j7 (k6 (a0v (n8 (A2 (u64 hr)) A3 (EO.b (i9 C_law_draw _ hr (by decide) (by rfl) (ac (c8 (pv 0)) (ac a7 a9)) (c6 (c6 i8)))) (EO.b a7) (m9 _)) (i9 C_law_closed _ hr (by decide) (by rfl) (ac (c8 (pv 0)) a9) (c6 i8)) (i9 C_law_open _ hr (by decide) (by rfl) (ac (c8 (pv 0)) (ac (c8 (pv 1)) a9)) (c6 (c6 i8))))))
noncomputable abbrev a0g : Stmt := top 27
theorem sc_law_xy : FnScope ["_law_spot_here"] ["_law_spot_here"] (k3 a0g) := ⟨rfl, rfl, rfl, by decide +kernel, rfl, by decide +kernel, by decide +kernel⟩
set_option maxHeartbeats 4000000 in
theorem a8q {m_law_low : DFn} (C_law_low : Cal P w K mg base 2 "_law_low" ["_law_top", "_law_bottom"] m_law_low) {f : Addr} {fd : FuncData} (B : Blt mg) (F : GF K mg "_law_xy" a0g f fd) : Cal P w K mg base 3 "_law_xy" ["_law_spot_here"] (Z6 m_law_low) :=
 n0 F (fun _ _ _ _ _ _ => on1 fun _ => rfl) sc_law_xy fun cdv A outer s H E g hr =>
  have nd := sc_law_xy.nd
  (j7 (k6 (i3 (ac (i9 C_law_low _ hr (by decide) (by rfl) (ac (e8 d0 e7 (c5 (pv 0)) (EO.b a7) (fun _ _ => rfl)) (ac (e8 d0 e7 (c5 (pv 0)) (EO.b a7) (fun _ _ => rfl)) a9)) (c6 (c6 i8))) (ac (i9 C_law_low _ hr (by decide) (by rfl) (ac (e8 d0 e7 (c5 (pv 0)) (EO.b a7) (fun _ _ => rfl)) (ac (e8 d0 e7 (c5 (pv 0)) (EO.b a7) (fun _ _ => rfl)) a9)) (c6 (c6 i8))) a9)))))
noncomputable abbrev a2C : Stmt := top 35
theorem sc_law_near : FnScope ["_law_tape", "_law_x"] ["_law_tape"] (k3 a2C) := ⟨rfl, rfl, rfl, by decide +kernel, rfl, by decide +kernel, by decide +kernel⟩
set_option maxHeartbeats 4000000 in
theorem a7X {m_law_spot : DFn} {m_law_low : DFn} {m_law_draw : DFn} (C_law_spot : Cal P w K mg base 2 "_law_spot" ["_law_x", "_law_y"] m_law_spot) (C_law_low : Cal P w K mg base 2 "_law_low" ["_law_top", "_law_bottom"] m_law_low) (C_law_draw : Cal P w K mg base 1 "_law_draw" ["_law_tape", "_law_many"] m_law_draw) {f : Addr} {fd : FuncData} (B : Blt mg) (F : GF K mg "_law_near" a2C f fd) : Cal P w K mg base 3 "_law_near" ["_law_tape"] (Y7 m_law_spot m_law_low m_law_draw) :=
 n0 F (fun _ _ _ _ _ _ => on1 fun _ => rfl) sc_law_near fun cdv A outer s H E g hr =>
  have nd := sc_law_near.nd
  (j3 (k7 (i := 1) nd rfl (by first | exact Or.inl rfl | exact Or.inr rfl) (i9 C_law_low _ hr (by decide) (by rfl) (ac (j5 F4 F7 (EO.b (i9 C_law_draw _ hr (by decide) (by rfl) (ac (c8 (pv 0)) (ac a7 a9)) (c6 (c6 i8)))) (EO.b a7)) (ac (e8 d0 e7 (EO.b (FO.v (o9 (ac a7 (ac a7 (ac a7 (ac a7 a9))))))) (EO.b (i9 C_law_draw _ hr (by decide) (by rfl) (ac (c8 (pv 0)) (ac a7 a9)) (c6 (c6 i8)))) (fun _ _ => rfl)) a9)) (c6 (c6 i8)))) (j7 (k6 (i9 C_law_spot _ hr (by decide) (by rfl) (ac (c8 (pv 1)) (ac (i9 C_law_low _ hr (by decide) (by rfl) (ac (j5 F4 F7 (EO.b (i9 C_law_draw _ hr (by decide) (by rfl) (ac (c8 (pv 0)) (ac a7 a9)) (c6 (c6 i8)))) (EO.b a7)) (ac (e8 d0 e7 (EO.b (FO.v (o9 (ac a7 (ac a7 (ac a7 (ac a7 a9))))))) (EO.b (i9 C_law_draw _ hr (by decide) (by rfl) (ac (c8 (pv 0)) (ac a7 a9)) (c6 (c6 i8)))) (fun _ _ => rfl)) a9)) (c6 (c6 i8))) a9)) (c6 (c6 i8))))))
noncomputable abbrev a2c : Stmt := top 33
theorem sc_law_way : FnScope ["_law_a", "_law_b"] ["_law_a", "_law_b"] (k3 a2c) := ⟨rfl, rfl, rfl, by decide +kernel, rfl, by decide +kernel, by decide +kernel⟩
set_option maxHeartbeats 4000000 in
theorem b0G {f : Addr} {fd : FuncData} (B : Blt mg) (F : GF K mg "_law_way" a2c f fd) : Cal P w K mg base 1 "_law_way" ["_law_a", "_law_b"] (P9) :=
 n0 F (fun _ _ _ _ _ _ => on2 fun _ _ => rfl) sc_law_way fun cdv A outer s H E g hr =>
  have nd := sc_law_way.nd
  (j7 (k6 (i3 (ac (j5 F4 F7 (EO.b (j5 m8 m7 (EO.b (e8 d0 e7 (c5 (pv 1)) (EO.b a7) (fun _ _ => rfl))) (EO.b (e8 d0 e7 (c5 (pv 0)) (EO.b a7) (fun _ _ => rfl))))) (EO.b (j5 m8 m7 (EO.b (e8 d0 e7 (c5 (pv 0)) (EO.b a7) (fun _ _ => rfl))) (EO.b (e8 d0 e7 (c5 (pv 1)) (EO.b a7) (fun _ _ => rfl)))))) (ac (j5 F4 F7 (EO.b (j5 m8 m7 (EO.b (e8 d0 e7 (c5 (pv 1)) (EO.b a7) (fun _ _ => rfl))) (EO.b (e8 d0 e7 (c5 (pv 0)) (EO.b a7) (fun _ _ => rfl))))) (EO.b (j5 m8 m7 (EO.b (e8 d0 e7 (c5 (pv 0)) (EO.b a7) (fun _ _ => rfl))) (EO.b (e8 d0 e7 (c5 (pv 1)) (EO.b a7) (fun _ _ => rfl)))))) a9)))))
noncomputable abbrev a0G : Stmt := top 34
theorem sc_law_goes_on : FnScope ["_law_a", "_law_b", "_law_c", "_law_one", "_law_other"] ["_law_a", "_law_b", "_law_c"] (k3 a0G) := ⟨rfl, rfl, rfl, by decide +kernel, rfl, by decide +kernel, by decide +kernel⟩
set_option maxHeartbeats 4000000 in
theorem b0B {m_law_way : DFn} (C_law_way : Cal P w K mg base 1 "_law_way" ["_law_a", "_law_b"] m_law_way) {f : Addr} {fd : FuncData} (B : Blt mg) (F : GF K mg "_law_goes_on" a0G f fd) : Cal P w K mg base 2 "_law_goes_on" ["_law_a", "_law_b", "_law_c"] (X4 m_law_way) :=
 n0 F (fun _ _ _ _ _ _ => on3 fun _ _ _ => rfl) sc_law_goes_on fun cdv A outer s H E g hr =>
  have nd := sc_law_goes_on.nd
  (j3 (a1G (i := 3) (j := 4) rfl nd rfl rfl (by decide) rfl rfl (ac (i9 C_law_way _ hr (by decide) (by rfl) (ac (c8 (pv 0)) (ac (c8 (pv 1)) a9)) (c6 (c6 i8))) (ac (i9 C_law_way _ hr (by decide) (by rfl) (ac (c8 (pv 1)) (ac (c8 (pv 2)) a9)) (c6 (c6 i8))) a9)) rfl) (j7 (k6 (U2 (X6 (A2 (u64 hr)) A3 (EO.b (j5 m8 m7 (EO.b (e8 d0 e7 (c5 (pv 3)) (EO.b a7) (fun _ _ => rfl))) (EO.b (e8 d0 e7 (c5 (pv 4)) (EO.b a7) (fun _ _ => rfl))))) (EO.b (j5 m8 m7 (EO.b (e8 d0 e7 (c5 (pv 3)) (EO.b a7) (fun _ _ => rfl))) (EO.b (e8 d0 e7 (c5 (pv 4)) (EO.b a7) (fun _ _ => rfl))))) (m9 _)) (a0c (X6 U4 (B9 (fun i j => decide (j < i))) (EO.b (j5 B0 A7 (EO.b (j5 m8 m7 (EO.b (e8 d0 e7 (c5 (pv 3)) (EO.b a7) (fun _ _ => rfl))) (EO.b (e8 d0 e7 (c5 (pv 4)) (EO.b a7) (fun _ _ => rfl))))) (EO.b (j5 m8 m7 (EO.b (e8 d0 e7 (c5 (pv 3)) (EO.b a7) (fun _ _ => rfl))) (EO.b (e8 d0 e7 (c5 (pv 4)) (EO.b a7) (fun _ _ => rfl))))))) (EO.b a7) (m9 _)))))))
noncomputable abbrev a2E : Stmt := top 36
theorem sc_law_chain : FnScope ["_law_tape", "_law_firsts", "_law_most", "_law_some", "_law_many", "_law_k", "_law_one", "_law_x", "_law_y"] ["_law_tape", "_law_firsts", "_law_most"] (k3 a2E) := ⟨rfl, rfl, rfl, by decide +kernel, rfl, by decide +kernel, by decide +kernel⟩
set_option maxHeartbeats 4000000 in
theorem a8k {m_law_spot : DFn} {m_law_plus : DFn} {m_law_xy : DFn} {m_law_goes_on : DFn} {m_law_draw : DFn} {m_law_near : DFn} (C_law_spot : Cal P w K mg base 2 "_law_spot" ["_law_x", "_law_y"] m_law_spot) (C_law_plus : Cal P w K mg base 3 "_law_plus" ["_law_one", "_law_other"] m_law_plus) (C_law_xy : Cal P w K mg base 3 "_law_xy" ["_law_spot_here"] m_law_xy) (C_law_goes_on : Cal P w K mg base 2 "_law_goes_on" ["_law_a", "_law_b", "_law_c"] m_law_goes_on) (C_law_draw : Cal P w K mg base 1 "_law_draw" ["_law_tape", "_law_many"] m_law_draw) (C_law_near : Cal P w K mg base 3 "_law_near" ["_law_tape"] m_law_near) {f : Addr} {fd : FuncData} (B : Blt mg) (F : GF K mg "_law_chain" a2E f fd) : Cal P w K mg base 4 "_law_chain" ["_law_tape", "_law_firsts", "_law_most"] (a1k m_law_spot m_law_plus m_law_xy m_law_goes_on m_law_draw m_law_near) :=
 n0 F (fun _ _ _ _ _ _ => on3 fun _ _ _ => rfl) sc_law_chain fun cdv A outer s H E g hr =>
  have nd := sc_law_chain.nd
  (j3 (B8 (i := 3) nd rfl (by first | exact Or.inl rfl | exact Or.inr rfl) (a4s a30 a3p (by rfl) B.list a3V (bc (c5 (pv 1)) p7))) (j3 (k7 (i := 4) nd rfl (by first | exact Or.inl rfl | exact Or.inr rfl) (j5 B0 A7 (EO.b a7) (EO.b (i9 C_law_draw _ hr (by decide) (by rfl) (ac (c8 (pv 0)) (ac (j5 F4 F7 (c5 (pv 2)) (EO.b a7)) a9)) (c6 (c6 i8)))))) (j3 (a2t PassesOwn.never rfl (by rfl) B.range a7 (u4 (n6 (i := 5) nd rfl (by first | exact Or.inl rfl | exact Or.inr rfl))) (j3 (k7 (i := 6) nd rfl (by first | exact Or.inl rfl | exact Or.inr rfl) (a0v (n8 U4 (B9 (fun i j => decide (j < i))) (EO.b (i9 C_law_draw _ hr (by decide) (by rfl) (ac (c8 (pv 0)) (ac a7 a9)) (c6 (c6 i8)))) (EO.b a7) (m9 _)) (i9 C_law_near _ hr (by decide) (by rfl) (ac (c8 (pv 0)) a9) (c6 i8)) (e8 d0 e7 (c5 (pv 3)) (EO.b (i9 C_law_draw _ hr (by decide) (by rfl) (ac (c8 (pv 0)) (ac (v7 E3 E8 (by rfl) B.len E4 (bc (c5 (pv 3)) p7)) a9)) (c6 (c6 i8)))) (fun _ _ => rfl)))) (j7 (u5 (WO.t (a0k (n8 K4 (B9 (fun i j => decide (i < j))) (EO.b (v7 E3 E8 (by rfl) B.len E4 (bc (c5 (pv 3)) p7))) (c5 (pv 4)) (m9 _)) (a0k (n8 (M1 (u64 hr)) N9 (c5 (pv 6)) (EO.b (e8 d0 e7 (c5 (pv 3)) (EO.b (o8 p8 o6 (EO.b a7))) (fun _ _ => rfl))) (m9 _)) (a4L (WO.t (a7y (n8 K4 (B9 (fun i j => decide (i < j))) (EO.b (v7 E3 E8 (by rfl) B.len E4 (bc (c5 (pv 3)) p7))) (EO.b a7) (m9 _)) (a6l (a9Q (a9m (EO.b (i9 C_law_goes_on _ hr (by decide) (by rfl) (ac (e8 d0 e7 (c5 (pv 3)) (EO.b (o8 p8 o6 (EO.b a7))) (fun _ _ => rfl)) (ac (e8 d0 e7 (c5 (pv 3)) (EO.b (o8 p8 o6 (EO.b a7))) (fun _ _ => rfl)) (ac (c8 (pv 6)) a9))) (c6 (c6 (c6 i8)))))))))))))) (j7 (X5 (pv 3) (c8 (pv 6)))) u6)))) (j3 (u5 (n8 K4 (B9 (fun i j => decide (i < j))) (EO.b (v7 E3 E8 (by rfl) B.len E4 (bc (c5 (pv 3)) p7))) (EO.b a7) (m9 _)) (j3 (M5 (i9 C_law_xy _ hr (by decide) (by rfl) (ac (e8 d0 e7 (c5 (pv 3)) (EO.b a7) (fun _ _ => rfl)) a9) (c6 i8)) (G4 rfl (w6 (u4 (n6 (i := 7) nd rfl (by first | exact Or.inl rfl | exact Or.inr rfl))) (w6 (u4 (n6 (i := 8) nd rfl (by first | exact Or.inl rfl | exact Or.inr rfl))) J3)))) (j7 (X5 (pv 3) (i9 C_law_spot _ hr (by decide) (by rfl) (ac (c8 (pv 7)) (ac (i9 C_law_plus _ hr (by decide) (by rfl) (ac (c8 (pv 8)) (ac (i3 (ac a7 (ac a7 a9))) a9)) (c6 (c6 i8))) a9)) (c6 (c6 i8)))))) u6) (j7 (k6 (O6 O7 M6 (by rfl) B.tuple M8 (bc (c5 (pv 3)) p7))))))))
noncomputable abbrev a2w : Stmt := top 37
theorem sc_law_any : FnScope ["_law_tape", "_law_most", "_law_firsts", "_law_some", "_law_can"] ["_law_tape", "_law_most"] (k3 a2w) := ⟨rfl, rfl, rfl, by decide +kernel, rfl, by decide +kernel, by decide +kernel⟩
set_option maxHeartbeats 4000000 in
theorem b0k {m_law_draw : DFn} {m_law_goes_on : DFn} {m_law_chain : DFn} {m_law_near : DFn} (C_law_draw : Cal P w K mg base 1 "_law_draw" ["_law_tape", "_law_many"] m_law_draw) (C_law_goes_on : Cal P w K mg base 2 "_law_goes_on" ["_law_a", "_law_b", "_law_c"] m_law_goes_on) (C_law_chain : Cal P w K mg base 4 "_law_chain" ["_law_tape", "_law_firsts", "_law_most"] m_law_chain) (C_law_near : Cal P w K mg base 3 "_law_near" ["_law_tape"] m_law_near) {f : Addr} {fd : FuncData} (B : Blt mg) (F : GF K mg "_law_any" a2w f fd) : Cal P w K mg base 5 "_law_any" ["_law_tape", "_law_most"] (a1T m_law_draw m_law_goes_on m_law_chain m_law_near) :=
 n0 F (fun _ _ _ _ _ _ => on2 fun _ _ => rfl) sc_law_any fun cdv A outer s H E g hr =>
  have nd := sc_law_any.nd
  (j3 (B8 (i := 2) nd rfl (by first | exact Or.inl rfl | exact Or.inr rfl) (o9 (ac (i9 C_law_near _ hr (by decide) (by rfl) (ac (c8 (pv 0)) a9) (c6 i8)) a9))) (j3 (u5 (n8 (A2 (u64 hr)) A3 (EO.b (i9 C_law_draw _ hr (by decide) (by rfl) (ac (c8 (pv 0)) (ac a7 a9)) (c6 (c6 i8)))) (EO.b a7) (m9 _)) (j7 (B8 (i := 2) nd rfl (by first | exact Or.inl rfl | exact Or.inr rfl) (o9 (ac (e8 d0 e7 (EO.b (FO.v (o9 (ac (i3 (ac a7 (ac (o8 p8 o6 (EO.b a7)) (ac a7 a9)))) (ac (i3 (ac (o8 p8 o6 (EO.b (j5 W3 X9 (EO.b a7) (EO.b a7)))) (ac a7 (ac a7 a9)))) (ac (i3 (ac (j5 W3 X9 (EO.b a7) (EO.b a7)) (ac (o8 p8 o6 (EO.b a7)) (ac a7 a9)))) a9)))))) (EO.b (i9 C_law_draw _ hr (by decide) (by rfl) (ac (c8 (pv 0)) (ac a7 a9)) (c6 (c6 i8)))) (fun _ _ => rfl)) a9)))) u6) (j3 (k7 (i := 3) nd rfl (by first | exact Or.inl rfl | exact Or.inr rfl) (i9 C_law_chain _ hr (by decide) (by rfl) (ac (c8 (pv 0)) (ac (c8 (pv 2)) (ac (c8 (pv 1)) a9))) (c6 (c6 (c6 i8))))) (j3 (k7 (i := 4) nd rfl (by first | exact Or.inl rfl | exact Or.inr rfl) (U2 (a8y K4 (B9 (fun i j => decide (i < j))) K4 (B9 (fun i j => decide (i < j))) (EO.b a7) (EO.b (v7 E3 E8 (by rfl) B.len E4 (bc (c5 (pv 3)) p7))) (EO.b a7)) (U2 (X6 (M1 (u64 hr)) N9 (EO.b (e8 d0 e7 (c5 (pv 3)) (EO.b a7) (fun _ _ => rfl))) (EO.b (e8 d0 e7 (c5 (pv 3)) (EO.b (o8 p8 o6 (EO.b a7))) (fun _ _ => rfl))) (m9 _)) (a0c (a2R (i9 C_law_goes_on _ hr (by decide) (by rfl) (ac (e8 d0 e7 (c5 (pv 3)) (EO.b (o8 p8 o6 (EO.b a7))) (fun _ _ => rfl)) (ac (e8 d0 e7 (c5 (pv 3)) (EO.b (o8 p8 o6 (EO.b a7))) (fun _ _ => rfl)) (ac (e8 d0 e7 (c5 (pv 3)) (EO.b a7) (fun _ _ => rfl)) a9))) (c6 (c6 (c6 i8))))))))) (j3 (k7 (i := 4) nd rfl (by first | exact Or.inl rfl | exact Or.inr rfl) (U2 (c8 (pv 4)) (a0c (a2R (i9 C_law_goes_on _ hr (by decide) (by rfl) (ac (e8 d0 e7 (c5 (pv 3)) (EO.b (o8 p8 o6 (EO.b a7))) (fun _ _ => rfl)) (ac (e8 d0 e7 (c5 (pv 3)) (EO.b a7) (fun _ _ => rfl)) (ac (e8 d0 e7 (c5 (pv 3)) (EO.b a7) (fun _ _ => rfl)) a9))) (c6 (c6 (c6 i8)))))))) (j7 (k6 (i3 (ac (U2 (c8 (pv 4)) (a0c (X6 (A2 (u64 hr)) A3 (EO.b (i9 C_law_draw _ hr (by decide) (by rfl) (ac (c8 (pv 0)) (ac a7 a9)) (c6 (c6 i8)))) (EO.b a7) (m9 _)))) (ac (c8 (pv 3)) a9))))))))))
noncomputable abbrev a1r : Stmt := top 39
theorem sc_law_moved : FnScope ["_law_change_here", "_law_spot_here", "_law_x", "_law_y"] ["_law_change_here", "_law_spot_here"] (k3 a1r) := ⟨rfl, rfl, rfl, by decide +kernel, rfl, by decide +kernel, by decide +kernel⟩
set_option maxHeartbeats 4000000 in
theorem a58 {m_law_spot : DFn} {m_law_product : DFn} {m_law_plus : DFn} {m_law_xy : DFn} (C_law_spot : Cal P w K mg base 2 "_law_spot" ["_law_x", "_law_y"] m_law_spot) (C_law_product : Cal P w K mg base 3 "_law_product" ["_law_one", "_law_other"] m_law_product) (C_law_plus : Cal P w K mg base 3 "_law_plus" ["_law_one", "_law_other"] m_law_plus) (C_law_xy : Cal P w K mg base 3 "_law_xy" ["_law_spot_here"] m_law_xy) {f : Addr} {fd : FuncData} (B : Blt mg) (F : GF K mg "_law_moved" a1r f fd) : Cal P w K mg base 4 "_law_moved" ["_law_change_here", "_law_spot_here"] (a0l m_law_spot m_law_product m_law_plus m_law_xy) :=
 n0 F (fun _ _ _ _ _ _ => on2 fun _ _ => rfl) sc_law_moved fun cdv A outer s H E g hr =>
  have nd := sc_law_moved.nd
  (j3 (M5 (i9 C_law_xy _ hr (by decide) (by rfl) (ac (c8 (pv 1)) a9) (c6 i8)) (G4 rfl (w6 (u4 (n6 (i := 2) nd rfl (by first | exact Or.inl rfl | exact Or.inr rfl))) (w6 (u4 (n6 (i := 3) nd rfl (by first | exact Or.inl rfl | exact Or.inr rfl))) J3)))) (j3 (u5 (n8 (A2 (u64 hr)) A3 (EO.b (e8 d0 e7 (c5 (pv 0)) (EO.b a7) (fun _ _ => rfl))) (EO.b (u8 (by decide +kernel))) (m9 _)) (j7 (k6 (i9 C_law_spot _ hr (by decide) (by rfl) (ac (i9 C_law_plus _ hr (by decide) (by rfl) (ac (c8 (pv 2)) (ac (e8 d0 e7 (c5 (pv 0)) (EO.b a7) (fun _ _ => rfl)) a9)) (c6 (c6 i8))) (ac (i9 C_law_plus _ hr (by decide) (by rfl) (ac (c8 (pv 3)) (ac (e8 d0 e7 (c5 (pv 0)) (EO.b a7) (fun _ _ => rfl)) a9)) (c6 (c6 i8))) a9)) (c6 (c6 i8))))) u6) (j3 (u5 (n8 (A2 (u64 hr)) A3 (EO.b (e8 d0 e7 (c5 (pv 0)) (EO.b a7) (fun _ _ => rfl))) (EO.b (u8 (by decide +kernel))) (m9 _)) (j7 (k6 (i9 C_law_spot _ hr (by decide) (by rfl) (ac (i3 (ac (o8 p8 o6 (EO.b (e8 d0 e7 (c5 (pv 3)) (EO.b a7) (fun _ _ => rfl)))) (ac (e8 d0 e7 (c5 (pv 3)) (EO.b a7) (fun _ _ => rfl)) a9))) (ac (c8 (pv 2)) a9)) (c6 (c6 i8))))) u6) (j3 (u5 (n8 (A2 (u64 hr)) A3 (EO.b (e8 d0 e7 (c5 (pv 0)) (EO.b a7) (fun _ _ => rfl))) (EO.b (u8 (by decide +kernel))) (m9 _)) (j7 (k6 (i9 C_law_spot _ hr (by decide) (by rfl) (ac (i3 (ac (o8 p8 o6 (EO.b (e8 d0 e7 (c5 (pv 2)) (EO.b a7) (fun _ _ => rfl)))) (ac (e8 d0 e7 (c5 (pv 2)) (EO.b a7) (fun _ _ => rfl)) a9))) (ac (c8 (pv 3)) a9)) (c6 (c6 i8))))) u6) (j7 (k6 (i9 C_law_spot _ hr (by decide) (by rfl) (ac (i9 C_law_product _ hr (by decide) (by rfl) (ac (c8 (pv 2)) (ac (e8 d0 e7 (c5 (pv 0)) (EO.b a7) (fun _ _ => rfl)) a9)) (c6 (c6 i8))) (ac (i9 C_law_product _ hr (by decide) (by rfl) (ac (c8 (pv 3)) (ac (e8 d0 e7 (c5 (pv 0)) (EO.b a7) (fun _ _ => rfl)) a9)) (c6 (c6 i8))) a9)) (c6 (c6 i8)))))))))
noncomputable abbrev a1o : Stmt := top 1
theorem sc_divisor_of_two : FnScope ["one", "other", "greater", "rest", "left_over"] ["one", "other"] (k3 a1o) := ⟨rfl, rfl, rfl, by decide +kernel, rfl, by decide +kernel, by decide +kernel⟩
set_option maxHeartbeats 4000000 in
theorem a87 {f : Addr} {fd : FuncData} (B : Blt mg) (F : GF K mg "divisor_of_two" a1o f fd) : Cal P w K mg base 1 "divisor_of_two" ["one", "other"] (p9) :=
 n0 F (fun _ _ _ _ _ _ => on2 fun _ _ => rfl) sc_divisor_of_two fun cdv A outer s H E g hr =>
  have nd := sc_divisor_of_two.nd
  (j3 (k7 (i := 2) nd rfl (by first | exact Or.inl rfl | exact Or.inr rfl) (v7 Z9 W5 (by rfl) B.abs X3 (bc (c5 (pv 0)) p7))) (j3 (k7 (i := 3) nd rfl (by first | exact Or.inl rfl | exact Or.inr rfl) (v7 Z9 W5 (by rfl) B.abs X3 (bc (c5 (pv 1)) p7))) (j3 (a4J PassesOwn.never (n8 (M1 (u64 hr)) N9 (c5 (pv 3)) (EO.b a7) (m9 _)) (j3 (k7 (i := 4) nd rfl (by first | exact Or.inl rfl | exact Or.inr rfl) (j5 E9 D8 (c5 (pv 2)) (c5 (pv 3)))) (j3 (k7 (i := 2) nd rfl (by first | exact Or.inl rfl | exact Or.inr rfl) (c8 (pv 3))) (j7 (k7 (i := 3) nd rfl (by first | exact Or.inl rfl | exact Or.inr rfl) (c8 (pv 4))))))) (j7 (k6 (c8 (pv 2)))))))
noncomputable abbrev a0S : Stmt := top 2
theorem sc_divisor : FnScope ["parts", "shared", "part"] ["parts"] (k3 a0S) := ⟨rfl, rfl, rfl, by decide +kernel, rfl, by decide +kernel, by decide +kernel⟩
set_option maxHeartbeats 4000000 in
theorem a7D {m_divisor_of_two : DFn} (C_divisor_of_two : Cal P w K mg base 1 "divisor_of_two" ["one", "other"] m_divisor_of_two) {f : Addr} {fd : FuncData} (B : Blt mg) (F : GF K mg "divisor" a0S f fd) : Cal P w K mg base 2 "divisor" ["parts"] (B1 m_divisor_of_two) :=
 n0 F (fun _ _ _ _ _ _ => on1 fun _ => rfl) sc_divisor fun cdv A outer s H E g hr =>
  have nd := sc_divisor.nd
  (j3 (k7 (i := 1) nd rfl (by first | exact Or.inl rfl | exact Or.inr rfl) a7) (j3 (a1E PassesOwn.never rfl (c8 (pv 0)) (u4 (n6 (i := 2) nd rfl (by first | exact Or.inl rfl | exact Or.inr rfl))) (j7 (k7 (i := 1) nd rfl (by first | exact Or.inl rfl | exact Or.inr rfl) (i9 C_divisor_of_two _ hr (by decide) (by rfl) (ac (c8 (pv 1)) (ac (c8 (pv 2)) a9)) (c6 (c6 i8)))))) (j7 (k6 (c8 (pv 1))))))
noncomputable abbrev a16 : Stmt := top 3
theorem sc_lowest : FnScope ["parts", "shared"] ["parts"] (k3 a16) := ⟨rfl, rfl, rfl, by decide +kernel, rfl, by decide +kernel, by decide +kernel⟩
set_option maxHeartbeats 4000000 in
theorem b0H {m_divisor : DFn} (C_divisor : Cal P w K mg base 2 "divisor" ["parts"] m_divisor) {f : Addr} {fd : FuncData} (B : Blt mg) (F : GF K mg "lowest" a16 f fd) : Cal P w K mg base 3 "lowest" ["parts"] (E7 m_divisor) :=
 n0 F (fun _ _ _ _ _ _ => on1 fun _ => rfl) sc_lowest fun cdv A outer s H E g hr =>
  have nd := sc_lowest.nd
  (j3 (k7 (i := 1) nd rfl (by first | exact Or.inl rfl | exact Or.inr rfl) (i9 C_divisor _ hr (by decide) (by rfl) (ac (c8 (pv 0)) a9) (c6 i8))) (j3 (u5 (n8 K4 (B9 (fun i j => decide (i < j))) (EO.b (e8 d0 e7 (c5 (pv 0)) (EO.b (o8 p8 o6 (EO.b a7))) (fun _ _ => rfl))) (EO.b a7) (m9 _)) (j7 (k7 (i := 1) nd rfl (by first | exact Or.inl rfl | exact Or.inr rfl) (o8 p8 o6 (c5 (pv 1))))) u6) (j7 (k6 (O6 O7 M6 (by rfl) B.tuple M8 (bc (EO.b (FO.v (U9 (N' := ["part", "shared"]) (idx := [1]) rfl (P5 (by rfl) (.cons rfl .nil) (by decide +kernel) rfl (by decide +kernel) (by rfl) (.cons rfl (by first | exact Or.inl rfl | exact Or.inr rfl) (by first | exact Or.inl rfl | exact Or.inr rfl) .nil)) (K1 (c8 (pv 0))) (fun _ _ _ _ => n6 (i := 0) (show List.Nodup (["part", "shared"] : List Str) by decide +kernel) rfl (Or.inl rfl)) (fun _ _ _ _ _ => N5) (fun _ _ _ _ _ => (j5 D3 D7 (c5 (pv 0)) (c5 (pv 1))))))) p7))))))
noncomputable abbrev a1B : Stmt := top 8
theorem sc_place : FnScope ["x", "y"] ["x", "y"] (k3 a1B) := ⟨rfl, rfl, rfl, by decide +kernel, rfl, by decide +kernel, by decide +kernel⟩
set_option maxHeartbeats 4000000 in
theorem a7S {m_lowest : DFn} (C_lowest : Cal P w K mg base 3 "lowest" ["parts"] m_lowest) {f : Addr} {fd : FuncData} (B : Blt mg) (F : GF K mg "place" a1B f fd) : Cal P w K mg base 4 "place" ["x", "y"] (G9 m_lowest) :=
 n0 F (fun _ _ _ _ _ _ => on2 fun _ _ => rfl) sc_place fun cdv A outer s H E g hr =>
  have nd := sc_place.nd
  (j7 (k6 (i9 C_lowest _ hr (by decide) (by rfl) (ac (i3 (ac (j5 m8 m7 (EO.b (e8 d0 e7 (c5 (pv 0)) (EO.b a7) (fun _ _ => rfl))) (EO.b (e8 d0 e7 (c5 (pv 1)) (EO.b a7) (fun _ _ => rfl)))) (ac (j5 m8 m7 (EO.b (e8 d0 e7 (c5 (pv 1)) (EO.b a7) (fun _ _ => rfl))) (EO.b (e8 d0 e7 (c5 (pv 0)) (EO.b a7) (fun _ _ => rfl)))) (ac (j5 m8 m7 (EO.b (e8 d0 e7 (c5 (pv 0)) (EO.b a7) (fun _ _ => rfl))) (EO.b (e8 d0 e7 (c5 (pv 1)) (EO.b a7) (fun _ _ => rfl)))) a9)))) a9) (c6 i8))))
noncomputable abbrev a1M : Stmt := top 5
theorem sc_plus : FnScope ["one", "other", "shared", "top", "taken_out"] ["one", "other"] (k3 a1M) := ⟨rfl, rfl, rfl, by decide +kernel, rfl, by decide +kernel, by decide +kernel⟩
set_option maxHeartbeats 4000000 in
theorem b0h {m_divisor_of_two : DFn} (C_divisor_of_two : Cal P w K mg base 1 "divisor_of_two" ["one", "other"] m_divisor_of_two) {f : Addr} {fd : FuncData} (B : Blt mg) (F : GF K mg "plus" a1M f fd) : Cal P w K mg base 2 "plus" ["one", "other"] (Z7 m_divisor_of_two) :=
 n0 F (fun _ _ _ _ _ _ => on2 fun _ _ => rfl) sc_plus fun cdv A outer s H E g hr =>
  have nd := sc_plus.nd
  (j3 (k7 (i := 2) nd rfl (by first | exact Or.inl rfl | exact Or.inr rfl) (i9 C_divisor_of_two _ hr (by decide) (by rfl) (ac (e8 d0 e7 (c5 (pv 0)) (EO.b a7) (fun _ _ => rfl)) (ac (e8 d0 e7 (c5 (pv 1)) (EO.b a7) (fun _ _ => rfl)) a9)) (c6 (c6 i8)))) (j3 (k7 (i := 3) nd rfl (by first | exact Or.inl rfl | exact Or.inr rfl) (j5 B0 A7 (EO.b (j5 m8 m7 (EO.b (e8 d0 e7 (c5 (pv 0)) (EO.b a7) (fun _ _ => rfl))) (EO.b (j5 D3 D7 (EO.b (e8 d0 e7 (c5 (pv 1)) (EO.b a7) (fun _ _ => rfl))) (c5 (pv 2)))))) (EO.b (j5 m8 m7 (EO.b (e8 d0 e7 (c5 (pv 1)) (EO.b a7) (fun _ _ => rfl))) (EO.b (j5 D3 D7 (EO.b (e8 d0 e7 (c5 (pv 0)) (EO.b a7) (fun _ _ => rfl))) (c5 (pv 2)))))))) (j3 (k7 (i := 4) nd rfl (by first | exact Or.inl rfl | exact Or.inr rfl) (i9 C_divisor_of_two _ hr (by decide) (by rfl) (ac (c8 (pv 3)) (ac (c8 (pv 2)) a9)) (c6 (c6 i8)))) (j7 (k6 (i3 (ac (j5 D3 D7 (c5 (pv 3)) (c5 (pv 4))) (ac (j5 m8 m7 (EO.b (j5 D3 D7 (EO.b (e8 d0 e7 (c5 (pv 0)) (EO.b a7) (fun _ _ => rfl))) (c5 (pv 2)))) (EO.b (j5 D3 D7 (EO.b (e8 d0 e7 (c5 (pv 1)) (EO.b a7) (fun _ _ => rfl))) (c5 (pv 4))))) a9))))))))
noncomputable abbrev a2b : Stmt := top 4
theorem sc_fraction : FnScope ["top", "bottom"] ["top", "bottom"] (k3 a2b) := ⟨rfl, rfl, rfl, by decide +kernel, rfl, by decide +kernel, by decide +kernel⟩
set_option maxHeartbeats 4000000 in
theorem a6Z {m_lowest : DFn} (C_lowest : Cal P w K mg base 3 "lowest" ["parts"] m_lowest) {f : Addr} {fd : FuncData} (B : Blt mg) (F : GF K mg "fraction" a2b f fd) : Cal P w K mg base 4 "fraction" ["top", "bottom"] (O5 m_lowest) :=
 n0 F (fun _ _ _ _ _ _ => on2 fun _ _ => rfl) sc_fraction fun cdv A outer s H E g hr =>
  have nd := sc_fraction.nd
  (j7 (k6 (i9 C_lowest _ hr (by decide) (by rfl) (ac (i3 (ac (c8 (pv 0)) (ac (c8 (pv 1)) a9))) a9) (c6 i8))))
noncomputable abbrev a1J : Stmt := top 9
theorem sc_across : FnScope ["one"] ["one"] (k3 a1J) := ⟨rfl, rfl, rfl, by decide +kernel, rfl, by decide +kernel, by decide +kernel⟩
set_option maxHeartbeats 4000000 in
theorem b0s {m_fraction : DFn} (C_fraction : Cal P w K mg base 4 "fraction" ["top", "bottom"] m_fraction) {f : Addr} {fd : FuncData} (B : Blt mg) (F : GF K mg "across" a1J f fd) : Cal P w K mg base 5 "across" ["one"] (G8 m_fraction) :=
 n0 F (fun _ _ _ _ _ _ => on1 fun _ => rfl) sc_across fun cdv A outer s H E g hr =>
  have nd := sc_across.nd
  (j7 (k6 (i9 C_fraction _ hr (by decide) (by rfl) (ac (e8 d0 e7 (c5 (pv 0)) (EO.b a7) (fun _ _ => rfl)) (ac (e8 d0 e7 (c5 (pv 0)) (EO.b a7) (fun _ _ => rfl)) a9)) (c6 (c6 i8)))))
noncomputable abbrev a0m : Stmt := top 10
theorem sc_up : FnScope ["one"] ["one"] (k3 a0m) := ⟨rfl, rfl, rfl, by decide +kernel, rfl, by decide +kernel, by decide +kernel⟩
set_option maxHeartbeats 4000000 in
theorem a9j {m_fraction : DFn} (C_fraction : Cal P w K mg base 4 "fraction" ["top", "bottom"] m_fraction) {f : Addr} {fd : FuncData} (B : Blt mg) (F : GF K mg "up" a0m f fd) : Cal P w K mg base 5 "up" ["one"] (J8 m_fraction) :=
 n0 F (fun _ _ _ _ _ _ => on1 fun _ => rfl) sc_up fun cdv A outer s H E g hr =>
  have nd := sc_up.nd
  (j7 (k6 (i9 C_fraction _ hr (by decide) (by rfl) (ac (e8 d0 e7 (c5 (pv 0)) (EO.b a7) (fun _ _ => rfl)) (ac (e8 d0 e7 (c5 (pv 0)) (EO.b a7) (fun _ _ => rfl)) a9)) (c6 (c6 i8)))))
noncomputable abbrev a0X : Stmt := top 13
theorem sc_changed_place : FnScope ["change", "one", "factor"] ["change", "one"] (k3 a0X) := ⟨rfl, rfl, rfl, by decide +kernel, rfl, by decide +kernel, by decide +kernel⟩
set_option maxHeartbeats 4000000 in
theorem a97 {m_lowest : DFn} {m_place : DFn} {m_plus : DFn} {m_up : DFn} {m_across : DFn} (C_lowest : Cal P w K mg base 3 "lowest" ["parts"] m_lowest) (C_place : Cal P w K mg base 4 "place" ["x", "y"] m_place) (C_plus : Cal P w K mg base 2 "plus" ["one", "other"] m_plus) (C_up : Cal P w K mg base 5 "up" ["one"] m_up) (C_across : Cal P w K mg base 5 "across" ["one"] m_across) {f : Addr} {fd : FuncData} (B : Blt mg) (F : GF K mg "changed_place" a0X f fd) : Cal P w K mg base 6 "changed_place" ["change", "one"] (a0d m_lowest m_place m_plus m_up m_across) :=
 n0 F (fun _ _ _ _ _ _ => on2 fun _ _ => rfl) sc_changed_place fun cdv A outer s H E g hr =>
  have nd := sc_changed_place.nd
  (j3 (u5 (n8 (A2 (u64 hr)) A3 (EO.b (e8 d0 e7 (c5 (pv 0)) (EO.b a7) (fun _ _ => rfl))) (EO.b (u8 (by decide +kernel))) (m9 _)) (j7 (k6 (i9 C_place _ hr (by decide) (by rfl) (ac (i9 C_plus _ hr (by decide) (by rfl) (ac (i9 C_across _ hr (by decide) (by rfl) (ac (c8 (pv 1)) a9) (c6 i8)) (ac (e8 d0 e7 (c5 (pv 0)) (EO.b a7) (fun _ _ => rfl)) a9)) (c6 (c6 i8))) (ac (i9 C_plus _ hr (by decide) (by rfl) (ac (i9 C_up _ hr (by decide) (by rfl) (ac (c8 (pv 1)) a9) (c6 i8)) (ac (e8 d0 e7 (c5 (pv 0)) (EO.b a7) (fun _ _ => rfl)) a9)) (c6 (c6 i8))) a9)) (c6 (c6 i8))))) u6) (j3 (u5 (n8 (A2 (u64 hr)) A3 (EO.b (e8 d0 e7 (c5 (pv 0)) (EO.b a7) (fun _ _ => rfl))) (EO.b (u8 (by decide +kernel))) (m9 _)) (j7 (k6 (i3 (ac (o8 p8 o6 (EO.b (e8 d0 e7 (c5 (pv 1)) (EO.b a7) (fun _ _ => rfl)))) (ac (e8 d0 e7 (c5 (pv 1)) (EO.b a7) (fun _ _ => rfl)) (ac (e8 d0 e7 (c5 (pv 1)) (EO.b a7) (fun _ _ => rfl)) a9)))))) u6) (j3 (u5 (n8 (A2 (u64 hr)) A3 (EO.b (e8 d0 e7 (c5 (pv 0)) (EO.b a7) (fun _ _ => rfl))) (EO.b (u8 (by decide +kernel))) (m9 _)) (j7 (k6 (i3 (ac (o8 p8 o6 (EO.b (e8 d0 e7 (c5 (pv 1)) (EO.b a7) (fun _ _ => rfl)))) (ac (e8 d0 e7 (c5 (pv 1)) (EO.b a7) (fun _ _ => rfl)) (ac (e8 d0 e7 (c5 (pv 1)) (EO.b a7) (fun _ _ => rfl)) a9)))))) u6) (j3 (k7 (i := 2) nd rfl (by first | exact Or.inl rfl | exact Or.inr rfl) (e8 d0 e7 (c5 (pv 0)) (EO.b a7) (fun _ _ => rfl))) (j7 (k6 (i9 C_lowest _ hr (by decide) (by rfl) (ac (i3 (ac (j5 m8 m7 (EO.b (e8 d0 e7 (c5 (pv 1)) (EO.b a7) (fun _ _ => rfl))) (EO.b (e8 d0 e7 (c5 (pv 2)) (EO.b a7) (fun _ _ => rfl)))) (ac (j5 m8 m7 (EO.b (e8 d0 e7 (c5 (pv 1)) (EO.b a7) (fun _ _ => rfl))) (EO.b (e8 d0 e7 (c5 (pv 2)) (EO.b a7) (fun _ _ => rfl)))) (ac (j5 m8 m7 (EO.b (e8 d0 e7 (c5 (pv 1)) (EO.b a7) (fun _ _ => rfl))) (EO.b (e8 d0 e7 (c5 (pv 2)) (EO.b a7) (fun _ _ => rfl)))) a9)))) a9) (c6 i8))))))))
noncomputable abbrev a2g : Stmt := top 14
theorem sc_changed_places : FnScope ["change", "some"] ["change", "some"] (k3 a2g) := ⟨rfl, rfl, rfl, by decide +kernel, rfl, by decide +kernel, by decide +kernel⟩
set_option maxHeartbeats 4000000 in
theorem a7z {m_changed_place : DFn} (C_changed_place : Cal P w K mg base 6 "changed_place" ["change", "one"] m_changed_place) {f : Addr} {fd : FuncData} (B : Blt mg) (F : GF K mg "changed_places" a2g f fd) : Cal P w K mg base 7 "changed_places" ["change", "some"] (a1f m_changed_place) :=
 n0 F (fun _ _ _ _ _ _ => on2 fun _ _ => rfl) sc_changed_places fun cdv A outer s H E g hr =>
  have nd := sc_changed_places.nd
  (j7 (k6 (O6 O7 M6 (by rfl) B.tuple M8 (bc (EO.b (FO.v (U9 (N' := ["one", "change"]) (idx := [0]) rfl (P5 (by rfl) (.cons rfl .nil) (by decide +kernel) rfl (by decide +kernel) (by rfl) (.cons rfl (by first | exact Or.inl rfl | exact Or.inr rfl) (by first | exact Or.inl rfl | exact Or.inr rfl) .nil)) (K1 (c8 (pv 1))) (fun _ _ _ _ => n6 (i := 0) (show List.Nodup (["one", "change"] : List Str) by decide +kernel) rfl (Or.inl rfl)) (fun _ _ _ _ _ => N5) (fun _ _ _ _ _ => (i9 C_changed_place _ hr (by decide) (by rfl) (ac (c8 (pv 1)) (ac (c8 (pv 0)) a9)) (c6 (c6 i8))))))) p7))))
noncomputable abbrev a0Z : Stmt := top 15
theorem sc_changed_line : FnScope ["change", "line"] ["change", "line"] (k3 a0Z) := ⟨rfl, rfl, rfl, by decide +kernel, rfl, by decide +kernel, by decide +kernel⟩
set_option maxHeartbeats 4000000 in
theorem a50 {m_changed_places : DFn} (C_changed_places : Cal P w K mg base 7 "changed_places" ["change", "some"] m_changed_places) {f : Addr} {fd : FuncData} (B : Blt mg) (F : GF K mg "changed_line" a0Z f fd) : Cal P w K mg base 8 "changed_line" ["change", "line"] (a0e m_changed_places) :=
 n0 F (fun _ _ _ _ _ _ => on2 fun _ _ => rfl) sc_changed_line fun cdv A outer s H E g hr =>
  have nd := sc_changed_line.nd
  (j7 (k6 (i3 (ac (e8 d0 e7 (c5 (pv 1)) (EO.b a7) (fun _ _ => rfl)) (ac (i9 C_changed_places _ hr (by decide) (by rfl) (ac (c8 (pv 0)) (ac (e8 d0 e7 (c5 (pv 1)) (EO.b a7) (fun _ _ => rfl)) a9)) (c6 (c6 i8))) a9)))))
noncomputable abbrev a1z : Stmt := top 17
theorem sc_other_side : FnScope ["rule"] ["rule"] (k3 a1z) := ⟨rfl, rfl, rfl, by decide +kernel, rfl, by decide +kernel, by decide +kernel⟩
set_option maxHeartbeats 4000000 in
theorem a7I (C_OTHER_SIDES : ConT P w K mg "OTHER_SIDES" [("both", "both"), ("left", "right"), ("right", "left")]) {f : Addr} {fd : FuncData} (B : Blt mg) (F : GF K mg "other_side" a1z f fd) : Cal P w K mg base 1 "other_side" ["rule"] (O8) :=
 n0 F (fun _ _ _ _ _ _ => on1 fun _ => rfl) sc_other_side fun cdv A outer s H E g hr =>
  have nd := sc_other_side.nd
  (j7 (k6 (j5 B0 A7 (EO.b (i3 (ac (e8 d0 e7 (c5 (pv 0)) (EO.b a7) (fun _ _ => rfl)) (ac (a6S C_OTHER_SIDES (by rfl) (EO.b (e8 d0 e7 (c5 (pv 0)) (EO.b a7) (fun _ _ => rfl)))) a9)))) (EO.b (N3 (c5 (pv 0)) (N2 (EO.b a7)) L9)))))
noncomputable abbrev a0A : Stmt := top 6
theorem sc_times : FnScope ["one", "other"] ["one", "other"] (k3 a0A) := ⟨rfl, rfl, rfl, by decide +kernel, rfl, by decide +kernel, by decide +kernel⟩
set_option maxHeartbeats 4000000 in
theorem a7V {m_fraction : DFn} (C_fraction : Cal P w K mg base 4 "fraction" ["top", "bottom"] m_fraction) {f : Addr} {fd : FuncData} (B : Blt mg) (F : GF K mg "times" a0A f fd) : Cal P w K mg base 5 "times" ["one", "other"] (a0W m_fraction) :=
 n0 F (fun _ _ _ _ _ _ => on2 fun _ _ => rfl) sc_times fun cdv A outer s H E g hr =>
  have nd := sc_times.nd
  (j7 (k6 (i9 C_fraction _ hr (by decide) (by rfl) (ac (j5 m8 m7 (EO.b (e8 d0 e7 (c5 (pv 0)) (EO.b a7) (fun _ _ => rfl))) (EO.b (e8 d0 e7 (c5 (pv 1)) (EO.b a7) (fun _ _ => rfl)))) (ac (j5 m8 m7 (EO.b (e8 d0 e7 (c5 (pv 0)) (EO.b a7) (fun _ _ => rfl))) (EO.b (e8 d0 e7 (c5 (pv 1)) (EO.b a7) (fun _ _ => rfl)))) a9)) (c6 (c6 i8)))))
noncomputable abbrev a13 : Stmt := top 16
theorem sc_changed_rule : FnScope ["change", "rule"] ["change", "rule"] (k3 a13) := ⟨rfl, rfl, rfl, by decide +kernel, rfl, by decide +kernel, by decide +kernel⟩
set_option maxHeartbeats 4000000 in
theorem a7E {m_other_side : DFn} {m_times : DFn} (C_other_side : Cal P w K mg base 1 "other_side" ["rule"] m_other_side) (C_times : Cal P w K mg base 5 "times" ["one", "other"] m_times) {f : Addr} {fd : FuncData} (B : Blt mg) (F : GF K mg "changed_rule" a13 f fd) : Cal P w K mg base 6 "changed_rule" ["change", "rule"] (a0C m_other_side m_times) :=
 n0 F (fun _ _ _ _ _ _ => on2 fun _ _ => rfl) sc_changed_rule fun cdv A outer s H E g hr =>
  have nd := sc_changed_rule.nd
  (j3 (u5 (n8 (A2 (u64 hr)) A3 (EO.b (e8 d0 e7 (c5 (pv 0)) (EO.b a7) (fun _ _ => rfl))) (EO.b (u8 (by decide +kernel))) (m9 _)) (j7 (k6 (j5 B0 A7 (EO.b (i3 (ac (i9 C_times _ hr (by decide) (by rfl) (ac (e8 d0 e7 (c5 (pv 1)) (EO.b a7) (fun _ _ => rfl)) (ac (e8 d0 e7 (c5 (pv 0)) (EO.b a7) (fun _ _ => rfl)) a9)) (c6 (c6 i8))) a9))) (EO.b (N3 (c5 (pv 1)) (N2 (EO.b a7)) L9))))) u6) (j3 (u5 (n8 (A2 (u64 hr)) A3 (EO.b (e8 d0 e7 (c5 (pv 0)) (EO.b a7) (fun _ _ => rfl))) (EO.b (u8 (by decide +kernel))) (m9 _)) (j7 (k6 (i9 C_other_side _ hr (by decide) (by rfl) (ac (c8 (pv 1)) a9) (c6 i8)))) u6) (j7 (k6 (c8 (pv 1))))))
noncomputable abbrev a0Q : Stmt := top 41
theorem sc_law_rule_due : FnScope ["_law_change_here", "_law_rule_here"] ["_law_change_here", "_law_rule_here"] (k3 a0Q) := ⟨rfl, rfl, rfl, by decide +kernel, rfl, by decide +kernel, by decide +kernel⟩
set_option maxHeartbeats 4000000 in
theorem a6E {m_law_product : DFn} (C_law_product : Cal P w K mg base 3 "_law_product" ["_law_one", "_law_other"] m_law_product) {f : Addr} {fd : FuncData} (B : Blt mg) (F : GF K mg "_law_rule_due" a0Q f fd) : Cal P w K mg base 4 "_law_rule_due" ["_law_change_here", "_law_rule_here"] (a0r m_law_product) :=
 n0 F (fun _ _ _ _ _ _ => on2 fun _ _ => rfl) sc_law_rule_due fun cdv A outer s H E g hr =>
  have nd := sc_law_rule_due.nd
  (j3 (u5 (n8 (A2 (u64 hr)) A3 (EO.b (e8 d0 e7 (c5 (pv 0)) (EO.b a7) (fun _ _ => rfl))) (EO.b (u8 (by decide +kernel))) (m9 _)) (j7 (k6 (j5 B0 A7 (EO.b (i3 (ac (i9 C_law_product _ hr (by decide) (by rfl) (ac (e8 d0 e7 (c5 (pv 1)) (EO.b a7) (fun _ _ => rfl)) (ac (e8 d0 e7 (c5 (pv 0)) (EO.b a7) (fun _ _ => rfl)) a9)) (c6 (c6 i8))) a9))) (EO.b (N3 (c5 (pv 1)) (N2 (EO.b a7)) L9))))) u6) (j3 (u5 (n8 (A2 (u64 hr)) A3 (EO.b (e8 d0 e7 (c5 (pv 0)) (EO.b a7) (fun _ _ => rfl))) (EO.b (u8 (by decide +kernel))) (m9 _)) (j7 (k6 (j5 B0 A7 (EO.b (j5 B0 A7 (EO.b (N3 (c5 (pv 1)) L9 (N2 (EO.b a7)))) (EO.b (i3 (ac (a5N (kvs := [("both", "both"), ("left", "right"), ("right", "left")]) (a8w hr) (a0f O9 O9 (a0f O9 O9 (a0f O9 O9 a96))) (EO.b (e8 d0 e7 (c5 (pv 1)) (EO.b a7) (fun _ _ => rfl)))) a9))))) (EO.b (N3 (c5 (pv 1)) (N2 (EO.b a7)) L9))))) u6) (j7 (k6 (c8 (pv 1))))))
noncomputable abbrev a1v : Stmt := top 42
theorem sc_law : FnScope ["_law_script", "_law_tape", "_law_k", "_law_change_here", "_law_line", "_law_due", "_law_rule_here"] ["_law_script"] (k3 a1v) := ⟨rfl, rfl, rfl, by decide +kernel, rfl, by decide +kernel, by decide +kernel⟩
set_option maxHeartbeats 4000000 in
theorem a6g {m_changed_rule : DFn} {m_law_rule_due : DFn} {m_law_rule : DFn} {m_changed_line : DFn} {m_changed_place : DFn} {m_law_moved : DFn} {m_law_exact : DFn} {m_law_any : DFn} {m_law_change : DFn} {m_law_new_tape : DFn} (C_changed_rule : Cal P w K mg base 6 "changed_rule" ["change", "rule"] m_changed_rule) (C_law_rule_due : Cal P w K mg base 4 "_law_rule_due" ["_law_change_here", "_law_rule_here"] m_law_rule_due) (C_law_rule : Cal P w K mg base 2 "_law_rule" ["_law_tape"] m_law_rule) (C_changed_line : Cal P w K mg base 8 "changed_line" ["change", "line"] m_changed_line) (C_changed_place : Cal P w K mg base 6 "changed_place" ["change", "one"] m_changed_place) (C_law_moved : Cal P w K mg base 4 "_law_moved" ["_law_change_here", "_law_spot_here"] m_law_moved) (C_law_exact : Cal P w K mg base 5 "_law_exact" ["_law_tape", "_law_most"] m_law_exact) (C_law_any : Cal P w K mg base 5 "_law_any" ["_law_tape", "_law_most"] m_law_any) (C_law_change : Cal P w K mg base 2 "_law_change" ["_law_tape"] m_law_change) (C_law_new_tape : Cal P w K mg base 1 "_law_new_tape" ["_law_script"] m_law_new_tape) {f : Addr} {fd : FuncData} (B : Blt mg) (F : Fun K "law" "law" a1v f fd) : FnD P w K mg base 9 f fd ["_law_script"] (a1n m_changed_rule m_law_rule_due m_law_rule m_changed_line m_changed_place m_law_moved m_law_exact m_law_any m_law_change m_law_new_tape) :=
 a4G F sc_law fun cdv A outer s H E g hr =>
  have nd := sc_law.nd
  (j3 (k7 (i := 1) nd rfl (by first | exact Or.inl rfl | exact Or.inr rfl) (i9 C_law_new_tape _ hr (by decide) (by rfl) (ac (c8 (pv 0)) a9) (c6 i8))) (j3 (a2t PassesOwn.never rfl (by rfl) B.range a7 (u4 (n6 (i := 2) nd rfl (by first | exact Or.inl rfl | exact Or.inr rfl))) (j3 (k7 (i := 3) nd rfl (by first | exact Or.inl rfl | exact Or.inr rfl) (i9 C_law_change _ hr (by decide) (by rfl) (ac (c8 (pv 1)) a9) (c6 i8))) (j3 (k7 (i := 4) nd rfl (by first | exact Or.inl rfl | exact Or.inr rfl) (a0v (n8 (A2 (u64 hr)) A3 (EO.b (j5 E9 D8 (c5 (pv 2)) (EO.b a7))) (EO.b a7) (m9 _)) (i9 C_law_exact _ hr (by decide) (by rfl) (ac (c8 (pv 1)) (ac a7 a9)) (c6 (c6 i8))) (i9 C_law_any _ hr (by decide) (by rfl) (ac (c8 (pv 1)) (ac a7 a9)) (c6 (c6 i8))))) (j3 (k7 (i := 5) nd rfl (by first | exact Or.inl rfl | exact Or.inr rfl) (O6 O7 M6 (by rfl) B.tuple M8 (bc (EO.b (FO.v (U9 (N' := ["_law_spot_here", "_law_change_here"]) (idx := [3]) rfl (P5 (by rfl) (.cons rfl .nil) (by decide +kernel) rfl (by decide +kernel) (by rfl) (.cons rfl (by first | exact Or.inl rfl | exact Or.inr rfl) (by first | exact Or.inl rfl | exact Or.inr rfl) .nil)) (K1 (e8 d0 e7 (c5 (pv 4)) (EO.b a7) (fun _ _ => rfl))) (fun _ _ _ _ => n6 (i := 0) (show List.Nodup (["_law_spot_here", "_law_change_here"] : List Str) by decide +kernel) rfl (Or.inl rfl)) (fun _ _ _ _ _ => N5) (fun _ _ _ _ _ => (i9 C_law_moved _ hr (by decide) (by rfl) (ac (c8 (pv 1)) (ac (c8 (pv 0)) a9)) (c6 (c6 i8))))))) p7))) (j3 (u5 (n8 (M1 (u64 hr)) N9 (EO.b (v7 (P8 (u66 hr) hr.gd) Q2 (by rfl) B.repr S8 (bc (EO.b (FO.v (U9 (N' := ["_law_spot_here", "_law_change_here"]) (idx := [3]) rfl (P5 (by rfl) (.cons rfl .nil) (by decide +kernel) rfl (by decide +kernel) (by rfl) (.cons rfl (by first | exact Or.inl rfl | exact Or.inr rfl) (by first | exact Or.inl rfl | exact Or.inr rfl) .nil)) (K1 (e8 d0 e7 (c5 (pv 4)) (EO.b a7) (fun _ _ => rfl))) (fun _ _ _ _ => n6 (i := 0) (show List.Nodup (["_law_spot_here", "_law_change_here"] : List Str) by decide +kernel) rfl (Or.inl rfl)) (fun _ _ _ _ _ => N5) (fun _ _ _ _ _ => (i9 C_changed_place _ hr (by decide) (by rfl) (ac (c8 (pv 1)) (ac (c8 (pv 0)) a9)) (c6 (c6 i8))))))) p7))) (EO.b (v7 (P8 (u66 hr) hr.gd) Q2 (by rfl) B.repr S8 (bc (EO.b (FO.v (a4s a30 a3p (by rfl) B.list a3V (bc (c5 (pv 5)) p7)))) p7))) (m9 _)) (j7 (k6 Q8)) u6) (j3 (u5 (n8 (M1 (u64 hr)) N9 (EO.b (v7 (P8 (u66 hr) hr.gd) Q2 (by rfl) B.repr S8 (bc (EO.b (i9 C_changed_line _ hr (by decide) (by rfl) (ac (c8 (pv 3)) (ac (c8 (pv 4)) a9)) (c6 (c6 i8)))) p7))) (EO.b (v7 (P8 (u66 hr) hr.gd) Q2 (by rfl) B.repr S8 (bc (EO.b (i3 (ac (e8 d0 e7 (c5 (pv 4)) (EO.b a7) (fun _ _ => rfl)) (ac (c8 (pv 5)) a9)))) p7))) (m9 _)) (j7 (k6 Q8)) u6) (j3 (k7 (i := 6) nd rfl (by first | exact Or.inl rfl | exact Or.inr rfl) (i9 C_law_rule _ hr (by decide) (by rfl) (ac (c8 (pv 1)) a9) (c6 i8))) (j7 (u5 (n8 (M1 (u64 hr)) N9 (EO.b (v7 (P8 (u66 hr) hr.gd) Q2 (by rfl) B.repr S8 (bc (EO.b (i9 C_changed_rule _ hr (by decide) (by rfl) (ac (c8 (pv 3)) (ac (c8 (pv 6)) a9)) (c6 (c6 i8)))) p7))) (EO.b (v7 (P8 (u66 hr) hr.gd) Q2 (by rfl) B.repr S8 (bc (EO.b (i9 C_law_rule_due _ hr (by decide) (by rfl) (ac (c8 (pv 3)) (ac (c8 (pv 6)) a9)) (c6 (c6 i8)))) p7))) (m9 _)) (j7 (k6 Q8)) u6))))))))) (j7 (k6 Q8))))
end
noncomputable abbrev whole : DFn := (a1n (a0C O8 (a0W (O5 (E7 (B1 p9))))) (a0r (S9 (C1 w8))) (a0i C2) (a0e (a1f (a0d (E7 (B1 p9)) (G9 (E7 (B1 p9))) (Z7 p9) (J8 (O5 (E7 (B1 p9)))) (G8 (O5 (E7 (B1 p9))))))) (a0d (E7 (B1 p9)) (G9 (E7 (B1 p9))) (Z7 p9) (J8 (O5 (E7 (B1 p9)))) (G8 (O5 (E7 (B1 p9))))) (a0l (L3 w8) (S9 (C1 w8)) (R8 (C1 w8)) (Z6 (C1 w8))) (a02 C2 (a2l (L3 w8) (R8 (C1 w8)) (S9 (C1 w8)) (Y6 C2) C2) (a2o (L3 w8) (R8 (C1 w8)) (S9 (C1 w8)) C2 (Y6 C2) (a0I C2))) (a1T C2 (X4 P9) (a1k (L3 w8) (R8 (C1 w8)) (Z6 (C1 w8)) (X4 P9) C2 (Y7 (L3 w8) (C1 w8) C2)) (Y7 (L3 w8) (C1 w8) C2)) (a1m C2) M7)
set_option maxHeartbeats 4000000 in
theorem all_mk {l : PySem.W.OpenLaw} {w : World} {K : PySem.W.Frag} {h : Heap} {mg : Str → Option Value} {fa : Addr} (X : K.In h) (G : h.Ns mainGlobals mg) (hfa : mg "law" = some (.ref fa)) {f1 f2 f3 f4 f5 f6 f7 f8 f9 f10 f11 f12 f13 f14 f15 f16 f17 f18 f19 f20 f21 f22 f23 f24 f25 f26 f27 f28 f29 f30 f31 f32 f33 f34 f35 f36 f37 : Addr} {d1 d2 d3 d4 d5 d6 d7 d8 d9 d10 d11 d12 d13 d14 d15 d16 d17 d18 d19 d20 d21 d22 d23 d24 d25 d26 d27 d28 d29 d30 d31 d32 d33 d34 d35 d36 d37 : FuncData} {p_OTHER_SIDES : Addr} {ep_OTHER_SIDES : Nat} {t_OTHER_SIDES_0 u_OTHER_SIDES_0 t_OTHER_SIDES_1 u_OTHER_SIDES_1 t_OTHER_SIDES_2 u_OTHER_SIDES_2 : Tok}
  (g1 : GF K mg "_law_new_tape" a1y f1 d1)
  (g2 : GF K mg "_law_draw" a0E f2 d2)
  (g3 : GF K mg "_law_change" a0H f3 d3)
  (g4 : GF K mg "_law_rule" a2k f4 d4)
  (g5 : GF K mg "_law_start" a15 f5 d5)
  (g6 : GF K mg "_law_divisor" a10 f6 d6)
  (g7 : GF K mg "_law_low" a1P f7 d7)
  (g8 : GF K mg "_law_product" a1p f8 d8)
  (g9 : GF K mg "_law_spot" a1W f9 d9)
  (g10 : GF K mg "_law_plus" a2z f10 d10)
  (g11 : GF K mg "_law_closed" a0U f11 d11)
  (g12 : GF K mg "_law_menu" a17 f12 d12)
  (g13 : GF K mg "_law_open" a1l f13 d13)
  (g14 : GF K mg "_law_exact" a0u f14 d14)
  (g15 : GF K mg "_law_xy" a0g f15 d15)
  (g16 : GF K mg "_law_near" a2C f16 d16)
  (g17 : GF K mg "_law_way" a2c f17 d17)
  (g18 : GF K mg "_law_goes_on" a0G f18 d18)
  (g19 : GF K mg "_law_chain" a2E f19 d19)
  (g20 : GF K mg "_law_any" a2w f20 d20)
  (g21 : GF K mg "_law_moved" a1r f21 d21)
  (g22 : GF K mg "divisor_of_two" a1o f22 d22)
  (g23 : GF K mg "divisor" a0S f23 d23)
  (g24 : GF K mg "lowest" a16 f24 d24)
  (g25 : GF K mg "place" a1B f25 d25)
  (g26 : GF K mg "plus" a1M f26 d26)
  (g27 : GF K mg "fraction" a2b f27 d27)
  (g28 : GF K mg "across" a1J f28 d28)
  (g29 : GF K mg "up" a0m f29 d29)
  (g30 : GF K mg "changed_place" a0X f30 d30)
  (g31 : GF K mg "changed_places" a2g f31 d31)
  (g32 : GF K mg "changed_line" a0Z f32 d32)
  (g33 : GF K mg "other_side" a1z f33 d33)
  (g34 : GF K mg "times" a0A f34 d34)
  (g35 : GF K mg "changed_rule" a13 f35 d35)
  (g36 : GF K mg "_law_rule_due" a0Q f36 d36)
  (g37 : GF K mg "law" a1v f37 d37)
  (g_OTHER_SIDES : PySem.W.nsIn K mainGlobals "OTHER_SIDES" = some (some (.ref p_OTHER_SIDES)))
  (L_OTHER_SIDES : K.lookup p_OTHER_SIDES = some ⟨.type "dict", none, .dict (List.toArray [⟨PyData.keyHash w.params "both", .str "both" t_OTHER_SIDES_0, .str "both" u_OTHER_SIDES_0⟩, ⟨PyData.keyHash w.params "left", .str "left" t_OTHER_SIDES_1, .str "right" u_OTHER_SIDES_1⟩, ⟨PyData.keyHash w.params "right", .str "right" t_OTHER_SIDES_2, .str "left" u_OTHER_SIDES_2⟩]) ep_OTHER_SIDES, #[]⟩)
  (B : Blt mg) :
  ∃ fd : FuncData, (∀ (s : Shared) (v : Value), BindsTo s fd ⟨[v], []⟩ [("_law_script", v)]) ∧ ∀ base : Heap, K.In base → base.Ns mainGlobals mg → FnOk l.prog w K mg base CX0 9 fa fd ["_law_script"] (spD K 1 whole) := by
 have e := hfa.symm.trans g37.m
 cases e
 refine ⟨d37, b0a g37.F fun _ _ _ _ _ _ _ _ => .of_eq rfl, fun base _ _ => ?_⟩
 have C_OTHER_SIDES : ConT l.prog w K mg "OTHER_SIDES" [("both", "both"), ("left", "right"), ("right", "left")] := a80 (PySem.W.mg_of X G g_OTHER_SIDES) L_OTHER_SIDES (.cons (.cons (.cons .nil))) (by decide +kernel)
 have C_law_new_tape := a82 (P := l.prog) (w := w) (base := base) B g1
 have C_law_draw := a7Q (P := l.prog) (w := w) (base := base) B g2
 have C_law_change := a7Z C_law_draw B g3
 have C_law_rule := a5F C_law_draw B g4
 have C_law_start := a9g C_law_draw B g5
 have C_law_divisor := a8p (P := l.prog) (w := w) (base := base) B g6
 have C_law_low := a7e C_law_divisor B g7
 have C_law_product := a9v C_law_low B g8
 have C_law_spot := a95 C_law_divisor B g9
 have C_law_plus := a6n C_law_low B g10
 have C_law_closed := a6s C_law_spot C_law_plus C_law_product C_law_start C_law_draw B g11
 have C_law_menu := a8i C_law_draw B g12
 have C_law_open := a8m C_law_spot C_law_plus C_law_product C_law_draw C_law_start C_law_menu B g13
 have C_law_exact := a7s C_law_draw C_law_closed C_law_open B g14
 have C_law_xy := a8q C_law_low B g15
 have C_law_near := a7X C_law_spot C_law_low C_law_draw B g16
 have C_law_way := b0G (P := l.prog) (w := w) (base := base) B g17
 have C_law_goes_on := b0B C_law_way B g18
 have C_law_chain := a8k C_law_spot C_law_plus C_law_xy C_law_goes_on C_law_draw C_law_near B g19
 have C_law_any := b0k C_law_draw C_law_goes_on C_law_chain C_law_near B g20
 have C_law_moved := a58 C_law_spot C_law_product C_law_plus C_law_xy B g21
 have C_divisor_of_two := a87 (P := l.prog) (w := w) (base := base) B g22
 have C_divisor := a7D C_divisor_of_two B g23
 have C_lowest := b0H C_divisor B g24
 have C_place := a7S C_lowest B g25
 have C_plus := b0h C_divisor_of_two B g26
 have C_fraction := a6Z C_lowest B g27
 have C_across := b0s C_fraction B g28
 have C_up := a9j C_fraction B g29
 have C_changed_place := a97 C_lowest C_place C_plus C_up C_across B g30
 have C_changed_places := a7z C_changed_place B g31
 have C_changed_line := a50 C_changed_places B g32
 have C_other_side := a7I (P := l.prog) (w := w) (base := base) C_OTHER_SIDES B g33
 have C_times := a7V C_fraction B g34
 have C_changed_rule := a7E C_other_side C_times B g35
 have C_law_rule_due := a6E C_law_product B g36
 exact a6g C_changed_rule C_law_rule_due C_law_rule C_changed_line C_changed_place C_law_moved C_law_exact C_law_any C_law_change C_law_new_tape B g37.F
end T
open PySem PySem.W PyProof.Rows
set_option maxRecDepth 100000 in
set_option maxHeartbeats 0 in
theorem PySem.Challenge.cw_widelines_k50_places_lines_rules_changed_holds : PySem.Challenge.rw_widelines_k50_places_lines_rules_changed.Holds := by
 w_on; o_law; k_head; (case hw => w_witness2)
 k_fill
 refine DL.walkD (l := PySem.Challenge.rw_widelines_k50_places_lines_rules_changed) (m := T.whole) (k := 9) rfl rfl ⟨rfl, by decide, by decide, rfl⟩ (fun w h Y => PySem.W.kIn_of Y) ?F T.math
 case F =>
  intro w mg fa h KX G hmg
  refine' T.all_mk KX G hmg (DL.gf_mk KX G ?_ ?_ ?_ ?_) (DL.gf_mk KX G ?_ ?_ ?_ ?_) (DL.gf_mk KX G ?_ ?_ ?_ ?_) (DL.gf_mk KX G ?_ ?_ ?_ ?_) (DL.gf_mk KX G ?_ ?_ ?_ ?_) (DL.gf_mk KX G ?_ ?_ ?_ ?_) (DL.gf_mk KX G ?_ ?_ ?_ ?_) (DL.gf_mk KX G ?_ ?_ ?_ ?_) (DL.gf_mk KX G ?_ ?_ ?_ ?_) (DL.gf_mk KX G ?_ ?_ ?_ ?_) (DL.gf_mk KX G ?_ ?_ ?_ ?_) (DL.gf_mk KX G ?_ ?_ ?_ ?_) (DL.gf_mk KX G ?_ ?_ ?_ ?_) (DL.gf_mk KX G ?_ ?_ ?_ ?_) (DL.gf_mk KX G ?_ ?_ ?_ ?_) (DL.gf_mk KX G ?_ ?_ ?_ ?_) (DL.gf_mk KX G ?_ ?_ ?_ ?_) (DL.gf_mk KX G ?_ ?_ ?_ ?_) (DL.gf_mk KX G ?_ ?_ ?_ ?_) (DL.gf_mk KX G ?_ ?_ ?_ ?_) (DL.gf_mk KX G ?_ ?_ ?_ ?_) (DL.gf_mk KX G ?_ ?_ ?_ ?_) (DL.gf_mk KX G ?_ ?_ ?_ ?_) (DL.gf_mk KX G ?_ ?_ ?_ ?_) (DL.gf_mk KX G ?_ ?_ ?_ ?_) (DL.gf_mk KX G ?_ ?_ ?_ ?_) (DL.gf_mk KX G ?_ ?_ ?_ ?_) (DL.gf_mk KX G ?_ ?_ ?_ ?_) (DL.gf_mk KX G ?_ ?_ ?_ ?_) (DL.gf_mk KX G ?_ ?_ ?_ ?_) (DL.gf_mk KX G ?_ ?_ ?_ ?_) (DL.gf_mk KX G ?_ ?_ ?_ ?_) (DL.gf_mk KX G ?_ ?_ ?_ ?_) (DL.gf_mk KX G ?_ ?_ ?_ ?_) (DL.gf_mk KX G ?_ ?_ ?_ ?_) (DL.gf_mk KX G ?_ ?_ ?_ ?_) (DL.gf_mk KX G ?_ ?_ ?_ ?_) ?_ ?_ (DL.blt_mk KX G ?_ ?_ ?_ ?_ ?_ ?_ ?_ ?_ ?_ ?_ ?_ ?_ ?_ ?_ ?_ ?_ ?_ ?_ ?_)
  all_goals try k_is
