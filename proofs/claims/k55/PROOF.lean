import PyProof.Rows.All
import Wide.All
import OpenK.AllK
import Wide.FinOn
import Lean
import PyProof.EqAt
import PyProof.EqKinds
import PyProof.TupleCall
import PySem.Challenge.RW_widelines_k55_crossings_of_lines
def PySem.W.Fast.tw17758243841207739864 : Unit := ()
def PySem.W.Fast.tw14341244761632546577 : Unit := ()
def PySem.W.Fast.tw16114994267754740645 : Unit := ()
def PySem.W.Fast.tw17371048254566642796 : Unit := ()
def PySem.W.Fast.tw10163612906539404854 : Unit := ()
def PySem.W.Fast.tw16147431488154080996 : Unit := ()
def PySem.W.Fast.tw9188799263952523855 : Unit := ()
def PySem.W.Fast.tw16497236174314582058 : Unit := ()
def PySem.W.Fast.tw336403173651794305 : Unit := ()
def PySem.W.Fast.tw18433466622990167890 : Unit := ()
def PySem.W.Fast.tw15464884499086534570 : Unit := ()
def PySem.W.Fast.tw11808402450326183617 : Unit := ()
def PySem.W.Fast.tw8178129284214411417 : Unit := ()
def PySem.W.Fast.tw9202262122805006376 : Unit := ()
def PySem.W.Fast.tw6413986843864946076 : Unit := ()
def PySem.W.Fast.tw14584376505663138803 : Unit := ()
def PySem.W.Fast.tw1297434914065727241 : Unit := ()
def PySem.W.Fast.tw13466397939047252111 : Unit := ()
def PySem.W.Fast.tw619449992734726719 : Unit := ()
def PySem.W.Fast.tw6800901818561381846 : Unit := ()
def PySem.W.Fast.tw16877878263661925773 : Unit := ()
def PySem.W.Fast.tw17468184733445194797 : Unit := ()
def PySem.W.Fast.tw13421798932022426682 : Unit := ()
def PySem.W.Fast.tw3078568819057564814 : Unit := ()
def PySem.W.Fast.tw1950163536990704909 : Unit := ()
def PySem.W.Fast.tw4603280438212981774 : Unit := ()
def PySem.W.Fast.tw1279202318741671555 : Unit := ()
local macro_rules | `(tactic| omega) => `(tactic| first | with_reducible assumption | decide | omega +splitMinMax)
theorem PySem.W.Fast.te14341244761632546577 : True := True.intro
set_option Elab.async false
set_option linter.all false
set_option maxRecDepth 100000
set_option bootstrap.genMatcherCode false
set_option genSizeOf false
noncomputable section
namespace L2
open PySem PySem.Spec PyProof.Rows
abbrev Key := Sum Int Str
def a5q : Key → Value → Bool
 | .inl k,v => Value.isInt k v
 | .inr x,v => Value.isStrOf x v
def b1c (w : World) : Key → Int
 | .inl k => hashInt k
 | .inr x => hashStr w x
theorem N9 : ∀ {k : Key} {v : Value},a5q k v = true → (∃ i t,k = Sum.inl i ∧ v = Value.int i t) ∨ (∃ x t,k = Sum.inr x ∧ v = Value.str x t)
 | .inl i,v,h => by
  obtain ⟨t,e⟩ := Value.isInt_shape (k := i) (v := v) h
  exact .inl ⟨i,t,rfl,e⟩
 | .inr x,v,h => by
  obtain ⟨t,e⟩ := Value.isStrOf_shape (x := x) (v := v) h
  exact .inr ⟨x,t,rfl,e⟩
theorem a9x (a b : Int) : decide ((Sum.inl a : Key) = Sum.inl b) = (a == b):= by
 by_cases e : a = b
 ·subst e; simp
 ·have h : ¬ (Sum.inl a : Key) = Sum.inl b := fun q => e (Sum.inl.inj q)
  rw [decide_eq_false h]
  exact (beq_eq_false_iff_ne.mpr e).symm
theorem b02 (a b : Str) : decide ((Sum.inr a : Key) = Sum.inr b) = decide (a = b):= by
 by_cases e : a = b
 ·subst e; simp
 ·have h : ¬ (Sum.inr a : Key) = Sum.inr b := fun q => e (Sum.inr.inj q)
  rw [decide_eq_false h,decide_eq_false e]
theorem b4n (a : Int) (b : Str) : decide ((Sum.inl a : Key) = Sum.inr b) = false := decide_eq_false (fun q => nomatch q)
theorem b0G (a : Str) (b : Int) : decide ((Sum.inr a : Key) = Sum.inl b) = false := decide_eq_false (fun q => nomatch q)
def a4i (prog : Program) (w : World) : PySem.KeyKind prog w Key where
 is := a5q
 hash := b1c w
 inj := fun v a b ha hb => by
  rcases N9 ha with ⟨i,t,rfl,rfl⟩ | ⟨x,t,rfl,rfl⟩
  ·rcases N9 hb with ⟨j,u,rfl,e⟩ | ⟨y,u,rfl,e⟩
   ·injection e with e1 _; rw [e1]
   ·exact nomatch e
  ·rcases N9 hb with ⟨j,u,rfl,e⟩ | ⟨y,u,rfl,e⟩
   ·exact nomatch e
   ·injection e with e1 _; rw [e1]
 byValue := fun k v h => by
  rcases N9 h with ⟨i,t,rfl,rfl⟩ | ⟨x,t,rfl,rfl⟩ <;> rfl
 pyHash := fun hv h => by
  rcases N9 hv with ⟨i,t,rfl,rfl⟩ | ⟨x,t,rfl,rfl⟩
  ·exact wpAny_pyHash_int h
  ·exact wpAny_pyHash_str h
 eqBool := fun hu hv h => by
  rcases N9 hu with ⟨i,t,rfl,rfl⟩ | ⟨x,t,rfl,rfl⟩
  ·rcases N9 hv with ⟨j,u,rfl,rfl⟩ | ⟨y,u,rfl,rfl⟩
   ·rw [a9x] at h; exact wpAny_eqBool_int h
   ·rw [b4n] at h; exact SeqAt.EqAt.int_str i t y u _ _ _ _ h
  ·rcases N9 hv with ⟨j,u,rfl,rfl⟩ | ⟨y,u,rfl,rfl⟩
   ·rw [b0G] at h; exact SeqAt.EqAt.str_int x t j u _ _ _ _ h
   ·rw [b02] at h; exact wpAny_eqBool_str h
 «strs» := fun k x t v h => by
  rcases N9 h with ⟨i,u,rfl,e⟩ | ⟨y,u,rfl,e⟩
  ·exact nomatch e
  ·injection e with e1 _
   subst e1
   cases v <;> rfl
inductive V where
 | non | bl (b : Bool) | int (i : Int) | str (x : Str) | byt (b : Array UInt8) | flt (b : UInt64) | ref (a : Addr) | ty (n : String)
 deriving DecidableEq
def RelV : V → Value → Prop
 | .non,u => u = Value.none
 | .bl b,u => u = Value.bool b
 | .int i,u => ∃ t,u = Value.int i t
 | .str x,u => ∃ t,u = Value.str x t
 | .byt b,u => ∃ t,u = Value.bytes b t
 | .flt b,u => ∃ t,u = Value.float b t
 | .ref a,u => u = Value.ref a
 | .ty n,u => u = Value.type n
abbrev Vals : List V → List Value → Prop := Paired RelV
theorem Vals.length {xs : List V} {us : List Value} (r : Vals xs us) : xs.length = us.length := Paired.length r
theorem Vals.get : ∀ {xs : List V} {us : List Value} {i : Nat} {x : V},Vals xs us → xs[i]? = some x → ∃ u,us[i]? = some u ∧ RelV x u
 | _,_,_,_,.nil,e => by simp at e
 | _,_,0,_,.cons r _,e => by simp at e; subst e; exact ⟨_,rfl,r⟩
 | _,_,i + 1,x,.cons _ t,e => by
  obtain ⟨u,h1,h2⟩ := Vals.get (i := i) (x := x) t (by simpa using e)
  exact ⟨u,by simpa using h1,h2⟩
theorem Vals.set {x : V} {u : Value} (r : RelV x u) : ∀ {xs : List V} {us : List Value} (i : Nat),Vals xs us → Vals (xs.set i x) (us.set i u)
 | _,_,_,.nil => .nil
 | _,_,0,.cons _ t => .cons r t
 | _,_,i + 1,.cons q t => .cons q (Vals.set r i t)
theorem Vals.append : ∀ {xs ys : List V} {us ws : List Value},Vals xs us → Vals ys ws → Vals (xs ++ ys) (us ++ ws):= by
 intro xs ys us ws h s
 induction h with
 | nil => exact s
 | cons r t ih => exact .cons r ih
theorem Vals.take : ∀ {xs : List V} {us : List Value} (n : Nat),Vals xs us → Vals (xs.take n) (us.take n)
 | _,_,0,_ => .nil
 | _,_,_ + 1,.nil => .nil
 | _,_,n + 1,.cons r t => .cons r (Vals.take n t)
theorem Vals.drop : ∀ {xs : List V} {us : List Value} (n : Nat),Vals xs us → Vals (xs.drop n) (us.drop n)
 | _,_,0,r => r
 | _,_,_ + 1,.nil => .nil
 | _,_,n + 1,.cons _ t => Vals.drop n t
def a4Q : Option V → Option Value → Prop
 | some v,some u => RelV v u
 | none,none => True
 | _,_ => False
def KV {κ : Type} : List (κ × V) → List (κ × Value) → Prop := Paired fun (p : κ × V) (q : κ × Value) => p.1 = q.1 ∧ RelV p.2 q.2
def kV : Key → V
 | .inl i => .int i
 | .inr x => .str x
inductive HO where
 | lst (xs : List V)
 | tup (xs : List V)
 | dK (kvs : List (Key × V)) | dT (kvs : List (List Key × V))
 | set (S : Int → Bool) (n : Nat)
 | ins (C dx : Addr) (fs : List (Str × V))
 | own (x : Addr)
 | xd (fs : List (Str × V))
 | met (f x : Addr)
 | rng (lo hi : Int)
 | frz (o : Obj) (u : HO)
 | tbl (ps : Array Value)
 | ext (φ : Heap → Prop)
abbrev Hp := Addr → Option HO
def upd (H : Hp) (a : Addr) (o : HO) : Hp := fun b => if b = a then some o else H b
theorem A9 {H : Hp} {a : Addr} {o : HO} : upd H a o a = some o := by unfold upd; rw [if_pos rfl]
theorem o9 {H : Hp} {a b : Addr} {o : HO} (h : b ≠ a) : upd H a o b = H b := by unfold upd; rw [if_neg h]
theorem K0 {H : Hp} {a b : Addr} {o : HO} (h : H a = some o) (h' : H b = none) : a ≠ b:= by
 intro e; subst e; rw [h] at h'; cases h'
section
variable (P : Program) (w : World)
def ObjOk (H : Hp) (h : Heap) (a : Addr) : HO → Prop
 | .lst xs => xs.length ≤ sizeLine ∧ ∃ (its : List Value) (n : Nat),Vals xs its ∧ h.get? a = some { cls := .type "list",data := .seq its.toArray n }
 | .tup xs => xs.length ≤ sizeLine ∧ ∃ its : List Value,Vals xs its ∧ IsTup h a its.toArray
 | .dK kvs => kvs.length ≤ sizeLine ∧ (a == sysModules) = false ∧ ∃ vs,KV kvs vs ∧ h.DictOf (a4i P w) a vs
 | .dT kvs => kvs.length ≤ sizeLine ∧ (a == sysModules) = false ∧ ∃ xs : List (List Key × Addr × Value),
   Paired (fun (p : List Key × V) (q : List Key × Addr × Value) => p.1 = q.1 ∧ H q.2.1 = some (.tup (p.1.map kV)) ∧ RelV p.2 q.2.2) kvs xs ∧
   ∃ o es ep,h.get? a = some o ∧ o.ExactDict ∧ o.data = .dict es ep ∧ es.toList = xs.map (entryOfKey (tupleKind (a4i P w))) ∧ (xs.map (·.1)).Nodup
 | .set S n => h.SetOf (intKind P w) a S n
 | .ins C dx fs => H dx = some (.own a) ∧ fs.length ≤ 1000 ∧ dx ≠ a ∧ h.get? a = some (PySem.W.instObj C dx) ∧
   ∃ mA,h.Ns1 dx mA ∧ (∀ f,a4Q (fs.lookup f) (mA f)) ∧ PySem.Within mA (fs.map (·.1))
 | .own _ => ∃ o,h.get? a = some o
 | .xd fs => ∃ mA,h.Ns1 a mA ∧ ∀ f,a4Q (fs.lookup f) (mA f)
 | .rng lo hi => ∃ t u v,h.get? a = some { cls := .type "range",data := .fields #[.int lo t,.int hi u,.int 1 v] }
 | .frz o u => h.get? a = some o ∧ ObjOk H h a u
 | .tbl ps => h.get? a = some { cls := .none,data := .fields ps }
 | .met f x => h.get? a = some (PySem.W.methodObj (.ref f) (.ref x))
 | .ext φ => φ h ∧ (∃ o,h.get? a = some o) ∧ ∀ h1 h2 : Heap,φ h1 → (∀ o,h1.get? a = some o → h2.get? a = some o) → φ h2
def HOk (H : Hp) (h : Heap) : Prop := ∀ a o,H a = some o → ObjOk P w H h a o
end
section
variable {P : Program} {w : World} {H H' : Hp} {h h' : Heap} {a : Addr} {o : HO}
theorem ObjOk.lt (x : ObjOk P w H h a o) : a < h.objs.size:= by
 cases o with
 | lst xs => obtain ⟨_,_,_,_,e⟩ := x; exact Heap.lt_size e
 | tup xs => obtain ⟨_,_,_,p⟩ := x; exact p.lt
 | dK kvs => obtain ⟨_,_,_,_,o,_,_,e,_⟩ := x; exact Heap.lt_size e
 | dT kvs => obtain ⟨_,_,_,_,o,_,_,e,_⟩ := x; exact Heap.lt_size e
 | set S n => obtain ⟨o,_,_,_,e,_⟩ := x; exact Heap.lt_size e
 | ins C dx fs => obtain ⟨_,_,_,e,_⟩ := x; exact Heap.lt_size e
 | own y => obtain ⟨_,e⟩ := x; exact Heap.lt_size e
 | xd fs => obtain ⟨_,⟨_,_,_,e,_⟩,_⟩ := x; exact Heap.lt_size e
 | rng lo hi => obtain ⟨_,_,_,e⟩ := x; exact Heap.lt_size e
 | frz ob u => obtain ⟨e,_⟩ := x; exact Heap.lt_size e
 | tbl ps => exact Heap.lt_size (show h.get? a = some _ from x)
 | met f y => exact Heap.lt_size (show h.get? a = some _ from x)
 | ext φ => obtain ⟨_,⟨_,e⟩,_⟩ := x; exact Heap.lt_size e
theorem Paired.mapP {α β : Type} {F G : α → β → Prop} : ∀ {l₁ : List α} {l₂ : List β},Paired F l₁ l₂ → (∀ a b,F a b → G a b) → Paired G l₁ l₂:= by
 intro l₁ l₂ h f
 induction h with
 | nil => exact .nil
 | cons r t ih => exact .cons (f _ _ r) ih
theorem ObjOk.stay (x : ObjOk P w H h a o) (k : ∀ b u,(b = a ∨ H b = some (.own a)) → h.get? b = some u → h'.get? b = some u)
  (ho : ∀ b,H b = some (.own a) → H' b = some (.own a)) (ht : ∀ b xs,H b = some (.tup xs) → H' b = some (.tup xs)) : ObjOk P w H' h' a o:= by
 induction o with
 | lst xs => obtain ⟨z,its,n,r,e⟩ := x; exact ⟨z,its,n,r,k _ _ (.inl rfl) e⟩
 | tup xs => obtain ⟨z,its,r,ob,e,c⟩ := x; exact ⟨z,its,r,ob,k _ _ (.inl rfl) e,c⟩
 | dK kvs => obtain ⟨z,y,vs,r,ob,es,ep,e,c⟩ := x; exact ⟨z,y,vs,r,ob,es,ep,k _ _ (.inl rfl) e,c⟩
 | dT kvs=>
  obtain ⟨z,y,xs,r,ob,es,ep,e,c⟩ := x
  exact ⟨z,y,xs,Paired.mapP r fun p q z => ⟨z.1,ht _ _ z.2.1,z.2.2⟩,ob,es,ep,k _ _ (.inl rfl) e,c⟩
 | set S n => obtain ⟨ob,es,ep,t,e,c⟩ := x; exact ⟨ob,es,ep,t,k _ _ (.inl rfl) e,c⟩
 | ins C dx fs=>
  obtain ⟨d,z,ne,e,mA,⟨od,es,ep,e2,c⟩,r⟩ := x
  exact ⟨ho _ d,z,ne,k _ _ (.inl rfl) e,mA,⟨od,es,ep,k _ _ (.inr d) e2,c⟩,r⟩
 | own y => obtain ⟨ob,e⟩ := x; exact ⟨ob,k _ _ (.inl rfl) e⟩
 | xd fs => obtain ⟨mA,⟨od,es,ep,e,c⟩,r⟩ := x; exact ⟨mA,⟨od,es,ep,k _ _ (.inl rfl) e,c⟩,r⟩
 | rng lo hi => obtain ⟨t,u,v,e⟩ := x; exact ⟨t,u,v,k _ _ (.inl rfl) e⟩
 | frz ob u ih => obtain ⟨e,q⟩ := x; exact ⟨k _ _ (.inl rfl) e,ih q⟩
 | tbl ps=>
  have e : h.get? a = some { cls := .none,data := .fields ps } := x
  show h'.get? a = some { cls := .none,data := .fields ps }
  exact k a _ (.inl rfl) e
 | met f y=>
  have e : h.get? a = some (PySem.W.methodObj (.ref f) (.ref y)) := x
  show h'.get? a = some (PySem.W.methodObj (.ref f) (.ref y))
  exact k a _ (.inl rfl) e
 | ext φ => obtain ⟨p,⟨o,e⟩,st⟩ := x; exact ⟨st _ _ p fun o q => k _ _ (.inl rfl) q,⟨o,k _ _ (.inl rfl) e⟩,st⟩
theorem HOk.lt (x : HOk P w H h) (e : H a = some o) : a < h.objs.size := (x a o e).lt
theorem HOk.fresh (x : HOk P w H h) (e : h.objs.size ≤ a) : H a = none:= by
 cases q : H a with
 | none => rfl
 | some u => exact absurd (Nat.lt_of_lt_of_le (x.lt q) e) (Nat.lt_irrefl _)
theorem HOk.kept (x : HOk P w H h) (k : ∀ b u,h.get? b = some u → h'.get? b = some u) : HOk P w H h' := fun a o e=>
 (x a o e).stay (fun b u _ q => k b u q) (fun _ q => q) fun _ _ q => q
theorem HOk.laid (x : HOk P w H h) (k : ∀ b u,h.get? b = some u → h'.get? b = some u) (hp : h.objs.size ≤ a) (new : ObjOk P w (upd H a o) h' a o) : HOk P w (upd H a o) h' := fun b u e => by
 have hn := x.fresh hp
 by_cases hb : b = a
 ·subst hb; rw [A9] at e; cases e; exact new
 ·rw [o9 hb] at e
  exact (x b u e).stay (fun c v _ q => k c v q) (fun c q => by rw [o9 (K0 q hn)]; exact q) fun c xs q => by rw [o9 (K0 q hn)]; exact q
end
def Rd (H : Hp) (a : Addr) (u : HO) : Prop := H a = some u ∨ ∃ o,H a = some (.frz o u)
theorem Rd.ok {P : Program} {w : World} {H : Hp} {h : Heap} {a : Addr} {u : HO} (r : Rd H a u) (x : HOk P w H h) : ObjOk P w H h a u:= by
 rcases r with r | ⟨o,r⟩
 ·exact x a u r
 ·obtain ⟨_,q⟩ := x a _ r
  exact q
def Mut : Option HO → Prop
 | some (.lst _) => True
 | some (.dK _) => True
 | some (.dT _) => True
 | some (.set _ _) => True
 | some (.ins _ _ _) => True
 | some (.ext _) => True
 | _ => False
section
variable {P : Program} {w : World} {H : Hp} {h h' : Heap} {x e : Addr} {o' : HO}
theorem HOk.write (ok : HOk P w H h) (mu : Mut (H x)) (he : e = x ∨ H e = some (.own x)) (k : ∀ b u,b ≠ e → h.get? b = some u → h'.get? b = some u) (heo : ∃ u,h'.get? e = some u)
  (new : ObjOk P w (upd H x o') h' x o') : HOk P w (upd H x o') h' := fun b u q => by
 have nown : ∀ c y,H c = some (.own y) → c ≠ x := fun c y r z => by subst z; rw [r] at mu; exact mu
 have ntup : ∀ c xs,H c = some (.tup xs) → c ≠ x := fun c xs r z => by subst z; rw [r] at mu; exact mu
 by_cases hb : b = x
 ·subst hb; rw [A9] at q; cases q; exact new
 ·rw [o9 hb] at q
  by_cases hbe : b = e
  ·have q' : H b = some (.own x):= by
    rcases he with z | z
    ·exact absurd (hbe.trans z) hb
    ·rw [hbe]; exact z
   rw [q] at q'; cases q'
   obtain ⟨v,hv⟩ := heo
   exact ⟨v,by rw [hbe]; exact hv⟩
  ·refine (ok b u q).stay (fun c v hc r => k c v ?_ r) (fun c r => by rw [o9 (nown c b r)]; exact r) fun c xs r => by rw [o9 (ntup c xs r)]; exact r
   rcases hc with rfl | hc
   ·exact hbe
   ·rintro rfl
    rcases he with z | z
    ·exact nown c b hc z
    ·rw [hc] at z; cases z; exact hb rfl
end
structure Un (fs ex : List Addr) (H H' : Hp) (h h' : Heap) : Prop where
 keep : ∀ b o,h.get? b = some o → H b = none → b ∉ fs → b ∉ ex → h'.get? b = some o
 slot : ∀ b o,h.get? b = some o → H b = none → b ∈ fs → b ∉ ex → ∃ sl,h'.get? b = some { o with slots := sl }
 free : ∀ b o,h.get? b = some o → H b = none → b ∉ ex → H' b = none
 there : ∀ b o,h.get? b = some o → b ∉ ex → ∃ o',h'.get? b = some o'
 tups : ∀ b xs,H b = some (.tup xs) → H' b = some (.tup xs)
 frzs : ∀ b o u,H b = some (.frz o u) → H' b = some (.frz o u)
 tbls : ∀ b ps,H b = some (.tbl ps) → ∃ more,H' b = some (.tbl (ps ++ more))
section
variable {fs fs' ex ex' : List Addr} {H H1 H2 : Hp} {h h1 h2 h' : Heap} {a x e : Addr} {o : HO}
theorem Un.any (u : Un fs ex H H1 h h1) {b : Addr} {ob : Obj} (q : h.get? b = some ob) (n : H b = none) (hx : b ∉ ex) : ∃ sl,h1.get? b = some { ob with slots := sl }:= by
 by_cases hb : b ∈ fs
 ·exact u.slot b ob q n hb hx
 ·exact ⟨ob.slots,u.keep b ob q n hb hx⟩
theorem Un.kept (k : ∀ b u,h.get? b = some u → h'.get? b = some u) : Un fs ex H H h h':=
 ⟨fun b ob q _ _ _ => k b ob q,fun b ob q _ _ _ => ⟨ob.slots,k b ob q⟩,fun _ _ _ n _ => n,fun b ob q _ => ⟨ob,k b ob q⟩,fun _ _ q => q,fun _ _ _ q => q,fun _ ps q => ⟨#[],by rw [q]; simp⟩⟩
theorem Un.refl : Un fs ex H H h h := Un.kept fun _ _ q => q
theorem Un.laid (k : ∀ b u,h.get? b = some u → h'.get? b = some u) (hp : h.objs.size ≤ a) (hn : H a = none) : Un fs ex H (upd H a o) h h' where
 keep := fun b u q _ _ _ => k b u q
 slot := fun b u q _ _ _ => ⟨u.slots,k b u q⟩
 free := fun b u q n _ => by rw [o9 (Nat.ne_of_lt (Nat.lt_of_lt_of_le (Heap.lt_size q) hp))]; exact n
 there := fun b u q _ => ⟨u,k b u q⟩
 tups := fun b xs q => by rw [o9 (K0 q hn)]; exact q
 frzs := fun b u xs q => by rw [o9 (K0 q hn)]; exact q
 tbls := fun b ps q => ⟨#[],by rw [o9 (K0 q hn),q]; simp⟩
theorem Un.write (mu : Mut (H x)) (he : e = x ∨ H e = some (.own x)) (k : ∀ b u,b ≠ e → h.get? b = some u → h'.get? b = some u) (heo : ∃ u,h'.get? e = some u) : Un fs ex H (upd H x o) h h':= by
 have hx : ∀ b,H b = none → b ≠ x := fun b n z => by subst z; rw [n] at mu; exact mu
 have hb : ∀ b,H b = none → b ≠ e := fun b n z => by
  subst z
  rcases he with r | r
  ·exact hx b n r
  ·rw [n] at r; cases r
 have hm : ∀ b u,H b = some u → ¬ Mut (some u) → b ≠ x := fun b u q nm z => by subst z; rw [q] at mu; exact nm mu
 refine ⟨fun b u q n _ _ => k b u (hb b n) q,fun b u q n _ _ => ⟨u.slots,k b u (hb b n) q⟩,fun b u q n _ => by rw [o9 (hx b n)]; exact n,fun b u q _ => ?_,
  fun b xs q => by rw [o9 (hm b _ q fun z => z)]; exact q,fun b u xs q => by rw [o9 (hm b _ q fun z => z)]; exact q,fun b ps q => ⟨#[],by rw [o9 (hm b _ q fun z => z),q]; simp⟩⟩
 by_cases hbe : b = e
 ·subst hbe; exact heo
 ·exact ⟨u,k b u hbe q⟩
end
def trk (h : Heap) (H : Hp) : List Addr := (List.range h.objs.size).filter fun a => (H a).isSome
def N0 (h : Heap) (H : Hp) : Heap := PySem.W.hideAll h (trk h H)
theorem b01 (h : Heap) (H : Hp) : (N0 h H).objs.size = h.objs.size := PySem.W.hideAll_size _ _
theorem b23 {h : Heap} {H : Hp} {b : Addr} {o : Obj} (e : h.get? b = some o) (n : H b = none) : (N0 h H).get? b = some o:=
 PySem.W.hideAll_get _ e fun hm => by
  have q : (H b).isSome = true := (List.mem_filter.mp hm).2
  rw [n] at q; simp at q
theorem a76 {h : Heap} {H : Hp} {b : Addr} {o : Obj} (e : (N0 h H).get? b = some o) : h.get? b = some o ∧ H b = none:= by
 have e' : h.get? b = some o := PySem.W.of_hideAll (trk h H) e
 refine ⟨e',?_⟩
 cases q : H b with
 | none => rfl
 | some x=>
  have hm : b ∈ trk h H := List.mem_filter.mpr ⟨List.mem_range.mpr (Heap.lt_size e'),by simp [q]⟩
  have z : (N0 h H).get? b = none := PySem.W.hideAll_none (trk h H) hm
  rw [z] at e; cases e
structure Mod (K : PySem.W.Frag) (mg : Str → Option Value) (base : Heap) : Prop where
 kin : K.In base
 glob : base.Ns mainGlobals mg
 blt : ∃ mb,base.Ns builtinsNs mb ∧ ∀ x : Str,x ≠ "__name__" → mb x = bootBuiltins x
 nolimit : base.NoLimit
structure Cx where
 prog : Program
 w : World
 K : PySem.W.Frag
 mg : Str → Option Value
 base : Heap
 A : Around
 N : List Str
 s₀ : Shared
 H₀ : Hp
 env : Env
 outer : List Env
 stack : List Env
 ex : List Addr
 fn : Str → Bool
 calm : Bool
 pn : List (Addr × Obj)
 xe : Value → Shared → Prop
def frs (l : List Env) : List Addr := l.filterMap (·.frame)
abbrev Cx.fs (X : Cx) : List Addr := frs X.outer
def Vis (sc : Scope) (x : Str) : Prop := sc.names.lookup x = some .local ∨ sc.names.lookup x = some .cell ∨ sc.names.lookup x = some .free
def Loc (sc : Scope) (x : Str) : Prop := sc.names.lookup x = some .local ∨ sc.names.lookup x = some .cell
def a83 (env : Env) (h : Heap) (m : Str → Option Value) (x : Str) (u : Value) : Prop:=
 (env.kindOf x = some .local ∧ m x = some u) ∨ ((env.kindOf x = some .cell ∨ env.kindOf x = some .free) ∧ ∃ c,env.cells.lookup x = some c ∧ h.IsCell c (some u))
structure Cx.Ok (X : Cx) : Prop where
 mod : Mod X.K X.mg X.base
 kind : X.env.scope.kind = .function
 glob : X.env.globals = mainGlobals
 blt : X.env.builtins = builtinsNs
 above : X.s₀.heap.objs.size ≤ X.env.locals
 inj : ∀ x y c,X.env.cells.lookup x = some c → X.env.cells.lookup y = some c → x = y
 has : ∀ x,(X.env.kindOf x = some .cell ∨ X.env.kindOf x = some .free) → ∃ c,X.env.cells.lookup x = some c
 cab : ∀ x c,X.fn x = true → X.env.cells.lookup x = some c → X.s₀.heap.objs.size ≤ c
 hd : X.calm = true → X.A.handled = none
 frames : X.A.frames = some X.stack
 stk : X.stack = X.outer ∨ (X.stack = X.env :: X.outer ∧ X.env.frame = some X.env.locals)
 exf : ∀ b ∈ X.ex,b ≠ X.env.locals ∧ ∀ x c,X.env.cells.lookup x = some c → c ≠ b
 bs : ∀ b o,X.base.get? b = some o → X.s₀.heap.get? b = some o ∧ X.H₀ b = none
 bsz : X.base.objs.size ≤ X.s₀.heap.objs.size
 noex : ∀ b o,X.base.get? b = some o → b ∉ X.ex
 exfs : ∀ b ∈ X.ex,b ∉ X.fs
 funs : X.s₀.heap.FunFrames X.base X.outer
 frf : ∀ b ∈ X.fs,X.H₀ b = none
structure Inv (X : Cx) (pins : List (Addr × Obj)) (σ : List (Option V)) (H : Hp) (s : Shared) : Prop where
 ok : X.Ok
 os : s.os = X.s₀.os
 bare : AllBare s.gens
 base : Un X.fs X.ex X.H₀ H X.s₀.heap s.heap
 loc : ∃ m,s.heap.Ns X.env.locals m ∧ ∀ (i : Nat) (x : Str) (v : V),X.N[i]? = some x → σ[i]? = some (some v) → Vis X.env.scope x → ∃ u,RelV v u ∧ a83 X.env s.heap m x u
 cell : ∀ x c,X.env.cells.lookup x = some c → ∃ v,s.heap.IsCell c v
 free : H X.env.locals = none
 freeC : ∀ x c,X.env.cells.lookup x = some c → H c = none
 pin : ∀ p ∈ X.pn ++ pins,s.heap.get? p.1 = some p.2 ∧ H p.1 = none ∧ p.1 ≠ X.env.locals ∧ p.1 ∉ X.fs ∧ ∀ v,p.2.data ≠ .cell v
 hok : HOk X.prog X.w H s.heap
 len : σ.length = X.N.length
section
variable {X : Cx} {pins : List (Addr × Obj)} {σ : List (Option V)} {H H' : Hp} {s : Shared} {h' : Heap}
theorem Cx.Ok.nofr (ok : X.Ok) {b : Addr} {o : Obj} (e : X.base.get? b = some o) : b ∉ X.fs := fun hb => by
 have := (ok.funs.mem hb).1
 rw [e] at this; cases this
theorem Inv.bs (I : Inv X pins σ H s) : ∀ b o,X.base.get? b = some o → s.heap.get? b = some o ∧ H b = none := fun b o e=>
 ⟨I.base.keep b o (I.ok.bs b o e).1 (I.ok.bs b o e).2 (I.ok.nofr e) (I.ok.noex b o e),I.base.free b o (I.ok.bs b o e).1 (I.ok.bs b o e).2 (I.ok.noex b o e)⟩
theorem Inv.bk (I : Inv X pins σ H s) : ∀ b o,X.base.get? b = some o → s.heap.get? b = some o := fun b o e => (I.bs b o e).1
theorem Inv.mod (I : Inv X pins σ H s) : Mod X.K X.mg X.base := I.ok.mod
theorem Inv.kIn (I : Inv X pins σ H s) : X.K.In s.heap := I.ok.mod.kin.keeps I.bk
theorem Inv.lt (I : Inv X pins σ H s) : X.env.locals < s.heap.objs.size := let ⟨_,hn,_⟩ := I.loc; hn.lt
theorem Inv.sz (I : Inv X pins σ H s) : X.s₀.heap.objs.size ≤ s.heap.objs.size := Nat.le_trans I.ok.above (Nat.le_of_lt I.lt)
theorem Inv.nofs (I : Inv X pins σ H s) {a : Addr} (h : s.heap.objs.size ≤ a) : a ∉ X.fs := fun hb => by
 obtain ⟨_,o,ho,_⟩ := I.ok.funs.mem hb
 exact absurd (Nat.lt_of_lt_of_le (Heap.lt_size ho) (Nat.le_trans I.sz h)) (Nat.lt_irrefl _)
theorem Inv.cne (I : Inv X pins σ H s) : ∀ x c,X.env.cells.lookup x = some c → c ≠ X.env.locals := fun x c e z => by
 obtain ⟨v,o,ho,hd⟩ := I.cell x c e
 obtain ⟨m,⟨o',es,ep,ho',hd',_⟩,_⟩ := I.loc
 rw [z,ho'] at ho; cases ho; rw [hd'] at hd; cases hd
theorem Inv.funs (I : Inv X pins σ H s) : s.heap.FunFrames X.base X.outer:= by
 have all : ∀ (l : List Env),(∀ b ∈ frs l,b ∈ X.fs) → X.s₀.heap.FunFrames X.base l → s.heap.FunFrames X.base l:= by
  intro l
  induction l with
  | nil => intro _ _; trivial
  | cons env r ih=>
   intro hs hl
   obtain ⟨hk,⟨L,o,hf,hn,ho,hd⟩,hr⟩ := hl
   have hL : L ∈ X.fs := hs L (by unfold frs; rw [List.filterMap_cons,hf]; exact List.mem_cons_self)
   obtain ⟨sl,e⟩ := I.base.slot L o ho (I.ok.frf L hL) hL fun z => I.ok.exfs L z hL
   exact ⟨hk,⟨L,_,hf,hn,e,hd⟩,ih (fun b hb => hs b (by unfold frs; rw [List.filterMap_cons,hf]; exact List.mem_cons_of_mem _ hb)) hr⟩
 exact all X.outer (fun _ hb => hb) I.ok.funs
theorem Inv.stack (I : Inv X pins σ H s) : s.heap.FunFrames X.base X.stack:= by
 rcases I.ok.stk with e | ⟨e,hf⟩
 ·rw [e]; exact I.funs
 ·rw [e]
  obtain ⟨m,hn,_⟩ := I.loc
  refine .cons (by rw [I.ok.kind]; decide) hf hn ?_ I.funs
  exact Heap.get?_none_of_le (Nat.le_trans I.ok.bsz I.ok.above)
theorem Inv.stkSub (I : Inv X pins σ H s) : ∀ b ∈ frs X.stack,b ∈ X.env.locals :: X.fs := fun b hb => by
 rcases I.ok.stk with e | ⟨e,hf⟩
 ·rw [e] at hb; exact List.mem_cons_of_mem _ hb
 ·rw [e] at hb
  unfold frs at hb
  rw [List.filterMap_cons,hf] at hb
  exact hb
theorem Inv.stkFree (I : Inv X pins σ H s) : ∀ b ∈ frs X.stack,H b = none := fun b hb => by
 rcases List.mem_cons.mp (I.stkSub b hb) with e | hb
 ·rw [e]; exact I.free
 ·obtain ⟨_,o,ho,_⟩ := I.ok.funs.mem hb
  exact I.base.free b o ho (I.ok.frf b hb) fun z => I.ok.exfs b z hb
theorem Inv.step {g' : Array GenState} {t' : Nat} {d' : Drawn} {ch : List Addr} (I : Inv X pins σ H s)
  (hch : ∀ b ∈ ch,(b ∈ X.ex ∨ X.s₀.heap.objs.size ≤ b) ∧ b ≠ X.env.locals ∧ (∀ x c,X.env.cells.lookup x = some c → c ≠ b) ∧ ∀ p ∈ X.pn ++ pins,p.1 ≠ b)
  (keep : ∀ b o,b ≠ X.env.locals → b ∉ X.fs → b ∉ ch → s.heap.get? b = some o → H b = none → h'.get? b = some o)
  (slot : ∀ b o,b ≠ X.env.locals → b ∈ X.fs → b ∉ ch → s.heap.get? b = some o → H b = none → ∃ sl,h'.get? b = some { o with slots := sl }) (free : ∀ b o,b ∉ ch → s.heap.get? b = some o → H b = none → H' b = none)
  (there : ∀ b o,b ∉ ch → s.heap.get? b = some o → ∃ o',h'.get? b = some o')
  (tups : ∀ b xs,H b = some (.tup xs) → H' b = some (.tup xs)) (frzs : ∀ b o u,H b = some (.frz o u) → H' b = some (.frz o u)) (tbls : ∀ b ps,H b = some (.tbl ps) → ∃ more,H' b = some (.tbl (ps ++ more)))
  (ns : ∀ m,s.heap.Ns X.env.locals m → h'.Ns X.env.locals m) (hok : HOk X.prog X.w H' h') (hg : AllBare g') :
  Inv X pins σ H' { s with heap := h',gens := g',drawn := d',toks := t' }:= by
 have neL : ∀ b o,X.s₀.heap.get? b = some o → b ≠ X.env.locals := fun b o e => Nat.ne_of_lt (Nat.lt_of_lt_of_le (Heap.lt_size e) I.ok.above)
 have neC : ∀ b o,X.s₀.heap.get? b = some o → b ∉ X.ex → b ∉ ch := fun b o e hx hb => by
  rcases (hch b hb).1 with z | z
  ·exact hx z
  ·exact absurd (Nat.lt_of_lt_of_le (Heap.lt_size e) z) (Nat.lt_irrefl _)
 have cellK : ∀ x c,X.env.cells.lookup x = some c → ∀ v,s.heap.IsCell c v → h'.IsCell c v := fun x c e v hQ__ => by
  obtain ⟨o,ho,hd⟩ := hQ__
  have nch : c ∉ ch := fun z => (hch c z).2.2.1 x c e rfl
  by_cases hc : c ∈ X.fs
  ·obtain ⟨sl,q⟩ := slot c o (I.cne x c e) hc nch ho (I.freeC x c e)
   exact ⟨_,q,hd⟩
  ·exact ⟨o,keep c o (I.cne x c e) hc nch ho (I.freeC x c e),hd⟩
 refine ⟨I.ok,I.os,hg,⟨fun b o e n hb hx => ?_,fun b o e n hb hx => ?_,fun b o e n hx => ?_,fun b o e hx => ?_,fun b xs e => tups b xs (I.base.tups b xs e),fun b o xs e => frzs b o xs (I.base.frzs b o xs e),fun b ps e => ?_⟩,?_,fun x c e => ?_,?_,fun x c e => ?_,fun p hp => ?_,hok,I.len⟩
 ·exact keep b o (neL b o e) hb (neC b o e hx) (I.base.keep b o e n hb hx) (I.base.free b o e n hx)
 ·obtain ⟨sl,e1⟩ := I.base.slot b o e n hb hx
  obtain ⟨sl',e2⟩ := slot b _ (neL b o e) hb (neC b o e hx) e1 (I.base.free b o e n hx)
  exact ⟨sl',e2⟩
 ·obtain ⟨o',e1⟩ := I.base.there b o e hx
  exact free b o' (neC b o e hx) e1 (I.base.free b o e n hx)
 ·obtain ⟨o',e1⟩ := I.base.there b o e hx
  exact there b o' (neC b o e hx) e1
 ·obtain ⟨m1,e1⟩ := I.base.tbls b ps e
  obtain ⟨m2,e2⟩ := tbls b _ e1
  exact ⟨m1 ++ m2,by rw [e2,Array.append_assoc]⟩
 ·obtain ⟨m,hn,hl⟩ := I.loc
  refine ⟨m,ns m hn,fun i x v e1 e2 e3 => ?_⟩
  obtain ⟨u,r,l⟩ := hl i x v e1 e2 e3
  refine ⟨u,r,?_⟩
  rcases l with l | ⟨k,c,e,z⟩
  ·exact .inl l
  ·exact .inr ⟨k,c,e,cellK x c e _ z⟩
 ·obtain ⟨v,z⟩ := I.cell x c e
  exact ⟨v,cellK x c e v z⟩
 ·obtain ⟨m,⟨o,_,_,ho,_⟩,_⟩ := I.loc
  exact free _ o (fun z => (hch _ z).2.1 rfl) ho I.free
 ·obtain ⟨v,o,ho,hd⟩ := I.cell x c e
  exact free c o (fun z => (hch c z).2.2.1 x c e rfl) ho (I.freeC x c e)
 ·obtain ⟨e,n,ne,nf,d⟩ := I.pin p hp
  have nch : p.1 ∉ ch := fun z => (hch p.1 z).2.2.2 p hp rfl
  exact ⟨keep p.1 p.2 ne nf nch e n,free p.1 p.2 nch e n,ne,nf,d⟩
theorem Inv.un {t' : Nat} (I : Inv X pins σ H s) (u : Un X.fs [] H H' s.heap h') (hok : HOk X.prog X.w H' h') : Inv X pins σ H' { s with heap := h',toks := t' }:= by
 obtain ⟨m,⟨o,es,ep,ho,r⟩,_⟩ := id I.loc
 obtain ⟨sl,hL⟩ := u.any ho I.free (by simp)
 exact I.step (g' := s.gens) (d' := s.drawn) (ch := []) (fun _ z => nomatch z) (fun b o _ hb _ e n => u.keep b o e n hb (by simp)) (fun b o _ hb _ e n => u.slot b o e n hb (by simp)) (fun b o _ e n => u.free b o e n (by simp)) (fun b o _ e => u.there b o e (by simp)) u.tups u.frzs u.tbls (fun m' hm => by
  obtain ⟨o',es',ep',ho',r'⟩ := hm
  rw [ho] at ho'; cases ho'
  exact ⟨_,es',ep',hL,r'⟩) hok I.bare
theorem Inv.call {g' : Array GenState} {t' : Nat} {d' : Drawn} {ch : List Addr} (I : Inv X pins σ H s) (u : Un (frs X.stack) ch H H' s.heap h') (hok : HOk X.prog X.w H' h') (hg : AllBare g')
  (hch : ∀ b ∈ ch,(b ∈ X.ex ∨ X.s₀.heap.objs.size ≤ b) ∧ b ≠ X.env.locals ∧ (∀ x c,X.env.cells.lookup x = some c → c ≠ b) ∧ ∀ p ∈ X.pn ++ pins,p.1 ≠ b) :
  Inv X pins σ H' { s with heap := h',gens := g',drawn := d',toks := t' }:= by
 obtain ⟨m,⟨o,es,ep,ho,r⟩,_⟩ := id I.loc
 obtain ⟨sl,hL⟩ := u.any ho I.free fun z => (hch _ z).2.1 rfl
 exact I.step (ch := ch) hch (fun b o hL hb hc e n => u.keep b o e n (fun z => (List.mem_cons.mp (I.stkSub b z)).elim hL hb) hc) (fun b o _ _ hc e n => u.any e n hc) (fun b o hc e n => u.free b o e n hc) (fun b o hc e => u.there b o e hc) u.tups u.frzs u.tbls (fun m' hm => by
  obtain ⟨o',es',ep',ho',r'⟩ := hm
  rw [ho] at ho'; cases ho'
  exact ⟨_,es',ep',hL,r'⟩) hok hg
theorem Inv.turned {t' : Nat} {it : Addr} (I : Inv X pins σ H s) (k : ∀ b o,b ≠ it → s.heap.get? b = some o → h'.get? b = some o) (hn : H it = none) (hL : it ≠ X.env.locals)
  (h1 : it ∈ X.ex ∨ X.s₀.heap.objs.size ≤ it) (h2 : ∀ x c,X.env.cells.lookup x = some c → c ≠ it) (h3 : ∀ p ∈ X.pn ++ pins,p.1 ≠ it) : Inv X pins σ H { s with heap := h',toks := t' }:= by
 have nit : ∀ b u,H b = some u → b ≠ it := fun b u e z => by rw [z,hn] at e; cases e
 refine I.step (g' := s.gens) (d' := s.drawn) (ch := [it]) (fun b hb => ?_) (fun b o _ _ hc e _ => k b o (fun z => hc (by simp [z])) e) (fun b o _ _ hc e _ => ⟨o.slots,k b o (fun z => hc (by simp [z])) e⟩) (fun _ _ _ _ n => n)
  (fun b o hc e => ⟨o,k b o (fun z => hc (by simp [z])) e⟩) (fun _ _ e => e) (fun _ _ _ e => e) (fun b ps e => ⟨#[],by rw [e]; simp⟩) (fun m hm => ?_) (fun b u e => ?_) I.bare
 ·have e : b = it := by simpa using hb
  subst e
  exact ⟨h1,hL,h2,h3⟩
 ·obtain ⟨o,es,ep,ho,r⟩ := hm
  exact ⟨o,es,ep,k _ o (Ne.symm hL) ho,r⟩
 ·refine (I.hok b u e).stay (fun c v hc q => k c v ?_ q) (fun _ q => q) fun _ _ q => q
  rcases hc with z | z
  ·rw [z]; exact nit b u e
  ·exact nit c _ z
theorem Inv.tok (I : Inv X pins σ H s) (t : Nat) : Inv X pins σ H { s with toks := t } := I.un (h' := s.heap) (t' := t) Un.refl I.hok
theorem Inv.kept {t' : Nat} (I : Inv X pins σ H s) (k : ∀ b u,s.heap.get? b = some u → h'.get? b = some u) : Inv X pins σ H { s with heap := h',toks := t' } := I.un (Un.kept k) (I.hok.kept k)
theorem Inv.laid {a : Addr} {o : HO} {t' : Nat} (I : Inv X pins σ H s) (k : ∀ b u,s.heap.get? b = some u → h'.get? b = some u) (hp : s.heap.objs.size ≤ a) (new : ObjOk X.prog X.w (upd H a o) h' a o) :
  Inv X pins σ (upd H a o) { s with heap := h',toks := t' } := I.un (Un.laid k hp (I.hok.fresh hp)) (I.hok.laid k hp new)
theorem Inv.write {x e : Addr} {o : HO} {t' : Nat} (I : Inv X pins σ H s) (mu : Mut (H x)) (he : e = x ∨ H e = some (.own x)) (k : ∀ b u,b ≠ e → s.heap.get? b = some u → h'.get? b = some u) (heo : ∃ u,h'.get? e = some u)
  (new : ObjOk X.prog X.w (upd H x o) h' x o) : Inv X pins σ (upd H x o) { s with heap := h',toks := t' } := I.un (Un.write mu he k heo) (I.hok.write mu he k heo new)
theorem Inv.weak {σ' : List (Option V)} (I : Inv X pins σ H s) (hl : σ'.length = σ.length) (w : ∀ (i : Nat) v,σ'[i]? = some (some v) → σ[i]? = some (some v)) : Inv X pins σ' H s:=
 ⟨I.ok,I.os,I.bare,I.base,let ⟨m,hn,hl'⟩ := I.loc; ⟨m,hn,fun i x v e1 e2 e3 => hl' i x v e1 (w i v e2) e3⟩,I.cell,I.free,I.freeC,I.pin,I.hok,hl.trans I.len⟩
theorem Inv.pins_of {pins' : List (Addr × Obj)} (I : Inv X pins σ H s) (h : ∀ p ∈ pins',s.heap.get? p.1 = some p.2 ∧ H p.1 = none ∧ p.1 ≠ X.env.locals ∧ p.1 ∉ X.fs ∧ ∀ v,p.2.data ≠ .cell v) : Inv X pins' σ H s:=
 ⟨I.ok,I.os,I.bare,I.base,I.loc,I.cell,I.free,I.freeC,fun p hp => (List.mem_append.mp hp).elim (fun z => I.pin p (List.mem_append_left _ z)) (h p),I.hok,I.len⟩
theorem a6b {N : List Str} (hN : N.Nodup) {i j : Nat} {x : Str} (a : N[i]? = some x) (b : N[j]? = some x) : i = j:= by
 obtain ⟨h1,e1⟩ := List.getElem?_eq_some_iff.mp a
 obtain ⟨h2,e2⟩ := List.getElem?_eq_some_iff.mp b
 exact (List.getElem_inj hN).mp (e1.trans e2.symm)
theorem a9R {M : Model} {A : Around} {E : Value → Shared → Prop} {i : Nat} {x : Str} {v : V} {u : Value} {Q : Unit → Shared → Prop} (I : Inv X pins σ H s) (hN : X.N.Nodup) (hi : X.N[i]? = some x) (hx : Loc X.env.scope x) (r : RelV v u)
  (h : ∀ s',Inv X pins (σ.set i (some v)) H s' → (∃ a,Heap.SameBut a s.heap s'.heap ∧ (a = X.env.locals ∨ X.env.cells.lookup x = some a)) → Q () s') (hf : X.fn x = true ∨ X.env.scope.names.lookup x = some .local := by first | exact .inl rfl | exact .inr rfl | assumption) : wpAny M A (storeName X.env x u) Q E s:= by
 obtain ⟨m,hn,hl⟩ := id I.loc
 have hcls : (X.env.scope.kind == .class || (X.env.scope.kind == .module && X.env.locals != X.env.globals)) = false := by rw [I.ok.kind]; rfl
 have hiσ : i < σ.length := by rw [I.len]; exact (List.getElem?_eq_some_iff.mp hi).1
 have cne := I.cne
 have tracked : ∀ {a : Addr} {h' : Heap},(∃ o,s.heap.get? a = some o ∧ H a = none) → Heap.SameBut a s.heap h' → HOk X.prog X.w H h' := fun {a h'} ha hs b ob e => by
  obtain ⟨_,_,hfree⟩ := ha
  refine (I.hok b ob e).stay (fun c w' hc q => (hs.2 c ?_).trans q) (fun _ q => q) fun _ _ q => q
  rintro rfl
  rcases hc with rfl | hc
  ·rw [hfree] at e; cases e
  ·rw [hfree] at hc; cases hc
 rcases hx with hk | hk
 ·refine wpAny_storeName_local hk hn (fun h' hn' hs => ?_) hcls
  obtain ⟨oL,_,_,hoL,_⟩ := id hn
  refine h _ ⟨I.ok,I.os,I.bare,⟨fun b o e n hb hx => ?_,fun b o e n hb hx => ?_,I.base.free,fun b o e hx => ?_,I.base.tups,I.base.frzs,I.base.tbls⟩,⟨_,hn',fun j y v' e1 e2 e3 => ?_⟩,fun y c e => ?_,I.free,I.freeC,fun p hp => ?_,tracked ⟨oL,hoL,I.free⟩ hs,by simpa using I.len⟩ ⟨_,hs,.inl rfl⟩
  ·exact (hs.2 b (Nat.ne_of_lt (Nat.lt_of_lt_of_le (Heap.lt_size e) I.ok.above))).trans (I.base.keep b o e n hb hx)
  ·obtain ⟨sl,e1⟩ := I.base.slot b o e n hb hx
   exact ⟨sl,(hs.2 b (Nat.ne_of_lt (Nat.lt_of_lt_of_le (Heap.lt_size e) I.ok.above))).trans e1⟩
  ·obtain ⟨o',e1⟩ := I.base.there b o e hx
   exact ⟨o',(hs.2 b (Nat.ne_of_lt (Nat.lt_of_lt_of_le (Heap.lt_size e) I.ok.above))).trans e1⟩
  ·by_cases hj : j = i
   ·subst hj
    rw [hi] at e1; cases e1
    rw [List.getElem?_set_self hiσ] at e2
    cases e2
    exact ⟨u,r,.inl ⟨hk,by simp⟩⟩
   ·rw [List.getElem?_set_ne (Ne.symm hj)] at e2
    obtain ⟨u',r',q⟩ := hl j y v' e1 e2 e3
    refine ⟨u',r',?_⟩
    rcases q with ⟨k,e⟩ | ⟨k,c,e,z⟩
    ·refine .inl ⟨k,?_⟩
     have : y ≠ x := fun e => hj (a6b hN e1 (e ▸ hi))
     simp [this,e]
    ·exact .inr ⟨k,c,e,z.sameBut hs (cne y c e)⟩
  ·obtain ⟨w',z⟩ := I.cell y c e
   exact ⟨w',z.sameBut hs (cne y c e)⟩
  ·obtain ⟨e,n,ne,nf,d⟩ := I.pin p hp
   exact ⟨(hs.2 p.1 ne).trans e,n,ne,nf,d⟩
 ·have hfn : X.fn x = true:= by
   rcases hf with z | z
   ·exact z
   ·rw [z] at hk; cases hk
  obtain ⟨c,hc⟩ := I.ok.has x (.inl hk)
  obtain ⟨w',z⟩ := I.cell x c hc
  refine wpAny_storeName_cell I.ok.kind hk hc z (fun h' hc' hs => ?_)
  obtain ⟨oc,hoc,hocd⟩ := id z
  refine h { s with heap := h' } ⟨I.ok,I.os,I.bare,⟨fun b o e n hb hx => ?_,fun b o e n hb hx => ?_,I.base.free,fun b o e hx => ?_,I.base.tups,I.base.frzs,I.base.tbls⟩,⟨m,hn.sameBut hs (Ne.symm (cne x c hc)),fun j y v' e1 e2 e3 => ?_⟩,fun y c' e => ?_,I.free,I.freeC,fun p hp => ?_,tracked ⟨oc,hoc,I.freeC x c hc⟩ hs,by simpa using I.len⟩ ⟨c,hs,.inr hc⟩
  ·exact (hs.2 b (Nat.ne_of_lt (Nat.lt_of_lt_of_le (Heap.lt_size e) (I.ok.cab x c hfn hc)))).trans (I.base.keep b o e n hb hx)
  ·obtain ⟨sl,e1⟩ := I.base.slot b o e n hb hx
   exact ⟨sl,(hs.2 b (Nat.ne_of_lt (Nat.lt_of_lt_of_le (Heap.lt_size e) (I.ok.cab x c hfn hc)))).trans e1⟩
  ·obtain ⟨o',e1⟩ := I.base.there b o e hx
   exact ⟨o',(hs.2 b (Nat.ne_of_lt (Nat.lt_of_lt_of_le (Heap.lt_size e) (I.ok.cab x c hfn hc)))).trans e1⟩
  ·by_cases hj : j = i
   ·subst hj
    rw [hi] at e1; cases e1
    rw [List.getElem?_set_self hiσ] at e2
    cases e2
    exact ⟨u,r,.inr ⟨.inl hk,c,hc,hc'⟩⟩
   ·rw [List.getElem?_set_ne (Ne.symm hj)] at e2
    obtain ⟨u',r',q⟩ := hl j y v' e1 e2 e3
    refine ⟨u',r',?_⟩
    rcases q with q | ⟨k,c',e,z'⟩
    ·exact .inl q
    ·refine .inr ⟨k,c',e,z'.sameBut hs ?_⟩
     rintro rfl
     exact hj (a6b hN e1 (I.ok.inj _ _ _ e hc ▸ hi))
  ·by_cases hcc : c' = c
   ·subst hcc; exact ⟨_,hc'⟩
   ·obtain ⟨w2,z2⟩ := I.cell y c' e
    exact ⟨w2,z2.sameBut hs hcc⟩
  ·obtain ⟨e,n,ne,nf,d⟩ := I.pin p hp
   refine ⟨(hs.2 p.1 ?_).trans e,n,ne,nf,d⟩
   intro q
   rw [q,hoc] at e
   have q' : oc = p.2 := Option.some.inj e
   exact d w' (by rw [← q']; exact hocd)
theorem a0N {M : Model} {A : Around} {E : Value → Shared → Prop} {i : Nat} {x : Str} {v : V} {u : Value} {Q : Unit → Shared → Prop} (I : Inv X pins σ H s) (hN : X.N.Nodup) (hi : X.N[i]? = some x) (hx : Loc X.env.scope x) (r : RelV v u)
  (h : ∀ s',Inv X pins (σ.set i (some v)) H s' → Q () s') (hf : X.fn x = true ∨ X.env.scope.names.lookup x = some .local := by first | exact .inl rfl | exact .inr rfl | assumption) : wpAny M A (storeName X.env x u) Q E s:=
 a9R I hN hi hx r (fun s' I' _ => h s' I') hf
theorem Inv.call' {s' : Shared} {ch : List Addr} (I : Inv X pins σ H s) (ho : s'.os = s.os) (u : Un (frs X.stack) ch H H' s.heap s'.heap) (hok : HOk X.prog X.w H' s'.heap) (hg : AllBare s'.gens)
  (hch : ∀ b ∈ ch,(b ∈ X.ex ∨ X.s₀.heap.objs.size ≤ b) ∧ b ≠ X.env.locals ∧ (∀ x c,X.env.cells.lookup x = some c → c ≠ b) ∧ ∀ p ∈ X.pn ++ pins,p.1 ≠ b) : Inv X pins σ H' s':= by
 obtain ⟨h',g',d',t',o'⟩ := s'
 have e : o' = s.os := ho
 subst e
 exact I.call (g' := g') (t' := t') (d' := d') u hok hg hch
end
abbrev XK := Value → Option Addr → Hp → Prop
abbrev St := List (Option V)
abbrev VK := V → Hp → Prop
abbrev TE := St → Hp → VK → Prop
abbrev TT := St → Hp → (Bool → Hp → Prop) → Prop
abbrev TA := St → Hp → (List V → Hp → Prop) → Prop
structure Ends where
 nx : St → Hp → Prop
 rt : VK
 bk : St → Hp → Prop := fun _ _ => False
 ct : St → Hp → Prop := fun _ _ => False
abbrev TS := Ends → St → Hp → Prop
def EP (X : Cx) (pins : List (Addr × Obj)) (σ : St) (Q : VK) (u : Value) (s' : Shared) : Prop := ∃ v H',Inv X pins σ H' s' ∧ RelV v u ∧ Q v H'
def TP (X : Cx) (pins : List (Addr × Obj)) (σ : St) (Q : Bool → Hp → Prop) (b : Bool) (s' : Shared) : Prop := ∃ H',Inv X pins σ H' s' ∧ Q b H'
def AP (X : Cx) (pins : List (Addr × Obj)) (σ : St) (Q : List V → Hp → Prop) (us : List Value) (s' : Shared) : Prop := ∃ vs H',Inv X pins σ H' s' ∧ Vals vs us ∧ Q vs H'
def SP (X : Cx) (pins : List (Addr × Obj)) (D : Ends) (f : Flow) (s' : Shared) : Prop:=
 match f with
 | .next => ∃ σ' H',Inv X pins σ' H' s' ∧ D.nx σ' H'
 | .brk => ∃ σ' H',Inv X pins σ' H' s' ∧ D.bk σ' H'
 | .cont => ∃ σ' H',Inv X pins σ' H' s' ∧ D.ct σ' H'
 | .ret u => ∃ v σ' H',Inv X pins σ' H' s' ∧ RelV v u ∧ D.rt v H'
def PE (X : Cx) (e : Expr) (t : TE) : Prop:=
 ∀ (pins : List (Addr × Obj)) (s : Shared) (σ : St) (H : Hp) (Q : VK),Inv X pins σ H s → t σ H Q → wpAny (model X.prog X.w) X.A (eval e X.env) (EP X pins σ Q) X.xe s
def PT (X : Cx) (e : Expr) (t : TT) : Prop:=
 ∀ (pins : List (Addr × Obj)) (s : Shared) (σ : St) (H : Hp) (Q : Bool → Hp → Prop),Inv X pins σ H s → t σ H Q → wpAny (model X.prog X.w) X.A (isTrue e X.env (eval e X.env)) (TP X pins σ Q) X.xe s
def PW (X : Cx) (e : Expr) (t : TT) : Prop:=
 ∀ (whole : Sem Value) (pins : List (Addr × Obj)) (s : Shared) (σ : St) (H : Hp) (Q : Bool → Hp → Prop),Inv X pins σ H s → t σ H Q → wpAny (model X.prog X.w) X.A (isTrue e X.env whole) (TP X pins σ Q) X.xe s
theorem PW.pt {X : Cx} {e : Expr} {t : TT} (h : PW X e t) : PT X e t := h _
def PA (X : Cx) (es : List Expr) (t : TA) : Prop:=
 ∀ (pos : Pos) (pins : List (Addr × Obj)) (s : Shared) (σ : St) (H : Hp) (Q : List V → Hp → Prop),Inv X pins σ H s → t σ H Q → wpAny (model X.prog X.w) X.A (spliced (backTo pos (starEach es X.env))) (AP X pins σ Q) X.xe s
def PS (X : Cx) (st : Stmt) (t : TS) : Prop:=
 ∀ (pins : List (Addr × Obj)) (s : Shared) (σ : St) (H : Hp) (D : Ends),Inv X pins σ H s → t D σ H → wpAny (model X.prog X.w) X.A (exec st X.env) (SP X pins D) X.xe s
def PSs (X : Cx) (st : List Stmt) (t : TS) : Prop:=
 ∀ (pins : List (Addr × Obj)) (s : Shared) (σ : St) (H : Hp) (D : Ends),Inv X pins σ H s → t D σ H → wpAny (model X.prog X.w) X.A (execs st X.env) (SP X pins D) X.xe s
theorem thn {α : Type} {t : Sem α} {Q Q' : α → Shared → Prop} {M : Model} {A : Around} {E : Value → Shared → Prop} {s : Shared} (h : wpAny M A t Q E s) (hQ : ∀ a s,Q a s → Q' a s) : wpAny M A t Q' E s := wpAny_mono h hQ fun _ _ x => x
section
variable {X : Cx}
def P6 (i : Nat) : TE := fun σ H Q => ∃ v,σ[i]? = some (some v) ∧ Q v H
def tC (v : V) : TE := fun _ H Q => Q v H
theorem a9k {i : Nat} {x : Str} {pos : Pos} (hN : X.N[i]? = some x) (hv : Vis X.env.scope x) (hd : (x == ("__debug__" : Str)) = false := by decide) (hcd : (x == ("__classdict__" : Str)) = false := by decide) : PE X (.Name x pos) (P6 i):= by
 intro pins s σ H Q I h
 obtain ⟨v,e,h⟩ := h
 obtain ⟨m,hn,hl⟩ := I.loc
 obtain ⟨u,r,l⟩ := hl i x v hN e hv
 have fin : EP X pins σ Q u s := ⟨v,H,I,r,h⟩
 rcases l with ⟨hk,hm⟩ | ⟨hk,c,hc,hcell⟩
 ·exact wpAny_Name (wpAny_loadName_local I.ok.kind hk hn hm fin) hd
 ·rcases hk with hk | hk
  ·exact wpAny_Name (wpAny_loadName_cell I.ok.kind hk hc hcell fin) hd
  ·exact wpAny_Name (wpAny_loadName_free I.ok.kind hk hc hcell fin hcd) hd
theorem X2 {i j pos} : PE X (.Constant (.int i) j pos) (tC (.int i)) := fun _ _ _ H _ I h => wpAny_Constant_int ⟨.int i,H,I.tok _,⟨_,rfl⟩,h⟩
theorem a99 {b j pos} : PE X (.Constant (.bool b) j pos) (tC (.bl b)) := fun _ _ _ H _ I h => Constant_bool ⟨.bl b,H,I,rfl,h⟩
theorem a7M {j pos} : PE X (.Constant .none j pos) (tC .non) := fun _ _ _ H _ I h => Constant_none ⟨.non,H,I,rfl,h⟩
theorem a8N {x j pos} : PE X (.Constant (.str x) j pos) (tC (.str x)) := fun _ _ _ H _ I h => Calls.Constant_str ⟨.str x,H,I.tok _,⟨_,rfl⟩,h⟩
def Gl (X : Cx) (x : Str) : Prop := X.env.kindOf x = some .globalImplicit
theorem b2R {E : Value → Shared → Prop} {pins : List (Addr × Obj)} {s : Shared} {σ : St} {H : Hp} {x : Str} {u : Value} {pos : Pos} {Q : Value → Shared → Prop} (I : Inv X pins σ H s) (hg : Gl X x) (hm : X.mg x = some u) (h : Q u s)
  (hd : (x == ("__debug__" : Str)) = false := by decide) : wpAny (model X.prog X.w) X.A (eval (.Name x pos) X.env) Q E s:=
 Calls.Name_function_global I.ok.kind hg (Calls.loadGlobal_global (by rw [I.ok.glob]; exact I.mod.glob.keeps I.bk) hm h) hd
theorem S7 {E : Value → Shared → Prop} {pins : List (Addr × Obj)} {s : Shared} {σ : St} {H : Hp} {x : Str} {u : Value} {pos : Pos} {Q : Value → Shared → Prop} (I : Inv X pins σ H s) (hg : Gl X x) (hm : X.mg x = none) (hv : bootBuiltins x = some u) (h : Q u s)
  (hn : x ≠ "__name__" := by decide) (hd : (x == ("__debug__" : Str)) = false := by decide) : wpAny (model X.prog X.w) X.A (eval (.Name x pos) X.env) Q E s:= by
 obtain ⟨mb,h1,h2⟩ := I.mod.blt
 exact Calls.Name_function_global I.ok.kind hg (Calls.loadGlobal_builtin (by rw [I.ok.glob]; exact I.mod.glob.keeps I.bk) hm (by rw [I.ok.blt]; exact h1.keeps I.bk) ((h2 x hn).trans hv) h) hd
variable {a b : Expr} {ta tb : TE} {pos : Pos}
variable {tA tB' : TT} {rest : List Expr}
def b04 (t u : TT) : TT := fun σ H Q => t σ H fun c H1 => if c = true then u σ H1 Q else Q false H1
def tOr (t u : TT) : TT := fun σ H Q => t σ H fun c H1 => if c = true then Q true H1 else u σ H1 Q
def b1f (t : TT) : TT := fun σ H Q => t σ H fun c H1 => Q (!c) H1
theorem a8f (ha : PT X a tA) : PW X (.BoolOp .And [a] pos) tA:= by
 intro wh pins s σ H Q I h
 refine isTrue_and (thn (ha pins s σ H Q I h) fun c s1 e => ?_)
 cases c with
 | true => exact isTrue_and_nil e
 | false => exact e
theorem a9e (ha : PT X a tA) : PW X (.BoolOp .Or [a] pos) tA:= by
 intro wh pins s σ H Q I h
 refine isTrue_or (thn (ha pins s σ H Q I h) fun c s1 e => ?_)
 cases c with
 | false => exact isTrue_or_nil e
 | true => exact e
theorem b4b (ha : PT X a tA) (hb : PW X (.BoolOp .And (b :: rest) pos) tB') : PW X (.BoolOp .And (a :: b :: rest) pos) (b04 tA tB'):= by
 intro wh pins s σ H Q I h
 refine isTrue_and (thn (ha pins s σ H _ I h) fun c s1 ⟨H1,I1,q1⟩ => ?_)
 cases c with
 | true => exact hb wh pins s1 σ H1 Q I1 q1
 | false => exact ⟨H1,I1,q1⟩
theorem b1z (ha : PT X a tA) (hb : PW X (.BoolOp .Or (b :: rest) pos) tB') : PW X (.BoolOp .Or (a :: b :: rest) pos) (tOr tA tB'):= by
 intro wh pins s σ H Q I h
 refine isTrue_or (thn (ha pins s σ H _ I h) fun c s1 ⟨H1,I1,q1⟩ => ?_)
 cases c with
 | true => exact ⟨H1,I1,q1⟩
 | false => exact hb wh pins s1 σ H1 Q I1 q1
theorem b3v (ha : PT X a tA) : PT X (.UnaryOp .Not a pos) (b1f tA):= by
 intro pins s σ H Q I h
 exact isTrue_not (ha pins s σ H (fun c H1 => Q (!c) H1) I h)
def a84 (ta tb : TE) : TE := fun σ H Q => ta σ H fun x H1 => ∃ c,x = .bl c ∧ if c = true then tb σ H1 Q else Q (.bl false) H1
def a82 (ta tb : TE) : TE := fun σ H Q => ta σ H fun x H1 => ∃ c,x = .bl c ∧ if c = true then Q (.bl true) H1 else tb σ H1 Q
def b4i (ta : TE) : TE := fun σ H Q => ta σ H fun x H1 => ∃ c,x = .bl c ∧ Q (.bl (!c)) H1
theorem a9s {op} {t : TE} (h : PE X a t) : PE X (.BoolOp op [a] pos) t := fun pins s σ H Q I hw => BoolOp_one (h pins s σ H Q I hw)
theorem b1h (ha : PE X a ta) (hb : PE X (.BoolOp .And (b :: rest) pos) tb) : PE X (.BoolOp .And (a :: b :: rest) pos) (a84 ta tb):= by
 intro pins s σ H Q I h
 refine BoolOp_and (thn (ha pins s σ H _ I h) fun v s1 ⟨x,H1,I1,r1,q1⟩ => ?_)
 obtain ⟨c,rfl,q1⟩ := q1
 cases r1
 refine wpAny_truthy_bool ?_
 cases c with
 | true => exact hb pins s1 σ H1 Q I1 q1
 | false => exact ⟨.bl false,H1,I1,rfl,q1⟩
theorem b2q (ha : PE X a ta) (hb : PE X (.BoolOp .Or (b :: rest) pos) tb) : PE X (.BoolOp .Or (a :: b :: rest) pos) (a82 ta tb):= by
 intro pins s σ H Q I h
 refine BoolOp_or (thn (ha pins s σ H _ I h) fun v s1 ⟨x,H1,I1,r1,q1⟩ => ?_)
 obtain ⟨c,rfl,q1⟩ := q1
 cases r1
 refine wpAny_truthy_bool ?_
 cases c with
 | false => exact hb pins s1 σ H1 Q I1 q1
 | true => exact ⟨.bl true,H1,I1,rfl,q1⟩
theorem b0g (ha : PE X a ta) : PE X (.UnaryOp .Not a pos) (b4i ta):= by
 intro pins s σ H Q I h
 refine UnaryOp_ (thn (ha pins s σ H _ I h) fun v s1 ⟨x,H1,I1,r1,q1⟩ => ?_)
 obtain ⟨c,rfl,q1⟩ := q1
 cases r1
 exact not_of (wpAny_truthy_bool ⟨.bl (!c),H1,I1,rfl,q1⟩)
def tIf (t : TT) (ta tb : TE) : TE := fun σ H Q => t σ H fun c H1 => if c = true then ta σ H1 Q else tb σ H1 Q
theorem b2X {c : Expr} (hc : PT X c tA) (ha : PE X a ta) (hb : PE X b tb) : PE X (.IfExp c a b pos) (tIf tA ta tb):= by
 intro pins s σ H Q I h
 refine wpAny_IfExp (thn (hc pins s σ H _ I h) fun d s1 ⟨H1,I1,q1⟩ => ?_)
 cases d with
 | true => exact ha pins s1 σ H1 Q I1 q1
 | false => exact hb pins s1 σ H1 Q I1 q1
end
def SqL (K : PySem.W.Frag) (H : Hp) (a : Addr) (xs : List V) : Prop:=
 Rd H a (.lst xs) ∨
  ∃ (o : Obj) (its : Array Value) (n : Nat),K.lookup a = some o ∧ o.cls = .type "list" ∧ o.dict = none ∧ o.data = .seq its n ∧ its.size ≤ sizeLine ∧ Vals xs its.toList
def SqT (K : PySem.W.Frag) (H : Hp) (a : Addr) (xs : List V) : Prop:=
 Rd H a (.tup xs) ∨
  ∃ (o : Obj) (its : Array Value) (n : Nat),K.lookup a = some o ∧ o.cls = .type "tuple" ∧ o.data = .seq its n ∧ its.size ≤ sizeLine ∧ Vals xs its.toList
def a90 : Value → Option V
 | .none => some .non
 | .bool b => some (.bl b)
 | .int i _ => some (.int i)
 | .str x _ => some (.str x)
 | .bytes b _ => some (.byt b)
 | .float b _ => some (.flt b)
 | .ref a => some (.ref a)
 | .type n => some (.ty n)
 | _ => none
theorem RelV.abs {x : V} {u : Value} (r : RelV x u) : a90 u = some x:= by
 cases x with
 | non => cases r; rfl
 | bl _ => cases r; rfl
 | int _ => obtain ⟨t,rfl⟩ := r; rfl
 | str _ => obtain ⟨t,rfl⟩ := r; rfl
 | byt _ => obtain ⟨t,rfl⟩ := r; rfl
 | flt _ => obtain ⟨t,rfl⟩ := r; rfl
 | ref _ => cases r; rfl
 | ty _ => cases r; rfl
theorem RelV.inj {x y : V} {u : Value} (r : RelV x u) (q : RelV y u) : x = y := Option.some.inj (r.abs.symm.trans q.abs)
theorem Vals.inj : ∀ {xs ys : List V} {us : List Value},Vals xs us → Vals ys us → xs = ys:= by
 intro xs ys us h
 induction h generalizing ys with
 | nil=>
  intro h2
  cases h2
  rfl
 | cons r t ih=>
  intro h2
  cases h2 with
  | cons r' t' => rw [r.inj r',ih t']
section
variable {X : Cx} {pins : List (Addr × Obj)} {σ : St} {H : Hp} {s : Shared} {a : Addr} {xs ys : List V}
theorem SqL.of {K : PySem.W.Frag} (h : H a = some (.lst xs)) : SqL K H a xs := .inl (.inl h)
theorem SqT.of {K : PySem.W.Frag} (h : H a = some (.tup xs)) : SqT K H a xs := .inl (.inl h)
theorem Inv.list (I : Inv X pins σ H s) (h : SqL X.K H a xs) : ∃ its : List Value,Vals xs its ∧ PlainL s.heap a its.toArray ∧ xs.length ≤ sizeLine:= by
 rcases h with h | ⟨o,its,n,hk,hc,hd,hs,hz,r⟩
 ·obtain ⟨z,its,n,r,e⟩ := h.ok I.hok
  exact ⟨its,r,⟨_,n,e,rfl,rfl,rfl⟩,z⟩
 ·refine ⟨its.toList,r,⟨o,n,I.kIn a o hk,hc,hd,by simpa using hs⟩,?_⟩
  have e := r.length
  simp only [Array.length_toList] at e
  omega
theorem Inv.tuple (I : Inv X pins σ H s) (h : SqT X.K H a xs) : ∃ its : List Value,Vals xs its ∧ IsTup s.heap a its.toArray ∧ xs.length ≤ sizeLine:= by
 rcases h with h | ⟨o,its,n,hk,hc,hs,hz,r⟩
 ·obtain ⟨z,its,r,p⟩ := h.ok I.hok
  exact ⟨its,r,p,z⟩
 ·refine ⟨its.toList,r,⟨o,I.kIn a o hk,hc,n,by simpa using hs⟩,?_⟩
  have e := r.length
  simp only [Array.length_toList] at e
  omega
theorem Inv.list_inj (I : Inv X pins σ H s) (h : SqL X.K H a xs) (h' : SqL X.K H a ys) : xs = ys:= by
 obtain ⟨its,r,⟨o,n,e,_,_,d⟩,_⟩ := I.list h
 obtain ⟨its',r',⟨o',n',e',_,_,d'⟩,_⟩ := I.list h'
 rw [e] at e'; cases e'
 rw [d] at d'
 injection d' with d1 _
 have : its = its' := by simpa using congrArg Array.toList d1
 subst this
 exact r.inj r'
theorem Inv.tuple_inj (I : Inv X pins σ H s) (h : SqT X.K H a xs) (h' : SqT X.K H a ys) : xs = ys:= by
 obtain ⟨its,r,⟨o,e,_,n,d⟩,_⟩ := I.tuple h
 obtain ⟨its',r',⟨o',e',_,n',d'⟩,_⟩ := I.tuple h'
 rw [e] at e'; cases e'
 rw [d] at d'
 injection d' with d1 _
 have : its = its' := by simpa using congrArg Array.toList d1
 subst this
 exact r.inj r'
end
abbrev Cx.wish (X : Cx) (E : Value → Shared → Prop) : Cx := { X with xe := E }
abbrev Cx.nox (X : Cx) : Cx := X.wish fun _ _ => False
theorem Cx.Ok.wish {X : Cx} (ok : X.Ok) (E : Value → Shared → Prop) : (X.wish E).Ok:=
 ⟨ok.mod,ok.kind,ok.glob,ok.blt,ok.above,ok.inj,ok.has,ok.cab,ok.hd,ok.frames,ok.stk,ok.exf,ok.bs,ok.bsz,ok.noex,ok.exfs,ok.funs,ok.frf⟩
theorem Cx.Ok.unwish {X : Cx} {E : Value → Shared → Prop} (ok : (X.wish E).Ok) : X.Ok:=
 ⟨ok.mod,ok.kind,ok.glob,ok.blt,ok.above,ok.inj,ok.has,ok.cab,ok.hd,ok.frames,ok.stk,ok.exf,ok.bs,ok.bsz,ok.noex,ok.exfs,ok.funs,ok.frf⟩
section
variable {X : Cx} {pins : List (Addr × Obj)} {σ : St} {H : Hp} {s : Shared} {E : Value → Shared → Prop}
theorem Inv.wish (I : Inv X pins σ H s) (E : Value → Shared → Prop) : Inv (X.wish E) pins σ H s := ⟨I.ok.wish E,I.os,I.bare,I.base,I.loc,I.cell,I.free,I.freeC,I.pin,I.hok,I.len⟩
theorem Inv.unwish (I : Inv (X.wish E) pins σ H s) : Inv X pins σ H s := ⟨I.ok.unwish,I.os,I.bare,I.base,I.loc,I.cell,I.free,I.freeC,I.pin,I.hok,I.len⟩
theorem SP.unwish {D : Ends} {f : Flow} {s' : Shared} (h : SP (X.wish E) pins D f s') : SP X pins D f s':= by
 cases f with
 | next => obtain ⟨σ',H',I,q⟩ := h; exact ⟨σ',H',I.unwish,q⟩
 | brk => obtain ⟨σ',H',I,q⟩ := h; exact ⟨σ',H',I.unwish,q⟩
 | cont => obtain ⟨σ',H',I,q⟩ := h; exact ⟨σ',H',I.unwish,q⟩
 | ret u => obtain ⟨v,σ',H',I,r,q⟩ := h; exact ⟨v,σ',H',I.unwish,r,q⟩
theorem PSs.nox {st : List Stmt} {t : TS} (h : PSs X.nox st t) : PSs X st t := fun pins s σ H D I hw=>
 wpAny_mono (h pins s σ H D (I.wish _) hw) (fun _ _ q => q.unwish) fun _ _ z => False.elim z
end
section
variable {X : Cx} {st : Stmt} {rest : List Stmt} {t u : TS} {e : Expr} {te : TE} {pos : Pos}
def b1E : TS := fun D σ H => D.nx σ H
def b1Y (t u : TS) : TS := fun D σ H => t { D with nx := u D } σ H
theorem b2S : PSs X [] b1E := fun _ _ σ H _ I h => wpAny_execs_nil ⟨σ,H,I,h⟩
theorem b0s (h1 : PS X st t) (h2 : PSs X rest u) : PSs X (st :: rest) (b1Y t u):= by
 intro pins s σ H D I h
 refine wpAny_execs_cons (thn (h1 pins s σ H { D with nx := u D } I h) fun f s1 q => ?_)
 cases f with
 | next=>
  obtain ⟨σ',H',I',q⟩ := q
  exact h2 pins s1 σ' H' D I' q
 | ret v => exact q
 | brk => exact q
 | cont => exact q
theorem b4p (h1 : PS X st t) : PSs X [st] t:= by
 intro pins s σ H D I h
 refine wpAny_execs_cons (thn (h1 pins s σ H D I h) fun f s1 q => ?_)
 cases f with
 | next => exact wpAny_execs_nil q
 | ret v => exact q
 | brk => exact q
 | cont => exact q
theorem Inv.quiet {pins : List (Addr × Obj)} {σ : St} {H : Hp} {s : Shared} (I : Inv X pins σ H s) : interactive X.env = false := by simp [interactive,I.ok.kind]
def a9u (te : TE) : TS := fun D σ H => te σ H fun _ H1 => D.nx σ H1
theorem a4n (he : PE X e te) (hs : swapsWith e none pos.line X.env = pure false := by rfl) : PS X (.Expr e pos) (a9u te):= by
 intro pins s σ H D I h
 exact wpAny_Expr_any (thn (he pins s σ H _ I h) fun v s1 ⟨x,H1,I1,r1,q1⟩ => ⟨σ,H1,I1,q1⟩) I.quiet hs
def b2s (te : TE) : TS := fun D σ H => te σ H D.rt
theorem a8g (he : PE X e te) : PS X (.Return (some e) pos) (b2s te):= by
 intro pins s σ H D I h
 exact wpAny_Return_some (thn (he pins s σ H _ I h) fun v s1 ⟨x,H1,I1,r1,q1⟩ => ⟨x,σ,H1,I1,r1,q1⟩)
def a80 (c : TT) (t u : TS) : TS := fun D σ H => c σ H fun b H1 => if b = true then t D σ H1 else u D σ H1
theorem b1W {c : Expr} {a b : List Stmt} {tc : TT} (hc : PT X c tc) (ha : PSs X a t) (hb : PSs X b u) : PS X (.If c a b pos) (a80 tc t u):= by
 intro pins s σ H D I h
 refine wpAny_If (thn (hc pins s σ H _ I h) fun d s1 ⟨H1,I1,q1⟩ => ?_)
 cases d with
 | true => exact ha pins s1 σ H1 D I1 q1
 | false => exact hb pins s1 σ H1 D I1 q1
end
abbrev TG := V → St → Hp → (St → Hp → Prop) → Prop
abbrev TGs := List V → St → Hp → (St → Hp → Prop) → Prop
def PG (X : Cx) (target : Expr) (t : TG) : Prop:=
 ∀ (pins : List (Addr × Obj)) (s : Shared) (σ : St) (H : Hp) (v : V) (u : Value) (Q : St → Hp → Prop),Inv X pins σ H s → RelV v u → t v σ H Q →
  wpAny (model X.prog X.w) X.A (assign target X.env u) (fun _ s' => ∃ σ' H',Inv X pins σ' H' s' ∧ Q σ' H') X.xe s
def PGs (X : Cx) (ts : List Expr) (t : TGs) : Prop:=
 ∀ (pins : List (Addr × Obj)) (s : Shared) (σ : St) (H : Hp) (vs : List V) (us : List Value) (Q : St → Hp → Prop),Inv X pins σ H s → Vals vs us → t vs σ H Q →
  wpAny (model X.prog X.w) X.A (assignInOrder ((assignEach ts X.env).map (·.2)) us) (fun _ s' => ∃ σ' H',Inv X pins σ' H' s' ∧ Q σ' H') X.xe s
abbrev a22 := V → V → V → Hp → (Hp → Prop) → Prop
def a48 (X : Cx) (t : a22) : Prop:=
 ∀ (pins : List (Addr × Obj)) (s : Shared) (σ : St) (H : Hp) (o i v : V) (ov iv u : Value) (Q : Hp → Prop),Inv X pins σ H s → RelV o ov → RelV i iv → RelV v u → t o i v H Q →
  wpAny (model X.prog X.w) X.A (setItem ov iv u) (fun _ s' => ∃ H',Inv X pins σ H' s' ∧ Q H') X.xe s
section
variable {X : Cx} {pos : Pos}
def K7 (i : Nat) : TG := fun v σ H Q => Q (σ.set i (some v)) H
theorem o7 {i : Nat} {x : Str} (hN : X.N.Nodup) (hi : X.N[i]? = some x) (hx : Loc X.env.scope x) (hf : X.fn x = true ∨ X.env.scope.names.lookup x = some .local := by first | exact .inl rfl | exact .inr rfl | assumption) : PG X (.Name x pos) (K7 i):= by
 intro pins s σ H v u Q I r h
 exact wpAny_assign_Name (a0N I hN hi hx r (fun s' I' => ⟨_,H,I',h⟩) hf)
def a6B : TGs := fun vs σ H Q => vs = [] ∧ Q σ H
def a2N (t : TG) (u : TGs) : TGs := fun vs σ H Q => ∃ v r,vs = v :: r ∧ t v σ H fun σ' H' => u r σ' H' Q
theorem a60 : PGs X [] a6B:= by
 intro pins s σ H vs us Q I r h
 obtain ⟨e,h⟩ := h
 subst e
 cases r
 exact assignInOrder_nil ⟨σ,H,I,h⟩
theorem a3e {e : Expr} {es : List Expr} {t : TG} {u : TGs} (h1 : PG X e t) (h2 : PGs X es u)
  (hs : (assignEach (e :: es) X.env).map (·.2) = assign e X.env :: (assignEach es X.env).map (·.2) := by rfl) : PGs X (e :: es) (a2N t u):= by
 intro pins s σ H vs us Q I r h
 obtain ⟨v,vr,e1,h⟩ := h
 subst e1
 cases r with
 | cons r rr=>
  rw [hs]
  refine assignInOrder_cons (thn (h1 pins s σ H _ _ _ I r h) fun _ s1 ⟨σ1,H1,I1,q1⟩ => ?_)
  exact h2 pins s1 σ1 H1 _ _ Q I1 rr q1
def a5m (K : PySem.W.Frag) (n : Nat) (t : TGs) : TG := fun v σ H Q => ∃ a xs,v = .ref a ∧ SqT K H a xs ∧ xs.length = n ∧ t xs σ H Q
theorem a4M {es : List Expr} {k : Nat} {t : TGs} {n : Nat} (hc : X.calm = true) (h : PGs X es t)
  (hn : (assignEach es X.env).length = n := by rfl) (hst : (assignEach es X.env).findIdx? (·.1) = none := by rfl) : PG X (.Tuple es k pos) (a5m X.K n t):= by
 intro pins s σ H v u Q I r hw
 obtain ⟨a,xs,e1,hq,hl,hw⟩ := hw
 subst e1
 cases r
 obtain ⟨its,rv,ht,hz⟩ := I.tuple hq
 refine assign_Tuple_tuple (I.ok.hd hc) ht (by simp [hn,← hl,rv.length]) hst fun h' hx => ?_
 have I1 : Inv X pins σ H { s with heap := h' } := I.kept (t' := s.toks) fun b o e => hx b o (Nat.ne_of_lt (Heap.lt_size e)) e
 exact h pins _ σ H xs _ Q I1 (by simpa using rv) hw
def b0a (to ti : TE) (t : a22) : TG := fun v σ H Q => to σ H fun o H1 => ti σ H1 fun i H2 => t o i v H2 fun H3 => Q σ H3
theorem a9N {o i : Expr} {to ti : TE} {t : a22} (ho : PE X o to) (hi : PE X i ti) (hs : a48 X t)
  (ha : ∀ v,assign (.Subscript o i pos) X.env v = (do
   let ov ← holding [v] (eval o X.env)
   let iv ← holding [v,ov] (eval i X.env)
   standAt pos
   holding [v,ov,iv] (setItem ov iv v)
   release [v,ov,iv] []) := by intro _; rfl) : PG X (.Subscript o i pos) (b0a to ti t):= by
 intro pins s σ H v u Q I r h
 rw [ha]
 refine wpAny_bind (wpAny_holding (thn (ho pins s σ H _ I h) fun ov s1 ⟨x,H1,I1,r1,q1⟩ => ?_))
 refine wpAny_bind (wpAny_holding (thn (hi pins s1 σ H1 _ I1 q1) fun iv s2 ⟨y,H2,I2,r2,q2⟩ => ?_))
 refine wpAny_bind (wpAny_standAt (wpAny_bind (wpAny_holding (thn (hs pins s2 σ H2 x y v ov iv u _ I2 r1 r2 r q2) fun _ s3 ⟨H3,I3,q3⟩ => ?_))))
 exact wpAny_release ⟨σ,H3,I3,q3⟩
def Z9 (te : TE) (g : TG) : TS := fun D σ H => te σ H fun x H1 => g x σ H1 D.nx
theorem a5F {tg e : Expr} {te : TE} {g : TG} (he : PE X e te) (hg : PG X tg g) (hs : swapsWithSole [tg] e pos.line X.env = pure false := by rfl) (hw : swappedStores [tg] e X.env = pure none := by rfl)
  (h1 : (assignEach [tg] X.env).map (·.2) = [assign tg X.env] := by rfl) : PS X (.Assign [tg] e pos) (Z9 te g):= by
 intro pins s σ H D I h
 refine wpAny_Assign_stores (thn (he pins s σ H _ I h) fun v s1 ⟨x,H1,I1,r1,q1⟩ => ?_) hs hw
 rw [h1]
 exact thn (hg pins s1 σ H1 x v _ I1 r1 q1) fun _ s2 q => q
theorem a42 {i : Nat} {x : Str} {e : Expr} {te : TE} {pos' : Pos} (hN : X.N.Nodup) (hi : X.N[i]? = some x) (hx : Loc X.env.scope x) (he : PE X e te) (hs : swapsWith e (some (.Name x pos')) pos.line X.env = pure false := by rfl) (hf : X.fn x = true ∨ X.env.scope.names.lookup x = some .local := by first | exact .inl rfl | exact .inr rfl | assumption) :
  PS X (.Assign [.Name x pos'] e pos) (Z9 te (K7 i)):= by
 intro pins s σ H D I h
 refine wpAny_Assign_Name (thn (he pins s σ H _ I h) fun v s1 ⟨y,H1,I1,r1,q1⟩ => ?_) hs
 exact a0N I1 hN hi hx r1 (fun s2 I2 => ⟨_,H1,I2,q1⟩) hf
def a8V (i j : Nat) (ta : TA) : TS := fun D σ H => ta σ H fun vs H1 => ∃ v w,vs = [v,w] ∧ D.nx ((σ.set i (some v)).set j (some w)) H1
theorem b29 {i j : Nat} {x y : Str} {a b : Expr} {ta : TA} {px py pt : Pos} {kt k2 pt2} (hc : X.calm = true) (hN : X.N.Nodup) (hi : X.N[i]? = some x) (hj : X.N[j]? = some y) (hij : i ≠ j)
  (hx : X.env.scope.names.lookup x = some .local) (hy : X.env.scope.names.lookup y = some .local) (ha : PA X [a,b] ta)
  (hw : swappedStores [.Tuple [.Name x px,.Name y py] kt pt] (.Tuple [a,b] k2 pt2) X.env = pure (some [x,y]))
  (hs : swapsWithSole [.Tuple [.Name x px,.Name y py] kt pt] (.Tuple [a,b] k2 pt2) pos.line X.env = pure false := by rfl) :
  PS X (.Assign [.Tuple [.Name x px,.Name y py] kt pt] (.Tuple [a,b] k2 pt2) pos) (a8V i j ta):= by
 intro pins s σ H D I h
 rw [exec_Assign_arm]
 refine wpAny_bind (wpAny_standAt ?_)
 rw [hs]
 refine wpAny_bind (wpAny_pure ?_)
 rw [if_neg (by decide)]
 refine wpAny_bind (Tuple_ (thn (ha _ pins s σ H _ I h) fun us s1 ⟨vs,H1,I1,r1,q1⟩ => ?_))
 obtain ⟨v,w,e1,q1⟩ := q1
 subst e1
 obtain ⟨u1,u2,rfl,rv,rw'⟩ : ∃ u1 u2,us = [u1,u2] ∧ RelV v u1 ∧ RelV w u2:= by
  cases r1 with
  | cons p q=>
   cases q with
   | cons p' q'=>
    cases q'
    exact ⟨_,_,rfl,p,p'⟩
 refine wpAny_newObj_type ?_ (by show 2 ≤ sizeLine; decide)
 have I2 : Inv X pins σ H1 { s1 with heap := s1.heap.push { cls := .type "tuple",data := .seq [u1,u2].toArray } } := I1.kept (t' := s1.toks) fun b o e => Heap.get?_push_of_some _ e
 rw [hw]
 refine wpAny_bind (wpAny_pure ?_)
 show wpAny (model X.prog X.w) X.A (do rule "assign.swapped-stores"; let items ← unpackItems (.ref s1.heap.objs.size) 2 none; assignInOrder [fun v => bindName X.env y v,fun v => bindName X.env x v] items.reverse; pure Flow.next) _ _ _
 refine wpAny_bind (wpAny_rule (wpAny_bind (unpackItems_tuple (items := #[u1,u2]) (I.ok.hd hc) (IsTup.new s1.heap _) fun h' hx' => ?_)))
 have I3 := I2.kept (h' := h') (t' := s1.toks) fun b o e => hx' b o (Nat.ne_of_lt (Heap.lt_size e)) e
 show wpAny _ _ (assignInOrder [fun v => bindName X.env y v,fun v => bindName X.env x v] [u2,u1] >>= fun _ => pure Flow.next) _ _ _
 refine wpAny_bind (assignInOrder_cons (wpAny_bindName (a0N I3 hN hj (.inl hy) rw' (fun s2 I4 => ?_) (.inr hy))))
 refine assignInOrder_cons (wpAny_bindName (a0N I4 hN hi (.inl hx) rv (fun s3 I5 => assignInOrder_nil (wpAny_pure ?_)) (.inr hx)))
 rw [List.set_comm _ _ (Ne.symm hij)] at I5
 exact ⟨_,H1,I5,q1⟩
end
section
variable {X : Cx} {pos : Pos}
def a8l (c : TT) (tb : TS) : TS := fun D σ H => ∃ W : Nat → St → Hp → Prop,(∃ m,W m σ H) ∧ ∀ m σ H,W m σ H →
 c σ H fun b H1 => if b = true then ∃ N : St → Hp → Prop,(∀ σ' H',N σ' H' → ∃ m',m' < m ∧ W m' σ' H') ∧ tb { D with nx := N,ct := N,bk := D.nx } σ H1 else D.nx σ H1
theorem b3q {c : Expr} {body : List Stmt} {tc : TT} {tb : TS} (hp : PassesOwn (model X.prog X.w) X.A X.env X.xe) (hc : PT X c tc) (hb : PSs X body tb) : PS X (.While c body [] pos) (a8l tc tb):= by
 intro pins s σ H D I h
 obtain ⟨W,⟨m0,w0⟩,turn⟩ := h
 refine wpAny_While (codeAny_whileLoop (fun n s' => ∃ σ' H',Inv X pins σ' H' s' ∧ W n σ' H') ?_ m0 ⟨σ,H,I,w0⟩)
 rintro n s1 ⟨σ1,H1,I1,w1⟩
 refine wpAny_passesOwn hp (thn (hc pins s1 σ1 H1 _ I1 (turn n σ1 H1 w1)) fun b s2 ⟨H2,I2,q2⟩ => ?_)
 cases b with
 | true=>
  obtain ⟨N,hN,q2⟩ := q2
  rw [if_pos rfl]
  refine wpAny_passesOwn hp (thn (hb pins s2 σ1 H2 _ I2 q2) fun f s3 q3 => ?_)
  cases f with
  | next=>
   obtain ⟨σ3,H3,I3,n3⟩ := q3
   obtain ⟨m',hm,w3⟩ := hN σ3 H3 n3
   exact ⟨m',hm,σ3,H3,I3,w3⟩
  | cont=>
   obtain ⟨σ3,H3,I3,n3⟩ := q3
   obtain ⟨m',hm,w3⟩ := hN σ3 H3 n3
   exact ⟨m',hm,σ3,H3,I3,w3⟩
  | brk => exact q3
  | ret v => exact q3
 | false=>
  rw [if_neg Bool.false_ne_true]
  exact wpAny_execs_nil ⟨σ1,H2,I2,q2⟩
end
structure It where
 go : Nat → Hp → Prop
 yld : Nat → Hp → V → Hp → Prop
 stop : Nat → Hp → Prop
def F8 (X : Cx) (pins : List (Addr × Obj)) (H : Hp) (b : Addr) : Prop:=
 H b = none ∧ b ≠ X.env.locals ∧ b ∉ X.fs ∧ (b ∈ X.ex ∨ X.s₀.heap.objs.size ≤ b) ∧ (∀ x c,X.env.cells.lookup x = some c → c ≠ b) ∧ ∀ p ∈ X.pn ++ pins,p.1 ≠ b
theorem Inv.fpOk {X : Cx} {pins : List (Addr × Obj)} {σ : St} {H H' : Hp} {s : Shared} {b : Addr} (I : Inv X pins σ H s) (hb : s.heap.objs.size ≤ b) (hn : H' b = none) : F8 X pins H' b:= by
 refine ⟨hn,Nat.ne_of_gt (Nat.lt_of_lt_of_le I.lt hb),I.nofs hb,.inr (Nat.le_trans I.sz hb),fun x c e z => ?_,fun p hp z => ?_⟩
 ·obtain ⟨v,q⟩ := I.cell x c e
  exact absurd (Nat.lt_of_lt_of_le q.lt (by rw [z]; exact hb)) (Nat.lt_irrefl _)
 ·exact absurd (Nat.lt_of_lt_of_le (Heap.lt_size (I.pin p hp).1) (by rw [z]; exact hb)) (Nat.lt_irrefl _)
structure Turn (P : Program) (w : World) (K : PySem.W.Frag) (tg : Expr) (J : It) (fp : List Addr) (it : Addr) (tn : Nat → Heap → Prop) : Prop where
 mem : it ∈ fp
 obj : ∀ i h,tn i h → ∀ b ∈ fp,∃ o,h.get? b = some o ∧ ∀ v,o.data ≠ .cell v
 keep : ∀ i h h',tn i h → (∀ b ∈ fp,∀ o,h.get? b = some o → h'.get? b = some o) → tn i h'
 item : ∀ (X : Cx),X.prog = P → X.w = w → X.K = K → X.calm = true → ∀ (i : Nat) (pins : List (Addr × Obj)) (s : Shared) (σ : St) (H : Hp) (E : Value → Shared → Prop),Inv X pins σ H s → (∀ b ∈ fp,F8 X pins H b) → tn i s.heap → J.go i H →
  wpAny (model P w) X.A (pyNext (.ref it)) (fun r s1 => ∃ u,r = some u ∧
   wpAny (model P w) X.A (letOwnedTupleGo tg (.ref it) u) (fun _ s2 => ∃ x H',Inv X pins σ H' s2 ∧ RelV x u ∧ J.yld i H x H' ∧ tn (i + 1) s2.heap ∧ ∀ b ∈ fp,H' b = none) E s1) E s
 done : ∀ (X : Cx),X.prog = P → X.w = w → X.K = K → X.calm = true → ∀ (i : Nat) (pins : List (Addr × Obj)) (s : Shared) (σ : St) (H : Hp) (E : Value → Shared → Prop),Inv X pins σ H s → (∀ b ∈ fp,F8 X pins H b) → tn i s.heap → J.stop i H →
  wpAny (model P w) X.A (pyNext (.ref it)) (fun r s1 => r = none ∧ Inv X pins σ H s1) E s
 self : ∀ (A : Around) (i : Nat) (s : Shared) (Q : Value → Shared → Prop) (E : Value → Shared → Prop),tn i s.heap → Q (.ref it) s → wpAny (model P w) A (pyIter (.ref it)) Q E s
abbrev TI := St → Hp → (It → Hp → Prop) → Prop
def PIE (X : Cx) (pins : List (Addr × Obj)) (σ : St) (tg : Expr) (R : It → Hp → Prop) (itv : Value) (s2 : Shared) : Prop:=
 ∃ (it : Addr) (fp : List Addr) (tn : Nat → Heap → Prop) (J : It) (H' : Hp),itv = .ref it ∧ Inv X pins σ H' s2 ∧ Turn X.prog X.w X.K tg J fp it tn ∧ tn 0 s2.heap ∧ (∀ b ∈ fp,F8 X pins H' b) ∧ R J H'
def PI (X : Cx) (tg iter : Expr) (wi : TI) : Prop:=
 ∀ (pins : List (Addr × Obj)) (s : Shared) (σ : St) (H : Hp) (R : It → Hp → Prop),Inv X pins σ H s → wi σ H R →
  wpAny (model X.prog X.w) X.A (eval iter X.env) (fun v s1 => wpAny (model X.prog X.w) X.A (pyIter v) (PIE X pins σ tg R) X.xe s1) X.xe s
theorem a3J {M : Model} {A : Around} {E : Value → Shared → Prop} {s : Shared} {tg : Expr} {it : Addr} {u : Value} {o : Obj} {n : String} {vs : Array Value} {Q : Unit → Shared → Prop} (ho : s.heap.get? it = some o) (hc : o.cls = .type n) (hd : o.data = .fields vs)
    (hn : ["enumerate", "zip", "dict_itemiterator", "dict_reverseitemiterator", "odict_iterator", "itertools.zip_longest", "itertools.pairwise"].contains n = false) (hQ : Q () s) : wpAny M A (letOwnedTupleGo tg (.ref it) u) Q E s:= by
  unfold letOwnedTupleGo
  cases tg <;> first
    | exact wpAny_pure hQ
    | (cases u <;> first
        | exact wpAny_pure hQ
        | (refine wpAny_bind (wpAny_load ho ?_)
           rw [hc,hd]
           show wpAny M A (if (["enumerate", "zip", "dict_itemiterator", "dict_reverseitemiterator", "odict_iterator", "itertools.zip_longest", "itertools.pairwise"].contains n && vs[0]? == some (rawInt _)) = true then _ else _) Q E s
           rw [if_neg (by intro h; rw [hn,Bool.false_and] at h; cases h)]
           exact wpAny_pure hQ))
def Itl (K : PySem.W.Frag) (a : Addr) : It:=
 ⟨fun i H => ∃ xs x,SqL K H a xs ∧ xs[i]? = some x,fun i H x H' => H' = H ∧ ∀ xs,SqL K H a xs → xs[i]? = some x,fun i H => ∃ xs,SqL K H a xs ∧ xs.length ≤ i⟩
def Itt (K : PySem.W.Frag) (a : Addr) : It:=
 ⟨fun i H => ∃ xs x,SqT K H a xs ∧ xs[i]? = some x,fun i H x H' => H' = H ∧ ∀ xs,SqT K H a xs → xs[i]? = some x,fun i H => ∃ xs,SqT K H a xs ∧ xs.length ≤ i⟩
def Itr (lo : Int) (n : Nat) : It := ⟨fun i _ => i < n,fun i H x H' => H' = H ∧ x = .int (lo + i),fun i _ => n ≤ i⟩
theorem b3D {P : Program} {w : World} {K : PySem.W.Frag} {tg : Expr} (a it : Addr) : Turn P w K tg (Itl K a) [it] it (fun i h => h.IsListIter it a i) where
 mem := by simp
 obj := fun i h st b hb => by
  have e : b = it := by simpa using hb
  subst e
  obtain ⟨o,e,c,d⟩ := st
  exact ⟨o,e,fun v z => by rw [d] at z; cases z⟩
 keep := fun i h h' st k => st.at fun o e => k it (by simp) o e
 item:= by
  intro X hP hw hK hc i pins s σ H E I hf st hg
  subst hP hw hK
  obtain ⟨xs,x,hq,hx⟩ := hg
  obtain ⟨its,rv,p,hz⟩ := I.list hq
  obtain ⟨u,hu,ru⟩ := rv.get hx
  obtain ⟨f0,f1,f2,f3,f4,f5⟩ := hf it (by simp)
  refine wpAny_pyNext_list_item st p.isList (x := u) (by simpa using hu) fun h' st' sb => ?_
  have I1 : Inv X pins σ H { s with heap := h' } := I.turned (t' := s.toks) (fun b o hb e => (sb.2 b hb).trans e) f0 f1 f3 f4 f5
  obtain ⟨o,e,c,d⟩ := id st'
  exact ⟨u,rfl,a3J (s := { s with heap := h' }) e c d (by decide) ⟨x,H,I1,ru,⟨rfl,fun ys hy => by rw [I.list_inj hy hq]; exact hx⟩,st',fun b hb => (hf b hb).1⟩⟩
 done:= by
  intro X hP hw hK hc i pins s σ H E I hf st hg
  subst hP hw hK
  obtain ⟨xs,hq,hx⟩ := hg
  obtain ⟨its,rv,p,hz⟩ := I.list hq
  obtain ⟨f0,f1,f2,f3,f4,f5⟩ := hf it (by simp)
  have hl := rv.length
  exact wpAny_pyNext_list_end (I.ok.hd hc) st p.isList (by simp; omega) fun h' eb => ⟨rfl,I.turned (t' := s.toks) (fun b o hb e => eb b o hb e) f0 f1 f3 f4 f5⟩
 self := fun _ _ _ _ _ st h => wpAny_pyIter_listiter st h
theorem b1F {P : Program} {w : World} {K : PySem.W.Frag} {tg : Expr} (a it : Addr) : Turn P w K tg (Itt K a) [it] it (fun i h => h.IsTupleIter it a i) where
 mem := by simp
 obj := fun i h st b hb => by
  have e : b = it := by simpa using hb
  subst e
  obtain ⟨o,e,c,d⟩ := st
  exact ⟨o,e,fun v z => by rw [d] at z; cases z⟩
 keep := fun i h h' st k => st.at fun o e => k it (by simp) o e
 item:= by
  intro X hP hw hK hc i pins s σ H E I hf st hg
  subst hP hw hK
  obtain ⟨xs,x,hq,hx⟩ := hg
  obtain ⟨its,rv,p,hz⟩ := I.tuple hq
  obtain ⟨u,hu,ru⟩ := rv.get hx
  obtain ⟨f0,f1,f2,f3,f4,f5⟩ := hf it (by simp)
  refine wpAny_pyNext_tuple_item st (show s.heap.IsTuple a its.toArray from p) (x := u) (by simpa using hu) fun h' st' sb => ?_
  have I1 : Inv X pins σ H { s with heap := h' } := I.turned (t' := s.toks) (fun b o hb e => (sb.2 b hb).trans e) f0 f1 f3 f4 f5
  obtain ⟨o,e,c,d⟩ := id st'
  exact ⟨u,rfl,a3J (s := { s with heap := h' }) e c d (by decide) ⟨x,H,I1,ru,⟨rfl,fun ys hy => by rw [I.tuple_inj hy hq]; exact hx⟩,st',fun b hb => (hf b hb).1⟩⟩
 done:= by
  intro X hP hw hK hc i pins s σ H E I hf st hg
  subst hP hw hK
  obtain ⟨xs,hq,hx⟩ := hg
  obtain ⟨its,rv,p,hz⟩ := I.tuple hq
  obtain ⟨f0,f1,f2,f3,f4,f5⟩ := hf it (by simp)
  have hl := rv.length
  exact wpAny_pyNext_tuple_end (I.ok.hd hc) st (show s.heap.IsTuple a its.toArray from p) (by simp; omega) fun h' eb => ⟨rfl,I.turned (t' := s.toks) (fun b o hb e => eb b o hb e) f0 f1 f3 f4 f5⟩
 self := fun _ _ _ _ _ st h => wpAny_pyIter_tupleiter st h
theorem a8p {P : Program} {w : World} {K : PySem.W.Frag} {tg : Expr} (it : Addr) (lo : Int) (n : Nat) : Turn P w K tg (Itr lo n) [it] it (fun i h => IsRangeIter h it (lo + (i : Nat) * 1) ((n : Int) - (i : Nat)) 1) where
 mem := by simp
 obj := fun i h st b hb => by
  have e : b = it := by simpa using hb
  subst e
  exact ⟨_,st,fun v z => by
   have z' : Data.fields _ = Data.cell v := z
   cases z'⟩
 keep := fun i h h' st k => k it (by simp) _ st
 item:= by
  intro X hP hw hK hc i pins s σ H E I hf st hg
  subst hP hw hK
  obtain ⟨f0,f1,f2,f3,f4,f5⟩ := hf it (by simp)
  have W := Walks.range (prog := X.prog) (w := X.w) (I.ok.hd hc) it lo 1 n
  refine W.item i s _ _ hg st fun v h' tk hv st' kk => ?_
  obtain ⟨t,rfl⟩ := hv
  have I1 : Inv X pins σ H { s with heap := h',toks := tk } := I.turned (fun b o hb e => kk b o (by simpa using hb) e) f0 f1 f3 f4 f5
  refine ⟨_,rfl,a3J (s := { s with heap := h',toks := tk }) (n := "range_iterator") st' rfl rfl (by decide) ⟨.int (lo + i),H,I1,⟨t,?_⟩,⟨rfl,rfl⟩,st',fun b hb => (hf b hb).1⟩⟩
  rw [Int.mul_one]
 done:= by
  intro X hP hw hK hc i pins s σ H E I hf st hg
  subst hP hw hK
  obtain ⟨f0,f1,f2,f3,f4,f5⟩ := hf it (by simp)
  exact wpAny_pyNext_range_end (I.ok.hd hc) st (by have : n ≤ i := hg; omega) fun h' eb => ⟨rfl,I.turned (t' := s.toks) (fun b o hb e => eb b o hb e) f0 f1 f3 f4 f5⟩
 self := fun _ _ _ _ _ st h => wpAny_pyIter_rangeiter st h
section
variable {X : Cx} {tg : Expr}
theorem a5Q {pins : List (Addr × Obj)} {σ : St} {H : Hp} {s : Shared} {R : It → Hp → Prop} {E : Value → Shared → Prop} {lo hi : Int} {t u v : Tok} {tk : Nat} (I : Inv X pins σ H s) (h1 : -(2 ^ 62) ≤ lo) (h2 : lo < 2 ^ 62) (h3 : -(2 ^ 62) ≤ hi) (h4 : hi < 2 ^ 62)
  (q : R (Itr lo (hi - lo).toNat) H) : wpAny (model X.prog X.w) X.A (pyIter (.ref s.heap.objs.size)) (PIE X pins σ tg R) E { s with heap := s.heap.push { cls := .type "range",data := .fields #[.int lo t,.int hi u,.int 1 v] },toks := tk }:= by
 refine wpAny_pyIter_range (IsRange.new ..) (small_one h1 h2 h3 h4) ?_
 have I1 : Inv X pins σ H { s with heap := s.heap.push { cls := .type "range",data := .fields #[.int lo t,.int hi u,.int 1 v] },toks := tk } := I.kept fun b o e => Heap.get?_push_of_some _ e
 refine ⟨(s.heap.push { cls := .type "range",data := .fields #[.int lo t,.int hi u,.int 1 v] }).objs.size,[(s.heap.push { cls := .type "range",data := .fields #[.int lo t,.int hi u,.int 1 v] }).objs.size],_,_,H,rfl,
  I1.kept (t' := tk) fun b o e => Heap.get?_push_of_some _ e,a8p _ lo (hi - lo).toNat,?_,fun b hb => ?_,q⟩
 ·have e1 : lo + ((0 : Nat) : Int) * 1 = lo := by simp
  have e2 : (((hi - lo).toNat : Nat) : Int) - ((0 : Nat) : Int) = Builtin.Range.rangeSize lo hi 1 := by rw [rangeSize_one]; split <;> omega
  show IsRangeIter _ _ (lo + ((0 : Nat) : Int) * 1) ((((hi - lo).toNat : Nat) : Int) - ((0 : Nat) : Int)) 1
  rw [e1,e2]
  exact Heap.get?_push_size _ rfl
 ·have e : b = (s.heap.push { cls := .type "range",data := .fields #[.int lo t,.int hi u,.int 1 v] }).objs.size := by simpa using hb
  subst e
  exact I1.fpOk (Nat.le_refl _) (I1.hok.fresh (Nat.le_refl _))
def a98 (ta : TA) : TI := fun σ H R => ta σ H fun vs H1 => ∃ j : Int,vs = [.int j] ∧ -(2 ^ 62) ≤ j ∧ j < 2 ^ 62 ∧ R (Itr 0 j.toNat) H1
def a9q (ta : TA) : TI := fun σ H R => ta σ H fun vs H1 => ∃ i j : Int,vs = [.int i,.int j] ∧ (-(2 ^ 62) ≤ i ∧ i < 2 ^ 62 ∧ -(2 ^ 62) ≤ j ∧ j < 2 ^ 62) ∧ R (Itr i (j - i).toNat) H1
theorem a5P {a : Expr} {ta : TA} {p pos : Pos} (hg : Gl X "range") (hm : X.mg "range" = none) (ha : PA X [a] ta) (hs : starEach [a] X.env = [(false,eval a X.env)] := by rfl) : PI X tg (.Call (.Name "range" p) [a] [] pos) (a98 ta):= by
 intro pins s σ H R I h
 refine Call_ (S7 I hg hm boot_range (PyProof.Rows.callWith_type1 (thn (ha pos pins s σ H _ I h) fun us s1 ⟨vs,H1,I1,r1,q1⟩ => ?_) hs rfl))
 obtain ⟨j,e,q1,q2,q⟩ := q1
 subst e
 cases r1 with
 | cons r rr=>
  cases rr
  obtain ⟨t,rfl⟩ := r
  exact call_range_1 (a5Q I1 (by omega) (by omega) q1 q2 (by simpa using q))
theorem b2z {a b : Expr} {ta : TA} {p pos : Pos} (hg : Gl X "range") (hm : X.mg "range" = none) (ha : PA X [a,b] ta) (hs : starEach [a,b] X.env = [(false,eval a X.env),(false,eval b X.env)] := by rfl) (hs2 : starEach [b] X.env = [(false,eval b X.env)] := by rfl) :
  PI X tg (.Call (.Name "range" p) [a,b] [] pos) (a9q ta):= by
 intro pins s σ H R I h
 refine Call_ (S7 I hg hm boot_range (PyProof.Rows.callWith_type1 (thn (ha pos pins s σ H _ I h) fun us s1 ⟨vs,H1,I1,r1,q1⟩ => ?_) (by rw [hs,hs2]) (by rw [hs2]; rfl)))
 obtain ⟨i,j,e,⟨q1,q2,q3,q4⟩,q⟩ := q1
 subst e
 cases r1 with
 | cons r rr=>
  cases rr with
  | cons r' rr=>
   cases rr
   obtain ⟨t,rfl⟩ := r
   obtain ⟨t',rfl⟩ := r'
   exact call_range_2 (a5Q I1 q1 q2 q3 q4 q)
def b2w (wi : TI) (g : TG) (tb : TS) : TS := fun D σ H => wi σ H fun J H1 => ∃ W : Nat → Nat → St → Hp → Prop,(∃ m,W 0 m σ H1) ∧ ∀ i m σ H,W i m σ H →
 (J.stop i H ∧ D.nx σ H) ∨ (J.go i H ∧ ∃ N : St → Hp → Prop,(∀ σ' H',N σ' H' → ∃ m',m' < m ∧ W (i + 1) m' σ' H') ∧ ∀ x H',J.yld i H x H' → g x σ H' fun σ2 H2 => tb { D with nx := N,ct := N,bk := D.nx } σ2 H2)
def a0h (fp : List Addr) (h : Heap) : List (Addr × Obj) := fp.filterMap fun b => (h.get? b).map fun o => (b,o)
theorem Y9 {fp : List Addr} {h : Heap} {b : Addr} {o : Obj} (hb : b ∈ fp) (e : h.get? b = some o) : (b,o) ∈ a0h fp h := List.mem_filterMap.mpr ⟨b,hb,by rw [e]; rfl⟩
theorem a8M {fp : List Addr} {h : Heap} {p : Addr × Obj} (hp : p ∈ a0h fp h) : p.1 ∈ fp ∧ h.get? p.1 = some p.2:= by
 obtain ⟨b,hb,e⟩ := List.mem_filterMap.mp hp
 cases q : h.get? b with
 | none => rw [q] at e; cases e
 | some o=>
  rw [q] at e
  have e' : (b,o) = p := Option.some.inj e
  subst e'
  exact ⟨hb,q⟩
theorem Inv.pinned {pins : List (Addr × Obj)} {σ : St} {H : Hp} {s : Shared} {fp : List Addr} (I : Inv X pins σ H s) (hf : ∀ b ∈ fp,F8 X pins H b) (ho : ∀ b ∈ fp,∃ o,s.heap.get? b = some o ∧ ∀ v,o.data ≠ .cell v) : Inv X (pins ++ a0h fp s.heap) σ H s:=
 I.pins_of fun p hp => (List.mem_append.mp hp).elim (fun z => I.pin p (List.mem_append_right _ z)) fun z => by
  obtain ⟨hb,e⟩ := a8M z
  obtain ⟨f0,f1,f2,_⟩ := hf p.1 hb
  obtain ⟨o,e',d⟩ := ho p.1 hb
  rw [e] at e'; cases e'
  exact ⟨e,f0,f1,f2,d⟩
theorem Inv.unpinned {pins pl : List (Addr × Obj)} {σ : St} {H : Hp} {s : Shared} (I : Inv X (pins ++ pl) σ H s) : Inv X pins σ H s := I.pins_of fun p hp => I.pin p (List.mem_append_right _ (List.mem_append_left _ hp))
theorem a0W {iter : Expr} {body : List Stmt} {wi : TI} {g : TG} {tb : TS} {pos : Pos} (hp : PassesOwn (model X.prog X.w) X.A X.env X.xe) (hc : X.calm = true) (hi : PI X tg iter wi) (hg : PG X tg g) (hb : PSs X body tb)
  (hs : ∀ x,foldedSetIterable iter X.env x = pure x := by intro _; rfl) : PS X (.For tg iter body [] pos) (b2w wi g tb):= by
 intro pins s σ H D I h
 refine wpAny_For (thn (hi pins s σ H _ I h) fun v s1 h1 => thn h1 fun itv s2 h2 => ?_) hs
 obtain ⟨it,fp,tn,J,H2,e,I2,T,st2,f2,W,⟨m0,w0⟩,turn⟩ := h2
 subst e
 have stat : ∀ {H' : Hp},(∀ b ∈ fp,H' b = none) → ∀ b ∈ fp,F8 X pins H' b := fun hn b hb => ⟨hn b hb,(f2 b hb).2⟩
 refine codeAny_forLoop_any (fun n s' => ∃ i σ' H',Inv X pins σ' H' s' ∧ tn i s'.heap ∧ (∀ b ∈ fp,H' b = none) ∧ W i n σ' H') ?_ m0 ⟨0,σ,H2,I2,st2,fun b hb => (f2 b hb).1,w0⟩
 rintro n s3 ⟨i,σ3,H3,I3,st3,fr3,w3⟩
 rcases turn i n σ3 H3 w3 with ⟨stop,qn⟩ | ⟨go,N,hN,step⟩
 ·refine wpAny_passesOwn hp (thn (T.done X rfl rfl rfl hc i pins s3 σ3 H3 X.xe I3 (stat fr3) st3 stop) fun r s4 ⟨hr,I4⟩ => ?_)
  subst hr
  exact wpAny_execs_nil ⟨σ3,H3,I4,qn⟩
 ·refine wpAny_passesOwn hp (thn (T.item X rfl rfl rfl hc i pins s3 σ3 H3 X.xe I3 (stat fr3) st3 go) fun r s4 ⟨u,hr,h4⟩ => ?_)
  subst hr
  refine wpAny_passesOwn hp (thn h4 fun _ s5 ⟨x,H5,I5,r5,y5,st5,fr5⟩ => ?_)
  have I5' := I5.pinned (stat fr5) (T.obj _ _ st5)
  refine wpAny_passesOwn hp (thn (hg _ s5 σ3 H5 x u _ I5' r5 (step x H5 y5)) fun _ s6 ⟨σ6,H6,I6,q6⟩ => ?_)
  refine wpAny_passesOwn hp (thn (hb _ s6 σ6 H6 _ I6 q6) fun f s7 q7 => ?_)
  have again : ∀ {σ7 : St} {H7 : Hp},Inv X (pins ++ a0h fp s5.heap) σ7 H7 s7 → N σ7 H7 → ∃ m,m < n ∧ ∃ i σ' H',Inv X pins σ' H' s7 ∧ tn i s7.heap ∧ (∀ b ∈ fp,H' b = none) ∧ W i m σ' H' := fun {σ7 H7} I7 n7 => by
   obtain ⟨m',hm,w7⟩ := hN σ7 H7 n7
   refine ⟨m',hm,i + 1,σ7,H7,I7.unpinned,T.keep _ _ _ st5 fun b hb o e => (I7.pin (b,o) (List.mem_append_right _ (List.mem_append_right _ (Y9 hb e)))).1,fun b hb => ?_,w7⟩
   obtain ⟨o,e,d⟩ := T.obj _ _ st5 b hb
   exact (I7.pin (b,o) (List.mem_append_right _ (List.mem_append_right _ (Y9 hb e)))).2.1
  cases f with
  | next => obtain ⟨σ7,H7,I7,n7⟩ := q7; exact again I7 n7
  | cont => obtain ⟨σ7,H7,I7,n7⟩ := q7; exact again I7 n7
  | brk => obtain ⟨σ7,H7,I7,q7⟩ := q7; exact ⟨σ7,H7,I7.unpinned,q7⟩
  | ret v => obtain ⟨x7,σ7,H7,I7,r7,q7⟩ := q7; exact ⟨x7,σ7,H7,I7.unpinned,r7,q7⟩
end
theorem b1q {K : PySem.W.Frag} {a : Addr} {xs : List V} {g : TG} {tb : TS} {D : Ends} {σ : St} {H : Hp} (Pv : Nat → St → Hp → Prop) (h0 : Pv 0 σ H) (hl : ∀ i σ H,i ≤ xs.length → Pv i σ H → SqL K H a xs)
  (hs : ∀ i x σ H,xs[i]? = some x → Pv i σ H → g x σ H fun σ2 H2 => tb { D with nx := Pv (i + 1),ct := Pv (i + 1),bk := D.nx } σ2 H2) (hd : ∀ σ H,Pv xs.length σ H → D.nx σ H) :
  ∃ W : Nat → Nat → St → Hp → Prop,(∃ m,W 0 m σ H) ∧ ∀ i m σ H,W i m σ H →
   ((Itl K a).stop i H ∧ D.nx σ H) ∨ ((Itl K a).go i H ∧ ∃ N : St → Hp → Prop,(∀ σ' H',N σ' H' → ∃ m',m' < m ∧ W (i + 1) m' σ' H') ∧ ∀ x H',(Itl K a).yld i H x H' → g x σ H' fun σ2 H2 => tb { D with nx := N,ct := N,bk := D.nx } σ2 H2):= by
 refine ⟨fun i m σ H => m = xs.length - i ∧ i ≤ xs.length ∧ Pv i σ H,⟨xs.length,by simp,Nat.zero_le _,h0⟩,?_⟩
 rintro i m σ H ⟨rfl,hi,p⟩
 have q := hl i σ H hi p
 by_cases hlt : i < xs.length
 ·refine .inr ⟨⟨xs,xs[i],q,by simp [hlt]⟩,Pv (i + 1),fun σ' H' p' => ⟨xs.length - (i + 1),by omega,rfl,hlt,p'⟩,fun x H' y => ?_⟩
  obtain ⟨e,y⟩ := y
  subst e
  exact hs i x σ _ (y xs q) p
 ·have e : i = xs.length := by omega
  subst e
  exact .inl ⟨⟨xs,q,Nat.le_refl _⟩,hd σ H p⟩
theorem a1K {K : PySem.W.Frag} {a : Addr} {xs : List V} {g : TG} {tb : TS} {D : Ends} {σ : St} {H : Hp} (Pv : Nat → St → Hp → Prop) (h0 : Pv 0 σ H) (hl : ∀ i σ H,i ≤ xs.length → Pv i σ H → SqT K H a xs)
  (hs : ∀ i x σ H,xs[i]? = some x → Pv i σ H → g x σ H fun σ2 H2 => tb { D with nx := Pv (i + 1),ct := Pv (i + 1),bk := D.nx } σ2 H2) (hd : ∀ σ H,Pv xs.length σ H → D.nx σ H) :
  ∃ W : Nat → Nat → St → Hp → Prop,(∃ m,W 0 m σ H) ∧ ∀ i m σ H,W i m σ H →
   ((Itt K a).stop i H ∧ D.nx σ H) ∨ ((Itt K a).go i H ∧ ∃ N : St → Hp → Prop,(∀ σ' H',N σ' H' → ∃ m',m' < m ∧ W (i + 1) m' σ' H') ∧ ∀ x H',(Itt K a).yld i H x H' → g x σ H' fun σ2 H2 => tb { D with nx := N,ct := N,bk := D.nx } σ2 H2):= by
 refine ⟨fun i m σ H => m = xs.length - i ∧ i ≤ xs.length ∧ Pv i σ H,⟨xs.length,by simp,Nat.zero_le _,h0⟩,?_⟩
 rintro i m σ H ⟨rfl,hi,p⟩
 have q := hl i σ H hi p
 by_cases hlt : i < xs.length
 ·refine .inr ⟨⟨xs,xs[i],q,by simp [hlt]⟩,Pv (i + 1),fun σ' H' p' => ⟨xs.length - (i + 1),by omega,rfl,hlt,p'⟩,fun x H' y => ?_⟩
  obtain ⟨e,y⟩ := y
  subst e
  exact hs i x σ _ (y xs q) p
 ·have e : i = xs.length := by omega
  subst e
  exact .inl ⟨⟨xs,q,Nat.le_refl _⟩,hd σ H p⟩
theorem a6A {lo : Int} {n : Nat} {g : TG} {tb : TS} {D : Ends} {σ : St} {H : Hp} (Pv : Nat → St → Hp → Prop) (h0 : Pv 0 σ H)
  (hs : ∀ i σ H,i < n → Pv i σ H → g (.int (lo + i)) σ H fun σ2 H2 => tb { D with nx := Pv (i + 1),ct := Pv (i + 1),bk := D.nx } σ2 H2) (hd : ∀ σ H,Pv n σ H → D.nx σ H) :
  ∃ W : Nat → Nat → St → Hp → Prop,(∃ m,W 0 m σ H) ∧ ∀ i m σ H,W i m σ H →
   ((Itr lo n).stop i H ∧ D.nx σ H) ∨ ((Itr lo n).go i H ∧ ∃ N : St → Hp → Prop,(∀ σ' H',N σ' H' → ∃ m',m' < m ∧ W (i + 1) m' σ' H') ∧ ∀ x H',(Itr lo n).yld i H x H' → g x σ H' fun σ2 H2 => tb { D with nx := N,ct := N,bk := D.nx } σ2 H2):= by
 refine ⟨fun i m σ H => m = n - i ∧ i ≤ n ∧ Pv i σ H,⟨n,by simp,Nat.zero_le _,h0⟩,?_⟩
 rintro i m σ H ⟨rfl,hi,p⟩
 by_cases hlt : i < n
 ·refine .inr ⟨hlt,Pv (i + 1),fun σ' H' p' => ⟨n - (i + 1),by omega,rfl,hlt,p'⟩,fun x H' y => ?_⟩
  obtain ⟨e,y⟩ := y
  subst e y
  exact hs i σ _ hlt p
 ·have e : i = n := by omega
  subst e
  exact .inl ⟨Nat.le_refl _,hd σ H p⟩
abbrev R2 := V → V → Hp → VK → Prop
def OpR (X : Cx) (f : Value → Value → Sem Value) (r : R2) : Prop:=
 ∀ (pins : List (Addr × Obj)) (s : Shared) (σ : St) (H : Hp) (x y : V) (v u : Value) (Q : VK),Inv X pins σ H s → RelV x v → RelV y u → r x y H Q →
  wpAny (model X.prog X.w) X.A (f v u) (EP X pins σ Q) X.xe s
def UnR (X : Cx) (f : Value → Sem Value) (r : V → Hp → VK → Prop) : Prop:=
 ∀ (pins : List (Addr × Obj)) (s : Shared) (σ : St) (H : Hp) (x : V) (v : Value) (Q : VK),Inv X pins σ H s → RelV x v → r x H Q →
  wpAny (model X.prog X.w) X.A (f v) (EP X pins σ Q) X.xe s
def CallR (X : Cx) (f : Value) (r : List V → Hp → VK → Prop) : Prop:=
 ∀ (pins : List (Addr × Obj)) (s : Shared) (σ : St) (H : Hp) (xs : List V) (us : List Value) (Q : VK),Inv X pins σ H s → Vals xs us → r xs H Q →
  wpAny (model X.prog X.w) X.A (call f us) (EP X pins σ Q) X.xe s
def b3c (X : Cx) (r : V → Hp → (Bool → Hp → Prop) → Prop) : Prop:=
 ∀ (pins : List (Addr × Obj)) (s : Shared) (σ : St) (H : Hp) (x : V) (v : Value) (Q : Bool → Hp → Prop),Inv X pins σ H s → RelV x v → r x H Q →
  wpAny (model X.prog X.w) X.A (truthy v) (TP X pins σ Q) X.xe s
def tOp (r : R2) (ta tb : TE) : TE := fun σ H Q => ta σ H fun x H1 => tb σ H1 fun y H2 => r x y H2 Q
def tUn (r : V → Hp → VK → Prop) (ta : TE) : TE := fun σ H Q => ta σ H fun x H1 => r x H1 Q
def rI (C : Int → Int → Prop) (g : Int → Int → V) : R2 := fun x y H Q => ∃ i j,x = .int i ∧ y = .int j ∧ C i j ∧ Q (g i j) H
def rI0 (g : Int → Int → V) : R2 := fun x y H Q => ∃ i j,x = .int i ∧ y = .int j ∧ Q (g i j) H
def rU (g : Int → V) : V → Hp → VK → Prop := fun x H Q => ∃ i,x = .int i ∧ Q (g i) H
section
variable {X : Cx} {a b c : Expr} {ta tb tc : TE} {pos : Pos}
theorem a1N (ha : PE X a ta) (hb : PE X b tb) {pins : List (Addr × Obj)} {s : Shared} {σ : St} {H : Hp} {R : V → V → Hp → Prop} (I : Inv X pins σ H s)
  (h : ta σ H fun x H1 => tb σ H1 fun y H2 => R x y H2) {Q : Value → Shared → Prop} {f : Value → Value → Sem Value}
  (hf : ∀ v u s2 x y H2,Inv X pins σ H2 s2 → RelV x v → RelV y u → R x y H2 → wpAny (model X.prog X.w) X.A (f v u) Q X.xe s2) :
  wpAny (model X.prog X.w) X.A (eval a X.env) (fun v s₁ => wpAny (model X.prog X.w) X.A (eval b X.env) (fun u s₂ => wpAny (model X.prog X.w) X.A (f v u) Q X.xe s₂) X.xe s₁) X.xe s:= by
 refine thn (ha pins s σ H _ I h) fun v s1 ⟨x,H1,I1,r1,q1⟩ => ?_
 refine thn (hb pins s1 σ H1 _ I1 q1) fun u s2 ⟨y,H2,I2,r2,q2⟩ => ?_
 exact hf v u s2 x y H2 I2 r1 r2 q2
theorem a4o {op : Operator} {r : R2} (ho : OpR X (binaryOp op) r) (ha : PE X a ta) (hb : PE X b tb) : PE X (.BinOp a op b pos) (tOp r ta tb):= by
 intro pins s σ H Q I h
 exact wpAny_BinOp (a1N ha hb I h fun v u s2 x y H2 I2 rx ry q => ho pins s2 σ H2 x y v u Q I2 rx ry q)
theorem a78 {op : UnaryOp} {r : V → Hp → VK → Prop} (ho : UnR X (unaryOp op) r) (ha : PE X a ta) : PE X (.UnaryOp op a pos) (tUn r ta):= by
 intro pins s σ H Q I h
 exact UnaryOp_ (thn (ha pins s σ H _ I h) fun v s1 ⟨x,H1,I1,r1,q1⟩ => ho pins s1 σ H1 x v Q I1 r1 q1)
theorem opI {f : Value → Value → Sem Value} {C : Int → Int → Prop} {g : Int → Int → Int}
  (rule : ∀ (i j : Int) (t u : Tok) (s : Shared) (Q : Value → Shared → Prop) (E : Value → Shared → Prop),C i j → Q (.int (g i j) s.toks) { s with toks := s.toks + 1 } → wpAny (model X.prog X.w) X.A (f (.int i t) (.int j u)) Q E s) :
  OpR X f (rI C fun i j => .int (g i j)):= by
 intro pins s σ H x y v u Q I rx ry h
 obtain ⟨i,j,rfl,rfl,hc,q⟩ := h
 obtain ⟨t,rfl⟩ := rx
 obtain ⟨t',rfl⟩ := ry
 exact rule i j t t' s _ _ hc ⟨.int (g i j),H,I.tok _,⟨_,rfl⟩,q⟩
theorem a6s {f : Value → Value → Sem Value} {g : Int → Int → Int}
  (rule : ∀ (i j : Int) (t u : Tok) (s : Shared) (Q : Value → Shared → Prop) (E : Value → Shared → Prop),Q (.int (g i j) s.toks) { s with toks := s.toks + 1 } → wpAny (model X.prog X.w) X.A (f (.int i t) (.int j u)) Q E s) :
  OpR X f (rI0 fun i j => .int (g i j)):= by
 intro pins s σ H x y v u Q I rx ry h
 obtain ⟨i,j,rfl,rfl,q⟩ := h
 obtain ⟨t,rfl⟩ := rx
 obtain ⟨t',rfl⟩ := ry
 exact rule i j t t' s _ _ ⟨.int (g i j),H,I.tok _,⟨_,rfl⟩,q⟩
theorem a4j {f : Value → Value → Sem Value} {g : Int → Int → Bool}
  (rule : ∀ (i j : Int) (t u : Tok) (s : Shared) (Q : Value → Shared → Prop) (E : Value → Shared → Prop),Q (.bool (g i j)) s → wpAny (model X.prog X.w) X.A (f (.int i t) (.int j u)) Q E s) :
  OpR X f (rI0 fun i j => .bl (g i j)):= by
 intro pins s σ H x y v u Q I rx ry h
 obtain ⟨i,j,rfl,rfl,q⟩ := h
 obtain ⟨t,rfl⟩ := rx
 obtain ⟨t',rfl⟩ := ry
 exact rule i j t t' s _ _ ⟨.bl (g i j),H,I,rfl,q⟩
def a5s (i j : Int) : Prop := 0 ≤ j ∧ j ≤ 1000000 ∧ i.natAbs < 2 ^ 64
theorem op_add : OpR X (binaryOp .Add) (rI0 fun i j => .int (i + j)) := a6s fun _ _ _ _ _ _ _ q => add_int q
theorem E7 : OpR X (binaryOp .Sub) (rI0 fun i j => .int (i - j)) := a6s fun _ _ _ _ _ _ _ q => sub_int q
theorem J6 : OpR X (binaryOp .Mod) (rI (fun _ j => j ≠ 0) fun i j => .int (i.fmod j)) := opI fun _ _ _ _ _ _ _ hc q => mod_int' hc q
theorem a05 : OpR X (binaryOp .Pow) (rI a5s fun i j => .int (i ^ j.toNat)) := opI fun _ _ _ _ _ _ _ hc q => pow_int_small hc.1 hc.2.1 hc.2.2 q
theorem unI {f : Value → Sem Value} {g : Int → Int}
  (rule : ∀ (i : Int) (t : Tok) (s : Shared) (Q : Value → Shared → Prop) (E : Value → Shared → Prop),Q (.int (g i) s.toks) { s with toks := s.toks + 1 } → wpAny (model X.prog X.w) X.A (f (.int i t)) Q E s) :
  UnR X f (rU fun i => .int (g i)):= by
 intro pins s σ H x v Q I rx h
 obtain ⟨i,rfl,q⟩ := h
 obtain ⟨t,rfl⟩ := rx
 exact rule i t s _ _ ⟨.int (g i),H,I.tok _,⟨_,rfl⟩,q⟩
theorem A0 : UnR X (unaryOp .USub) (rU fun i => .int (-i)) := unI fun _ _ _ _ _ q => neg_int q
end
def a6v : V → V → Bool
 | .non,.non => true | .non,.int _ => true | .int _,.non => true | .non,.bl _ => true | .bl _,.non => true | .non,.str _ => true | .str _,.non => true
 | .int _,.int _ => true | .bl _,.bl _ => true | .str _,.str _ => true | .byt _,.byt _ => true
 | .int _,.str _ => true | .str _,.int _ => true | .bl _,.str _ => true | .str _,.bl _ => true
 | _,_ => false
def rEq : R2 := fun x y H Q => a6v x y = true ∧ Q (.bl (decide (x = y))) H
def rNe : R2 := fun x y H Q => a6v x y = true ∧ Q (.bl (!decide (x = y))) H
theorem a6p {i j : Int} : decide (V.int i = V.int j) = (i == j):= by
 rw [Bool.eq_iff_iff]
 simp
theorem a55 {i j : Bool} : decide (V.bl i = V.bl j) = (i == j):= by
 rw [Bool.eq_iff_iff]
 simp
theorem a6Q {i j : Str} : decide (V.str i = V.str j) = (i == j):= by
 rw [Bool.eq_iff_iff]
 simp
theorem a6U {i j : Array UInt8} : decide (V.byt i = V.byt j) = (i.toList == j.toList):= by
 rw [Bool.eq_iff_iff]
 cases i
 cases j
 simp
section
variable {X : Cx} {a b c : Expr} {ta tb tc : TE} {pos : Pos}
theorem v6 {pins : List (Addr × Obj)} {σ : St} {H : Hp} {s : Shared} {Q : VK} {k k' : Bool} (I : Inv X pins σ H s) (q : Q (.bl k) H) (e : k = k') : EP X pins σ Q (.bool k') s:= by
 subst e
 exact ⟨.bl k,H,I,rfl,q⟩
theorem op_eq : OpR X (compareOp .Eq) rEq:= by
 intro pins s σ H x y v u Q I rx ry h
 obtain ⟨hs,q⟩ := h
 cases x with
 | non=>
  cases rx
  cases y with
  | non => cases ry; exact PySem.EqNone.eq_none_none (v6 I q (by simp))
  | bl j => cases ry; exact PySem.EqNone.eq_none_bool (v6 I q (by simp))
  | int j => obtain ⟨t',rfl⟩ := ry; exact PySem.EqNone.eq_none_int (v6 I q (by simp))
  | str j => obtain ⟨t',rfl⟩ := ry; exact PySem.EqNone.eq_none_str (v6 I q (by simp))
  | _ => exact absurd (show false = true from hs) Bool.false_ne_true
 | bl i=>
  cases rx
  cases y with
  | non => cases ry; exact PySem.EqNone.eq_bool_none (v6 I q (by simp))
  | bl j => cases ry; exact eq_bool (v6 I q a55)
  | str j => obtain ⟨t',rfl⟩ := ry; exact PySem.EqMixed.eq_bool_str (v6 I q (by simp))
  | _ => exact absurd (show false = true from hs) Bool.false_ne_true
 | int i=>
  obtain ⟨t,rfl⟩ := rx
  cases y with
  | non => cases ry; exact PySem.EqNone.eq_int_none (v6 I q (by simp))
  | int j => obtain ⟨t',rfl⟩ := ry; exact eq_int (v6 I q a6p)
  | str j => obtain ⟨t',rfl⟩ := ry; exact PySem.EqMixed.eq_int_str (v6 I q (by simp))
  | _ => exact absurd (show false = true from hs) Bool.false_ne_true
 | str i=>
  obtain ⟨t,rfl⟩ := rx
  cases y with
  | non => cases ry; exact PySem.EqNone.eq_str_none (v6 I q (by simp))
  | bl j => cases ry; exact PySem.EqMixed.eq_str_bool (v6 I q (by simp))
  | int j => obtain ⟨t',rfl⟩ := ry; exact PySem.EqMixed.eq_str_int (v6 I q (by simp))
  | str j => obtain ⟨t',rfl⟩ := ry; exact eq_str (v6 I q a6Q)
  | _ => exact absurd (show false = true from hs) Bool.false_ne_true
 | byt i=>
  obtain ⟨t,rfl⟩ := rx
  cases y with
  | byt j => obtain ⟨t',rfl⟩ := ry; exact PySem.W.eq_bytes (v6 I q a6U)
  | _ => exact absurd (show false = true from hs) Bool.false_ne_true
 | _ => cases y <;> exact absurd (show false = true from hs) Bool.false_ne_true
theorem op_ne : OpR X (compareOp .NotEq) rNe:= by
 intro pins s σ H x y v u Q I rx ry h
 obtain ⟨hs,q⟩ := h
 cases x with
 | non=>
  cases rx
  cases y with
  | non => cases ry; exact PySem.EqNone.ne_none_none (v6 I q (by simp))
  | bl j => cases ry; exact PySem.EqNone.ne_none_bool (v6 I q (by simp))
  | int j => obtain ⟨t',rfl⟩ := ry; exact PySem.EqNone.ne_none_int (v6 I q (by simp))
  | str j => obtain ⟨t',rfl⟩ := ry; exact PySem.EqNone.ne_none_str (v6 I q (by simp))
  | _ => exact absurd (show false = true from hs) Bool.false_ne_true
 | bl i=>
  cases rx
  cases y with
  | non => cases ry; exact PySem.EqNone.ne_bool_none (v6 I q (by simp))
  | bl j => cases ry; exact ne_bool (v6 I q (congrArg not a55))
  | str j => obtain ⟨t',rfl⟩ := ry; exact PySem.EqMixed.ne_bool_str (v6 I q (by simp))
  | _ => exact absurd (show false = true from hs) Bool.false_ne_true
 | int i=>
  obtain ⟨t,rfl⟩ := rx
  cases y with
  | non => cases ry; exact PySem.EqNone.ne_int_none (v6 I q (by simp))
  | int j => obtain ⟨t',rfl⟩ := ry; exact ne_int (v6 I q (congrArg not a6p))
  | str j => obtain ⟨t',rfl⟩ := ry; exact PySem.EqMixed.ne_int_str (v6 I q (by simp))
  | _ => exact absurd (show false = true from hs) Bool.false_ne_true
 | str i=>
  obtain ⟨t,rfl⟩ := rx
  cases y with
  | non => cases ry; exact PySem.EqNone.ne_str_none (v6 I q (by simp))
  | bl j => cases ry; exact PySem.EqMixed.ne_str_bool (v6 I q (by simp))
  | int j => obtain ⟨t',rfl⟩ := ry; exact PySem.EqMixed.ne_str_int (v6 I q (by simp))
  | str j => obtain ⟨t',rfl⟩ := ry; exact ne_str (v6 I q (congrArg not a6Q))
  | _ => exact absurd (show false = true from hs) Bool.false_ne_true
 | byt i=>
  obtain ⟨t,rfl⟩ := rx
  cases y with
  | byt j => obtain ⟨t',rfl⟩ := ry; exact PySem.W.ne_bytes (v6 I q (congrArg not a6U))
  | _ => exact absurd (show false = true from hs) Bool.false_ne_true
 | _ => cases y <;> exact absurd (show false = true from hs) Bool.false_ne_true
theorem G1 : OpR X (compareOp .Lt) (rI0 fun i j => .bl (decide (i < j))) := a4j fun _ _ _ _ _ _ _ q => lt_int q
theorem Q1 : OpR X (compareOp .Gt) (rI0 fun i j => .bl (decide (j < i))) := a4j fun _ _ _ _ _ _ _ q => gt_int q
theorem a4X : OpR X (compareOp .GtE) (rI0 fun i j => .bl (decide (j ≤ i))) := a4j fun _ _ _ _ _ _ _ q => ge_int q
theorem a6e : OpR X (compareOp .IsNot) (fun x y H Q => y = .non ∧ Q (.bl (!decide (x = .non))) H):= by
 intro pins s σ H x y v u Q I rx ry h
 obtain ⟨rfl,q⟩ := h
 cases ry
 refine isnot_none_gen (v6 I q ?_)
 cases x <;> first
  | (cases rx; rfl)
  | (obtain ⟨t,rfl⟩ := rx; rfl)
theorem OpR.or {f : Value → Value → Sem Value} {r r' : R2} (h : OpR X f r) (h' : OpR X f r') : OpR X f (fun x y H Q => r x y H Q ∨ r' x y H Q):= by
 intro pins s σ H x y v u Q I rx ry q
 rcases q with q | q
 ·exact h pins s σ H x y v u Q I rx ry q
 ·exact h' pins s σ H x y v u Q I rx ry q
theorem o8 (b : Expr) {op : CmpOp} (h : op ≠ .In := by decide) (h2 : op ≠ .NotIn := by decide) : behindInMarks op b = false:= by
 have e1 : (op == CmpOp.In) = false := by cases op <;> first | rfl | exact absurd rfl h
 have e2 : (op == CmpOp.NotIn) = false := by cases op <;> first | rfl | exact absurd rfl h2
 cases b <;> simp [behindInMarks,e1,e2]
theorem b3S {op : CmpOp} {r : R2} (ho : OpR X (compareOp op) r) (ha : PE X a ta) (hb : PE X b tb) (hm : behindInMarks op b = false) : PE X (.Compare a [op] [b] pos) (tOp r ta tb):= by
 intro pins s σ H Q I h
 exact wpAny_Compare1 (a1N ha hb I h fun v u s2 x y H2 I2 rx ry q => ho pins s2 σ H2 x y v u Q I2 rx ry q) hm
def b0S (t : TE) : TT := fun σ H Q => t σ H fun x H' => ∃ k,x = .bl k ∧ Q k H'
theorem a9v {op : CmpOp} {r : R2} (ho : OpR X (compareOp op) r) (ha : PE X a ta) (hb : PE X b tb) (hm : behindInMarks op b = false) : PT X (.Compare a [op] [b] pos) (b0S (tOp r ta tb)):= by
 intro pins s σ H Q I h
 refine wpAny_isTrue_Compare1 (thn (ha pins s σ H _ I h) fun v s1 ⟨x,H1,I1,r1,q1⟩ => thn (hb pins s1 σ H1 _ I1 q1) fun u s2 ⟨y,H2,I2,r2,q2⟩=>
  thn (ho pins s2 σ H2 x y v u _ I2 r1 r2 q2) fun c s3 ⟨z,H3,I3,r3,k,e,q3⟩ => ?_) hm
 subst e
 cases r3
 exact wpAny_truthy_bool ⟨H3,I3,q3⟩
def a6M (r r' : R2) (ta tb tc : TE) : TE := fun σ H Q => ta σ H fun x H1 => tb σ H1 fun y H2 => r x y H2 fun z H3 => ∃ k,z = .bl k ∧
 (if k = true then tc σ H3 fun w' H4 => r' y w' H4 Q else Q (.bl false) H3)
theorem b2Y {op op' : CmpOp} {r r' : R2} (ho : OpR X (compareOp op) r) (ho' : OpR X (compareOp op') r') (ha : PE X a ta) (hb : PE X b tb) (hc : PE X c tc)
  (hm : lastMarks [op,op'] [b,c] = false := by with_unfolding_all rfl) : PE X (.Compare a [op,op'] [b,c] pos) (a6M r r' ta tb tc):= by
 intro pins s σ H Q I h
 refine Compare_chain (thn (ha pins s σ H _ I h) fun v s1 ⟨x,H1,I1,r1,q1⟩ => chain_link (thn (hb pins s1 σ H1 _ I1 q1) fun u s2 ⟨y,H2,I2,r2,q2⟩=>
  thn (ho pins s2 σ H2 x y v u _ I2 r1 r2 q2) fun d s3 ⟨z,H3,I3,r3,k,e,q3⟩ => ?_)) hm
 subst e
 cases r3
 refine wpAny_truthy_bool ?_
 cases k with
 | false => exact ite_ff ⟨.bl false,H3,I3,rfl,q3⟩
 | true => exact ite_tt (chain_last (thn (hc pins s3 σ H3 _ I3 q3) fun w' s4 ⟨z',H4,I4,r4,q4⟩ => ho' pins s4 σ H4 y z' u w' Q I4 r2 r4 q4))
def a4R (K : PySem.W.Frag) (x : V) (H : Hp) (k : Bool) : Prop:=
 match x with
 | .non => k = false
 | .bl b => k = b
 | .int i => k = (i != 0)
 | .str y => y.length ≤ sizeLine ∧ k = ((y.length : Int) != 0)
 | .byt y => y.size ≤ sizeLine ∧ k = ((y.size : Int) != 0)
 | .ref p => (∃ xs,SqL K H p xs ∧ k = !xs.isEmpty) ∨ (∃ xs,SqT K H p xs ∧ k = !xs.isEmpty) ∨ ∃ kvs,H p = some (.dK kvs) ∧ k = !kvs.isEmpty
 | _ => False
theorem b3A {κ : Type} {kvs : List (κ × V)} {vs : List (κ × Value)} (r : KV kvs vs) : (!vs.isEmpty) = !kvs.isEmpty:= by
 cases r <;> rfl
theorem a6Z {xs : List V} {its : List Value} (r : Vals xs its) : (!its.toArray.isEmpty) = !xs.isEmpty:= by
 cases r <;> simp
theorem V3 : (sizeLine : Nat) < 2 ^ 63 := by rw [sizeLine_eq]; decide
theorem b0z : b3c X (fun x H Q => ∃ k,a4R X.K x H k ∧ Q k H):= by
 intro pins s σ H x v Q I rx h
 obtain ⟨k,e,q⟩ := h
 have hl := V3
 have hs : sizeLine = 16777216 := sizeLine_eq
 cases x with
 | non=>
  cases rx
  have e' : k = false := e
  subst e'
  exact truthy_none ⟨H,I,q⟩
 | bl b=>
  cases rx
  have e' : k = b := e
  subst e'
  exact wpAny_truthy_bool ⟨H,I,q⟩
 | int i=>
  obtain ⟨t,rfl⟩ := rx
  have e' : k = (i != 0) := e
  subst e'
  exact PySem.P.truthy_int ⟨H,I,q⟩
 | str y=>
  obtain ⟨t,rfl⟩ := rx
  obtain ⟨hy,e'⟩ : y.length ≤ sizeLine ∧ k = ((y.length : Int) != 0) := e
  subst e'
  exact PySem.P.truthy_str (by omega) ⟨H,I.tok _,q⟩
 | byt y=>
  obtain ⟨t,rfl⟩ := rx
  obtain ⟨hy,e'⟩ : y.size ≤ sizeLine ∧ k = ((y.size : Int) != 0) := e
  subst e'
  exact PySem.W.truthy_bytes (by omega) ⟨H,I.tok _,q⟩
 | ref p=>
  cases rx
  have e' : (∃ xs,SqL X.K H p xs ∧ k = !xs.isEmpty) ∨ (∃ xs,SqT X.K H p xs ∧ k = !xs.isEmpty) ∨ ∃ kvs,H p = some (.dK kvs) ∧ k = !kvs.isEmpty := e
  rcases e' with ⟨xs,hx,e'⟩ | ⟨xs,hx,e'⟩ | ⟨kvs,hx,e'⟩
  ·subst e'
   obtain ⟨its,r,pl,hz⟩ := I.list hx
   have hlen := r.length
   exact wpAny_truthy_list pl.isList (by simp only [List.size_toArray]; omega) ⟨H,I.tok _,by rw [a6Z r]; exact q⟩
  ·subst e'
   obtain ⟨its,r,pl,hz⟩ := I.tuple hx
   have hlen := r.length
   exact truthy_tuple pl (by simp only [List.size_toArray]; omega) ⟨H,I.tok _,by rw [a6Z r]; exact q⟩
  ·subst e'
   obtain ⟨hz,hS,vs,r,m⟩ : kvs.length ≤ sizeLine ∧ (p == sysModules) = false ∧ ∃ vs,KV kvs vs ∧ s.heap.DictOf (a4i X.prog X.w) p vs := I.hok p _ hx
   have hlen : kvs.length = vs.length := Paired.length r
   exact wpAny_truthy_dict hS m (by omega) ⟨H,I.tok _,by rw [b3A r]; exact q⟩
 | _ => exact (show False from e).elim
theorem b1T (ha : PE X a ta) (he : ∀ whole,isTrue a X.env whole = (do let v ← whole; standAt a.pos; holding [v] (truthy v))) :
  PT X a (fun σ H Q => ta σ H fun x H' => ∃ k,a4R X.K x H' k ∧ Q k H'):= by
 intro pins s σ H Q I h
 exact isTrue_plain (thn (ha pins s σ H _ I h) fun v s1 ⟨x,H1,I1,r1,q1⟩ => b0z pins s1 σ H1 x v Q I1 r1 q1) (he _)
theorem a8j : OpR X (binaryOp .Add) (fun x y H Q => ∃ i j,x = .str i ∧ y = .str j ∧ i.length + j.length ≤ sizeLine ∧ Q (.str (i ++ j)) H):= by
 intro pins s σ H x y v u Q I rx ry h
 obtain ⟨i,j,rfl,rfl,hz,q⟩ := h
 obtain ⟨t,rfl⟩ := rx
 obtain ⟨t',rfl⟩ := ry
 exact add_str (fun t' tk => ⟨.str (i ++ j),H,I.tok _,⟨_,rfl⟩,q⟩) hz
theorem R3 {x : V} {us : List Value} (r : Vals [x] us) : ∃ u,us = [u] ∧ RelV x u:= by
 cases r with
 | cons r1 r2 => cases r2; exact ⟨_,rfl,r1⟩
theorem a0L : CallR X (.builtin "abs") (fun xs H Q => ∃ i,xs = [.int i] ∧ Q (.int (if i < 0 then -i else i)) H):= by
 intro pins s σ H xs us Q I r h
 obtain ⟨i,rfl,q⟩ := h
 obtain ⟨u,rfl,t,rfl⟩ := R3 r
 exact call_abs_int fun u tk => ⟨.int (if i < 0 then -i else i),H,I.tok _,⟨_,rfl⟩,q⟩
theorem a1u : CallR X (.type "int") (fun xs H Q => (∃ i,xs = [.int i] ∧ Q (.int i) H) ∨ ∃ k,xs = [.bl k] ∧ Q (.int (if k then 1 else 0)) H):= by
 intro pins s σ H xs us Q I r h
 rcases h with ⟨i,rfl,q⟩ | ⟨k,rfl,q⟩
 ·obtain ⟨u,rfl,t,rfl⟩ := R3 r
  exact call_int_int ⟨.int i,H,I,⟨_,rfl⟩,q⟩
 ·obtain ⟨u,rfl,r1⟩ := R3 r
  cases r1
  exact call_int_bool ⟨.int (if k then 1 else 0),H,I.tok _,⟨_,rfl⟩,q⟩
end
structure Room (k : Nat) (A : Around) : Prop where
 hd : A.handled = none
 dp : A.depth + 3 * k + 5 < recursionLimit
 un : A.units + 16 * k + 200 < cLine
 gd : A.guards = some []
theorem Room.mono {j k : Nat} {A : Around} (r : Room k A) (h : j ≤ k) : Room j A := ⟨r.hd,by have := r.dp; omega,by have := r.un; omega,r.gd⟩
theorem Room.deeper {k : Nat} {A : Around} (r : Room (k + 1) A) (env : Env) : Room k (A.deeper env):=
 ⟨r.hd,by have := r.dp; show A.depth + 1 + 3 * k + 5 < _; omega,by have := r.un; show A.units + 3 + 16 * k + 200 < _; omega,r.gd⟩
theorem Room.depth {k : Nat} {A : Around} (r : Room k A) : A.depth < recursionLimit := by have := r.dp; omega
def b1w : TA := fun _ H Q => Q [] H
def b0C (ta : TE) (tr : TA) : TA := fun σ H Q => ta σ H fun x H1 => tr σ H1 fun xs H2 => Q (x :: xs) H2
section
variable {X : Cx} {e : Expr} {es : List Expr} {te : TE} {t : TA} {pos : Pos}
theorem a09 : PA X [] b1w := fun _ _ _ _ H Q I h => Calls.spliced_nil ⟨[],H,I,.nil,h⟩
theorem W3 (ha : PE X e te) (hr : PA X es t) (hs : starEach (e :: es) X.env = (false,eval e X.env) :: starEach es X.env := by rfl) : PA X (e :: es) (b0C te t):= by
 intro pos pins s σ H Q I h
 rw [hs]
 show wpAny _ _ (spliced ((false,eval e X.env) :: backTo pos (starEach es X.env))) _ _ s
 refine Calls.spliced_cons (thn (ha pins s σ H _ I h) fun u s1 ⟨x,H1,I1,r1,q1⟩ => ?_)
 exact thn (hr pos pins s1 σ H1 _ I1 q1) fun us s2 ⟨xs,H2,I2,r2,q2⟩ => ⟨x :: xs,H2,I2,.cons r1 r2,q2⟩
def a8W (t : TA) : TE := fun σ H Q => t σ H fun xs H1 => xs.length ≤ sizeLine ∧ ∀ p,H1 p = none → Q (.ref p) (upd H1 p (.tup xs))
def b06 (t : TA) : TE := fun σ H Q => t σ H fun xs H1 => xs.length ≤ sizeLine ∧ ∀ p,H1 p = none → Q (.ref p) (upd H1 p (.lst xs))
theorem b3x {x1} (h : PA X es t) : PE X (.Tuple es x1 pos) (a8W t):= by
 intro pins s σ H Q I hq
 refine wpAny_Tuple_spliced (thn (h pos pins s σ H _ I hq) fun us s1 ⟨xs,H1,I1,r,z,q⟩ => ⟨by rw [← r.length]; exact z,?_⟩)
 have hf : H1 s1.heap.objs.size = none := I1.hok.fresh (Nat.le_refl _)
 refine ⟨.ref s1.heap.objs.size,upd H1 s1.heap.objs.size (.tup xs),I1.laid (t' := s1.toks) (fun b u e => Heap.get?_push_of_some _ e) (Nat.le_refl _) ?_,rfl,q _ hf⟩
 exact ⟨z,us,r,⟨_,Heap.get?_push_size _ rfl,rfl,_,rfl⟩⟩
theorem a7F (h : PA X es t) : PE X (.List es pos) (b06 t):= by
 intro pins s σ H Q I hq
 refine wpAny_List_spliced (thn (h pos pins s σ H _ I hq) fun us s1 ⟨xs,H1,I1,r,z,q⟩ => ⟨by rw [← r.length]; exact z,?_⟩)
 have hf : H1 s1.heap.objs.size = none := I1.hok.fresh (Nat.le_refl _)
 refine ⟨.ref s1.heap.objs.size,upd H1 s1.heap.objs.size (.lst xs),I1.laid (t' := s1.toks) (fun b u e => Heap.get?_push_of_some _ e) (Nat.le_refl _) ?_,rfl,q _ hf⟩
 exact ⟨z,us,0,r,Heap.get?_push_size _ rfl⟩
end
abbrev Sp := List V → Hp → VK → XK → Prop
abbrev CXT := List Env → Hp → Shared → XK → Value → Shared → Prop
structure Env0 (P : Program) (w : World) (K : PySem.W.Frag) (mg : Str → Option Value) (base : Heap) (A : Around) (outer : List Env) (s : Shared) (H : Hp) : Prop where
 frames : A.frames = some outer
 mod : Mod K mg base
 bs : ∀ b o,base.get? b = some o → s.heap.get? b = some o ∧ H b = none
 bsz : base.objs.size ≤ s.heap.objs.size
 funs : s.heap.FunFrames base outer
 frf : ∀ b ∈ frs outer,H b = none
 hok : HOk P w H s.heap
 bare : AllBare s.gens
def CE (outer : List Env) (P : Program) (w : World) (H : Hp) (s : Shared) (Q : VK) (u : Value) (s' : Shared) : Prop:=
 ∃ v H',s'.os = s.os ∧ AllBare s'.gens ∧ Un (frs outer) [] H H' s.heap s'.heap ∧ HOk P w H' s'.heap ∧ RelV v u ∧ Q v H'
def CR (CX : CXT) (outer : List Env) (P : Program) (w : World) (H : Hp) (s : Shared) (Q : VK) (E : XK) (r : Result) (s' : Shared) : Prop:=
 match r with
 | .ok (.ret u) => CE outer P w H s Q u s'
 | .ok _ => False
 | .error e => CX outer H s E e s'
structure FnOk (P : Program) (w : World) (K : PySem.W.Frag) (mg : Str → Option Value) (base : Heap) (CX : CXT) (k : Nat) (f : Addr) (fd : FuncData) (ps : List Str) (sp : Sp) : Prop where
 len : ∀ vs H Q E,sp vs H Q E → vs.length = ps.length
 run : ∀ (A : Around) (outer : List Env) (s : Shared) (H : Hp) (args : Args) (us : List Value) (vs : List V) (Q : VK) (E : XK),Room k A → Env0 P w K mg base A outer s H → BindsTo s fd args (ps.zip us) → Vals vs us → sp vs H Q E →
  codeAny (model P w) A (.call (.ref f) args) (CR CX outer P w H s Q E) s
section
variable {X : Cx} {pins : List (Addr × Obj)} {σ : St} {H : Hp} {s s' : Shared}
theorem Inv.env0 (I : Inv X pins σ H s) : Env0 X.prog X.w X.K X.mg X.base X.A X.stack s H:=
 ⟨I.ok.frames,I.ok.mod,I.bs,Nat.le_trans I.ok.bsz I.sz,I.stack,I.stkFree,I.hok,I.bare⟩
theorem Inv.after {Q : VK} {u : Value} (I : Inv X pins σ H s) (h : CE X.stack X.prog X.w H s Q u s') : EP X pins σ Q u s':= by
 obtain ⟨v,H',os,bare,un,hok,r,q⟩ := h
 obtain ⟨hh,g,d,t,os'⟩ := s'
 obtain rfl : os' = s.os := os
 exact ⟨v,H',I.call (h' := hh) (g' := g) (d' := d) (t' := t) (ch := []) un hok bare (fun b z => absurd z (by simp)),r,q⟩
end
def a1O (sp : Sp) (dvs : List V) (E : XK) (t : TA) : TE := fun σ H Q => t σ H fun vs H1 => sp (vs ++ dvs) H1 Q E
def Binds (K : PySem.W.Frag) (fd : FuncData) (ps : List Str) (ds : List Value) : Prop:=
 ∀ (s : Shared) (us : List Value),K.In s.heap → (us ++ ds).length = ps.length → BindsTo s fd ⟨us,[]⟩ (ps.zip (us ++ ds))
theorem Binds.all {K : PySem.W.Frag} {fd : FuncData} {ps : List Str} (h : ∀ us : List Value,us.length = ps.length → bindArgs fd ⟨us,[]⟩ = pure (ps.zip us)) : Binds K fd ps [] := fun s us _ hl => by
 rw [List.append_nil] at hl ⊢
 exact .of_eq (h us hl)
def a2I (CX : CXT) (X : Cx) (E : XK) : Prop := ∀ (pins : List (Addr × Obj)) (σ : St) (H : Hp) (s : Shared) (e : Value) (s' : Shared),Inv X pins σ H s → CX X.stack H s E e s' → X.xe e s'
section
variable {X : Cx} {CX : CXT} {k : Nat} {f C : Addr} {fd : FuncData} {ps : List Str} {sp : Sp} {dvs : List V} {ds : List Value} {E : XK} {x m : Str} {p pos apos : Pos} {e o : Expr} {es : List Expr} {ta : TE} {t : TA}
theorem b3d {pins : List (Addr × Obj)} {σ : St} {H : Hp} {s : Shared} {Q : VK} {us : List Value} {vs : List V} (F : FnOk X.prog X.w X.K X.mg X.base CX k f fd ps sp) (hr : Room k X.A) (hb : Binds X.K fd ps ds) (hd : Vals dvs ds) (hx : a2I CX X E)
  (I : Inv X pins σ H s) (r : Vals vs us) (h : sp (vs ++ dvs) H Q E) : wpAny (model X.prog X.w) X.A (call (.ref f) us) (EP X pins σ Q) X.xe s:= by
 have r2 : Vals (vs ++ dvs) (us ++ ds) := r.append hd
 have hl : (us ++ ds).length = ps.length := by rw [← r2.length]; exact F.len _ _ _ _ h
 refine wpAny_call (codeAny_mono (F.run X.A X.stack s H ⟨us,[]⟩ (us ++ ds) (vs ++ dvs) Q E hr I.env0 (hb s us I.kIn hl) r2 h) fun r s' hq => ?_)
 cases r with
 | error e => exact hx pins σ H s e s' I hq
 | ok fl=>
  cases fl with
  | ret u => exact I.after hq
  | next => exact False.elim hq
  | brk => exact False.elim hq
  | cont => exact False.elim hq
theorem a4s (F : FnOk X.prog X.w X.K X.mg X.base CX k f fd ps sp) (hr : Room k X.A) (hg : Gl X x) (hm : X.mg x = some (.ref f)) (hk : PySem.W.keepIn X.K (.ref f) = true) (hb : Binds X.K fd ps ds) (hd : Vals dvs ds) (hx : a2I CX X E)
  (ha : PA X (e :: es) t) (hdb : (x == ("__debug__" : Str)) = false := by decide) (he : starEach (e :: es) X.env = (false,eval e X.env) :: starEach es X.env := by rfl) (hpl : (backTo pos (starEach es X.env)).any (·.1) = false := by rfl) :
  PE X (.Call (.Name x p) (e :: es) [] pos) (a1O sp dvs E t):= by
 intro pins s σ H Q I h
 refine wpAny_Call_Name_kw (b2R I hg hm ?_ hdb)
 refine PySem.W.callWith_K (h₀ := X.base) I.ok.mod.kin hk (thn (ha pos pins s σ H _ I h) fun us s1 ⟨vs,H1,I1,r,q⟩ => ⟨I1.kIn,?_⟩) he hpl
 exact b3d F hr hb hd hx I1 r q
end
structure FnScope (N P : List Str) (sc : Scope) : Prop where
 kind : sc.kind = .function
 co : sc.isCoroutine = false
 gen : sc.isGenerator = false
 nd : N.Nodup
 pre : N.take P.length = P
 par : ∀ x ∈ P,sc.names.lookup x = some .local ∨ sc.names.lookup x = some .cell
 nofree : ∀ y ∈ sc.names,y.2 ≠ .free
theorem a5M {kindOf : Str → Option NameKind} {x : Str} : ∀ {binds : List (Str × Value)} {m : Str → Option Value},(∀ v,(x,v) ∉ binds) → bindL kindOf binds m x = m x
 | [],_,_ => rfl
 | (n,v) :: r,m,h => by
  unfold bindL
  rw [a5M fun w hw => h w (List.mem_cons_of_mem _ hw)]
  split
  ·have : x ≠ n := by rintro rfl; exact h v List.mem_cons_self
   simp [this]
  ·rfl
theorem a6Y {kindOf : Str → Option NameKind} {x : Str} : ∀ {binds : List (Str × Value)} {m : Str → Option Value},(∀ v,(x,v) ∉ binds) → bindC kindOf binds m x = m x
 | [],_,_ => rfl
 | (n,v) :: r,m,h => by
  unfold bindC
  rw [a6Y fun w hw => h w (List.mem_cons_of_mem _ hw)]
  split
  ·rfl
  ·have : x ≠ n := by rintro rfl; exact h v List.mem_cons_self
   simp [this]
theorem a7C {kindOf : Str → Option NameKind} {x : Str} {v : Value} : ∀ {P : List Str} {vs : List Value} {i : Nat} {m : Str → Option Value},P.Nodup → P[i]? = some x → vs[i]? = some v → kindOf x = some .local →
  bindL kindOf (P.zip vs) m x = some v
 | [],_,_,_,_,h,_,_ => by simp at h
 | _ :: _,[],_,_,_,_,h,_ => by simp at h
 | p :: P,w :: vs,0,m,nd,h1,h2,hk => by
  simp at h1 h2; subst h1; subst h2
  show bindL kindOf ((p,w) :: P.zip vs) m p = _
  unfold bindL
  rw [a5M fun v hv => (List.nodup_cons.mp nd).1 (List.of_mem_zip hv).1,if_pos hk]
  simp
 | p :: P,w :: vs,i + 1,m,nd,h1,h2,hk => by
  show bindL kindOf ((p,w) :: P.zip vs) m x = _
  unfold bindL
  exact a7C (i := i) (List.nodup_cons.mp nd).2 (by simpa using h1) (by simpa using h2) hk
theorem a5j {kindOf : Str → Option NameKind} {x : Str} {v : Value} : ∀ {P : List Str} {vs : List Value} {i : Nat} {m : Str → Option Value},P.Nodup → P[i]? = some x → vs[i]? = some v → kindOf x ≠ some .local →
  bindC kindOf (P.zip vs) m x = some v
 | [],_,_,_,_,h,_,_ => by simp at h
 | _ :: _,[],_,_,_,_,h,_ => by simp at h
 | p :: P,w :: vs,0,m,nd,h1,h2,hk => by
  simp at h1 h2; subst h1; subst h2
  show bindC kindOf ((p,w) :: P.zip vs) m p = _
  unfold bindC
  rw [a6Y fun v hv => (List.nodup_cons.mp nd).1 (List.of_mem_zip hv).1,if_neg hk]
  simp
 | p :: P,w :: vs,i + 1,m,nd,h1,h2,hk => by
  show bindC kindOf ((p,w) :: P.zip vs) m x = _
  unfold bindC
  exact a5j (i := i) (List.nodup_cons.mp nd).2 (by simpa using h1) (by simpa using h2) hk
def start (N : List Str) (vs : List V) : St := vs.map some ++ List.replicate (N.length - vs.length) none
def P5 (CX : CXT) (P : Program) (w : World) (K : PySem.W.Frag) (mg : Str → Option Value) (base : Heap) (N : List Str) (qual : Str) (scope : Scope) (f : Addr) (cd : Value) (A : Around) (outer : List Env) (s : Shared) (H : Hp) (E : XK) : Cx where
 prog := P
 w := w
 K := K
 mg := mg
 base := base
 A := A.deeper (envOfC qual scope s.heap.objs.size f cd)
 N := N
 s₀ := s
 H₀ := H
 env := envOfC qual scope s.heap.objs.size f cd
 outer := outer
 stack := envOfC qual scope s.heap.objs.size f cd :: outer
 ex := []
 calm := true
 fn := fun _ => true
 pn := []
 xe := fun e s' => wpAny (model P w) (A.deeper (envOfC qual scope s.heap.objs.size f cd)) (leaving (envOfC qual scope s.heap.objs.size f cd) e) (fun _ s'' => CX outer H s E e s'') (fun e' s'' => CX outer H s E e' s'') s'
theorem a5i {sc : Scope} {n : Nat} {x : Str} (h : sc.names.lookup x = some .cell) : ∃ c,(cellsFrom n sc.names []).lookup x = some c:= by
 have q := PySem.W.cellsFrom_some sc.names n [] (.inl h)
 exact Option.isSome_iff_exists.mp q
theorem b3r {CX : CXT} {P : Program} {w : World} {K : PySem.W.Frag} {mg : Str → Option Value} {base : Heap} {N ps : List Str} {qual : Str} {scope : Scope} {f : Addr} {cd : Value} {A : Around} {outer : List Env} {s s1 : Shared} {H : Hp} {E : XK} {us : List Value} {vs : List V}
  (S : FnScope N ps scope) (hd : A.handled = none) (e0 : Env0 P w K mg base A outer s H) (hl : vs.length = ps.length) (r : Vals vs us)
  (x : InCallC s s.heap.objs.size (bindL (envOfC qual scope s.heap.objs.size f cd).kindOf (ps.zip us) fun _ => none) (cellsFrom (s.heap.objs.size + 1) scope.names []) (bindC (envOfC qual scope s.heap.objs.size f cd).kindOf (ps.zip us) fun _ => none) s1) :
  Inv (P5 CX P w K mg base N qual scope f cd A outer s H E) [] (start N vs) H s1:= by
 have hpl : ps.length ≤ N.length := by have := congrArg List.length S.pre; rw [List.length_take] at this; omega
 obtain ⟨h1,tk,rfl,hk⟩ := x.done
 have noA : ∀ b : Addr,b ∉ (P5 CX P w K mg base N qual scope f cd A outer s H E).ex := fun b z => absurd (show b ∈ ([] : List Addr) from z) (by simp)
 refine ⟨⟨e0.mod,S.kind,rfl,rfl,Nat.le_refl _,fun y z c h1 h2 => ?_,fun y hy => ?_,fun y c _ h => ?_,fun _ => hd,Around.frames_deeper e0.frames,.inr ⟨rfl,rfl⟩,fun b z => absurd z (noA b),e0.bs,e0.bsz,fun b _ _ => noA b,fun b z => absurd z (noA b),e0.funs,e0.frf⟩,
  rfl,e0.bare,Un.kept hk,⟨_,x.toInCall.ns,fun i y v h1 h2 h3 => ?_⟩,fun y c h => ⟨_,x.cell y c h⟩,e0.hok.fresh (Nat.le_refl _),fun y c h => ?_,fun p hp => absurd (show p ∈ ([] : List (Addr × Obj)) from hp) (by simp),e0.hok.kept hk,?_⟩
 ·exact name_of_addr x.apart (PySem.mem_of_lookup h1) (PySem.mem_of_lookup h2)
 ·have hy : scope.names.lookup y = some .cell ∨ scope.names.lookup y = some .free := hy
  rcases hy with hy | hy
  ·exact a5i hy
  ·exact absurd rfl (S.nofree _ (PySem.mem_of_lookup hy))
 ·exact Nat.le_of_lt (x.above y c (PySem.mem_of_lookup h))
 ·have hi : i < vs.length:= by
   unfold start at h2
   by_cases hi : i < vs.length
   ·exact hi
   ·rw [List.getElem?_append_right (by simpa using hi)] at h2
    rw [List.getElem?_replicate] at h2
    split at h2 <;> cases h2
  have ha : vs[i]? = some v:= by
   unfold start at h2
   rw [List.getElem?_append_left (by simpa using hi),List.getElem?_map] at h2
   cases e : vs[i]? with
   | none => rw [e] at h2; cases h2
   | some a => rw [e] at h2; cases h2; rfl
  obtain ⟨u,hu,rv⟩ := r.get ha
  have hp : ps[i]? = some y:= by
   rw [← S.pre,List.getElem?_take_of_lt (by omega)]; exact h1
  have ndP : ps.Nodup := by rw [← S.pre]; exact S.nd.sublist (List.take_sublist _ _)
  refine ⟨u,rv,?_⟩
  rcases S.par y (List.mem_of_getElem? hp) with k | k
  ·exact .inl ⟨k,a7C ndP hp hu k⟩
  ·obtain ⟨c,e⟩ := a5i (n := s.heap.objs.size + 1) k
   refine .inr ⟨.inl k,c,e,?_⟩
   have q := x.cell y c e
   rw [a5j ndP hp hu (by show scope.names.lookup y ≠ _; rw [k]; decide)] at q
   exact q
 ·exact e0.hok.fresh (Nat.le_of_lt (x.above y c (PySem.mem_of_lookup h)))
 ·unfold start
  show _ = N.length
  rw [List.length_append,List.length_map,List.length_replicate]
  omega
theorem b3b {CX : CXT} {P : Program} {w : World} {K : PySem.W.Frag} {mg : Str → Option Value} {base : Heap} {k : Nat} {f : Addr} {name qual : Str} {params : Arguments} {body : List Stmt} {scope : Scope} {dV kV doc pm cdv ct oc : Value} {an od : Option Addr}
  {osl : Array (Option Value)} {N ps : List Str} {sp : Sp} (lk : K.lookup f = some ⟨oc,od,.func (PySem.W.fnOf name qual params body scope dV kV doc pm an cdv ct),osl⟩) (hcd : PySem.W.codeIn K cdv qual = true) (S : FnScope N ps scope)
  (len : ∀ vs H Q E,sp vs H Q E → vs.length = ps.length)
  (hbody : ∀ (A : Around) (outer : List Env) (s : Shared) (H : Hp) (vs : List V) (Q : VK) (E : XK),Room k (A.deeper (envOfC qual scope s.heap.objs.size f cdv)) → sp vs H Q E →
   ∃ t,PSs (P5 CX P w K mg base N qual scope f cdv A outer s H E) body t ∧ t { nx := fun _ H' => Q .non H',rt := Q } (start N vs) H) :
  FnOk P w K mg base CX (k + 1) f (PySem.W.fnOf name qual params body scope dV kV doc pm an cdv ct) ps sp:= by
 refine ⟨len,fun A outer s H args us vs Q E hr e0 hb r hsp => ?_⟩
 have hl := len _ _ _ _ hsp
 have KX : K.In s.heap := e0.mod.kin.keeps fun b o e => (e0.bs b o e).1
 have lim : s.heap.NoLimit := e0.mod.nolimit.keeps fun b o e => (e0.bs b o e).1
 have hkind : ∀ y ∈ ps.zip us,scope.names.lookup y.1 = some .local ∨ (scope.names.lookup y.1 = some .cell ∧ ((cellsFrom (s.heap.objs.size + 1) scope.names []).lookup y.1).isSome = true) := fun ⟨n,v⟩ hy => by
  rcases S.par n (List.of_mem_zip hy).1 with q | q
  ·exact .inl q
  ·exact .inr ⟨q,PySem.W.cellsFrom_some _ _ _ (.inl q)⟩
 refine codeAny_call_function hr.depth (KX _ _ lk) rfl S.co S.gen rfl (PySem.W.codeRec_of KX hcd) (hb _ _ _ _ ?_)
 refine wpAny_newFunctionEnv_cells S.kind hkind fun env he s1 x => ?_
 subst he
 refine ⟨lim.keeps x.toInCall.keep,codeAny_func ?_⟩
 obtain ⟨t,ht,hq⟩ := hbody A outer s H vs Q E (hr.deeper _) hsp
 have I : Inv (P5 CX P w K mg base N qual scope f cdv A outer s H E) [] (start N vs) H s1 := b3r S hr.hd e0 hl r x
 refine wpAny_mono (ht [] s1 (start N vs) H _ I hq) (fun fl s' hs => ?_) fun e s' hs => hs
 have fin : ∀ {σ' : St} {H' : Hp} {v : V} {u : Value},Inv (P5 CX P w K mg base N qual scope f cdv A outer s H E) [] σ' H' s' → RelV v u → Q v H' → CE outer P w H s Q u s':=
  fun {σ' H' v u} J rv q => ⟨v,H',J.os,J.bare,J.base,J.hok,rv,q⟩
 cases fl with
 | ret u=>
  obtain ⟨v,σ',H',J,rv,q⟩ := hs
  exact fin J rv q
 | next=>
  obtain ⟨σ',H',J,q⟩ := hs
  exact fin (v := V.non) (u := Value.none) J rfl q
 | brk=>
  obtain ⟨_,_,_,q⟩ := hs
  exact False.elim q
 | cont=>
  obtain ⟨_,_,_,q⟩ := hs
  exact False.elim q
section
variable {X : Cx} {x : Str} {p pos : Pos} {e : Expr} {es : List Expr} {t : TA} {id T : String} {r : List V → Hp → VK → Prop}
def tCB (r : List V → Hp → VK → Prop) (t : TA) : TE := fun σ H Q => t σ H fun vs H1 => r vs H1 Q
theorem b0t (hc : CallR X (.builtin id) r) (hg : Gl X x) (hm : X.mg x = none) (hv : bootBuiltins x = some (.builtin id)) (ha : PA X (e :: es) t) (hn : x ≠ "__name__" := by decide) (hdb : (x == ("__debug__" : Str)) = false := by decide)
  (he : starEach (e :: es) X.env = (false,eval e X.env) :: starEach es X.env := by rfl) (hpl : (backTo pos (starEach es X.env)).any (·.1) = false := by rfl) : PE X (.Call (.Name x p) (e :: es) [] pos) (tCB r t):= by
 intro pins s σ H Q I h
 refine wpAny_Call_Name_kw (S7 I hg hm hv ?_ hn hdb)
 exact PyProof.Rows.callWith_builtin1 (thn (ha pos pins s σ H _ I h) fun us s1 ⟨vs,H1,I1,r1,q1⟩ => hc pins s1 σ H1 vs us Q I1 r1 q1) he hpl
theorem a6C (hc : CallR X (.type T) r) (hg : Gl X x) (hm : X.mg x = none) (hv : bootBuiltins x = some (.type T)) (ha : PA X (e :: es) t) (hn : x ≠ "__name__" := by decide) (hdb : (x == ("__debug__" : Str)) = false := by decide)
  (he : starEach (e :: es) X.env = (false,eval e X.env) :: starEach es X.env := by rfl) (hpl : (backTo pos (starEach es X.env)).any (·.1) = false := by rfl) : PE X (.Call (.Name x p) (e :: es) [] pos) (tCB r t):= by
 intro pins s σ H Q I h
 refine wpAny_Call_Name_kw (S7 I hg hm hv ?_ hn hdb)
 exact PyProof.Rows.callWith_type1 (thn (ha pos pins s σ H _ I h) fun us s1 ⟨vs,H1,I1,r1,q1⟩ => hc pins s1 σ H1 vs us Q I1 r1 q1) he hpl
end
end L2
namespace HT
open PySem PyProof.Rows
section
variable {prog : Program} {w : World} {A : Around} {E : Value → Shared → Prop} {s : Shared}
theorem cat_tup {t b : Addr} {vs ws : List Value} {Q : Value → Shared → Prop} (ht : IsTup s.heap t vs.toArray) (hb : IsTup s.heap b ws.toArray) (hv : vs ≠ [])
  (h1 : ws = [] → Q (.ref t) s) (h2 : ws ≠ [] → Q (.ref s.heap.objs.size) { s with heap := s.heap.push { cls := .type "tuple",data := .seq (vs ++ ws).toArray } })
  (hsz : vs.length + ws.length ≤ sizeLine) : wpAny (model prog w) A (binaryOp .Add (.ref t) (.ref b)) Q E s:= by
 obtain ⟨⟨cls,dd,data,sl⟩,ho,hc,n,hd⟩ := id ht
 obtain ⟨⟨cls2,dd2,data2,sl2⟩,ho2,hc2,n2,hd2⟩ := id hb
 simp only at hc hd hc2 hd2
 subst hc hd hc2 hd2
 have e : vs.toArray ++ ws.toArray = (vs ++ ws).toArray := by simp
 by_cases hw : ws = []
 ·exact concat_meets ⟨_,ho,rfl⟩ ⟨_,ho2,rfl⟩ noFill_tuple_add seq_tuple_add PySem.F.slot_tuple_add PySem.F.entry_tuple_add (PySem.F.args_tuple_add_2 _ _)
   (tuple_addW1 t b vs.toArray ws.toArray n n2 dd dd2 sl sl2 (by simpa using hv) (by simp [hw])) ⟨ho,ho2,h1 hw⟩
 ·refine concat_meets ⟨_,ho,rfl⟩ ⟨_,ho2,rfl⟩ noFill_tuple_add seq_tuple_add PySem.F.slot_tuple_add PySem.F.entry_tuple_add (PySem.F.args_tuple_add_2 _ _)
   (tuple_addW2 t b vs.toArray ws.toArray n n2 dd dd2 sl sl2 (by simpa using hv) (by simpa using hw) (by rw [List.size_toArray,List.size_toArray]; exact hsz)) ⟨ho,ho2,?_⟩
  rw [e]
  exact h2 hw
def sIx (n d : Nat) : Option Int → Nat
 | none => d
 | some v => if v < 0 then (v + (n : Int)).toNat else min v.toNat n
theorem sIx_nat (n d k : Nat) : sIx n d (some (k : Int)) = min k n:= by
 show (if (k : Int) < 0 then ((k : Int) + (n : Int)).toNat else min (k : Int).toNat n) = min k n
 rw [if_neg (by omega),Int.toNat_natCast]
theorem a88 (n d : Nat) (hd : d ≤ n) (o : Option Int) : sIx n d o ≤ n:= by
 cases o with
 | none => exact hd
 | some v=>
  show (if v < 0 then (v + (n : Int)).toNat else min v.toNat n) ≤ n
  by_cases hv : v < 0
  ·rw [if_pos hv]; omega
  ·rw [if_neg hv]; exact Nat.min_le_right _ _
theorem a6T (v : Int) (n d : Nat) : (if v < 0 then max (v + (n : Int)) 0 else min v (n : Int)) = ((sIx n d (some v) : Nat) : Int):= by
 show (if v < 0 then max (v + (n : Int)) 0 else min v (n : Int)) = (((if v < 0 then (v + (n : Int)).toNat else min v.toNat n) : Nat) : Int)
 by_cases hv : v < 0
 ·simp only [if_pos hv]; omega
 ·simp only [if_neg hv]; omega
theorem a5I (lo hi : Option Int) (n : Nat) : Builtin.Slice.sliceAdjust lo hi 1 (n : Int) = (((sIx n 0 lo : Nat) : Int),((sIx n n hi : Nat) : Int)):= by
 have h1 : ¬ ((1 : Int) < 0) := by omega
 unfold Builtin.Slice.sliceAdjust
 simp only [h1,if_false]
 refine Prod.ext ?_ ?_
 ·cases lo with
  | none => rfl
  | some v => exact a6T v n 0
 ·cases hi with
  | none => rfl
  | some v => exact a6T v n n
theorem a5T (i j : Nat) : Builtin.Slice.slicePlaces (i : Int) (j : Int) 1 = j - i:= by
 unfold Builtin.Slice.slicePlaces
 have h1 : (1 : Int) > 0 := by omega
 simp only [h1,if_true,Int.ediv_one]
 split <;> omega
theorem a6o {v : Value} {o : Option Int} {Q : Option Int → Shared → Prop} (p : IsPart v o) (h : Q o s) : wpAny (model prog w) A (Builtin.Slice.slicePartIndex v) Q E s:= by
 cases p with
 | none => exact slicePart_none h
 | int i t => exact slicePart_int h
theorem a6l {sl : Addr} {vl vu : Value} {lo hi : Option Int} {n : Nat} {Q : Int × Int × Nat → Shared → Prop} (hs : s.heap.IsSliceOf sl vl vu .none) (pl : IsPart vl lo) (pu : IsPart vu hi)
  (h : Q (((sIx n 0 lo : Nat) : Int),1,sIx n n hi - sIx n 0 lo) s) : wpAny (model prog w) A (Builtin.Slice.sliceApplied (.ref sl) (pure (n : Int))) Q E s:= by
 obtain ⟨os,hos,hcs,hds⟩ := id hs
 unfold Builtin.Slice.sliceApplied Builtin.Slice.sliceFields
 refine wpAny_bind (wpAny_bind (wpAny_field hos hds (x := vl) rfl (wpAny_bind (wpAny_field hos hds (x := vu) rfl (wpAny_bind (wpAny_field hos hds (x := .none) rfl (wpAny_pure ?_)))))))
 refine wpAny_bind (slicePart_none ?_)
 show wpAny _ _ (if ((1 : Int) == 0) = true then _ else _) _ _ s
 rw [if_neg (by decide)]
 refine wpAny_bind (a6o pl (wpAny_bind (a6o pu (wpAny_bind (wpAny_pure ?_)))))
 show wpAny _ _ (match Builtin.Slice.sliceAdjust lo hi 1 (n : Int) with | (lo,hi) => pure (lo,(1 : Int),Builtin.Slice.slicePlaces lo hi 1)) _ _ s
 rw [a5I lo hi n]
 show wpAny _ _ (pure (((sIx n 0 lo : Nat) : Int),(1 : Int),Builtin.Slice.slicePlaces ((sIx n 0 lo : Nat) : Int) ((sIx n n hi : Nat) : Int) 1)) _ _ s
 rw [a5T]
 exact wpAny_pure h
theorem a9m (xs : Array Value) (i k : Nat) : ((List.range k).filterMap fun (m : Nat) => xs[((i : Int) + (m : Int) * 1).toNat]?).toArray = ((xs.toList.drop i).take k).toArray:= by
 have e : (fun (m : Nat) => xs[((i : Int) + (m : Int) * 1).toNat]?) = fun m => xs[i + m]?:= by
  funext m
  have : ((i : Int) + (m : Int) * 1).toNat = i + m := by omega
  rw [this]
 rw [e]
 have := pick_run xs i k
 rw [List.filterMap_map] at this
 have e2 : ((fun x => xs[x]?) ∘ fun x => i + x) = fun m => xs[i + m]? := rfl
 rw [e2] at this
 rw [this]
theorem getItem_tuple_cut {t sl : Addr} {items : Array Value} {vl vu : Value} {lo hi : Option Int} {Q : Value → Shared → Prop} (ht : IsTup s.heap t items) (hs : s.heap.IsSliceOf sl vl vu .none) (pl : IsPart vl lo) (pu : IsPart vu hi)
  (hw : ¬ (sIx items.size 0 lo = 0 ∧ sIx items.size items.size hi = items.size))
  (h : Q (.ref s.heap.objs.size) { s with heap := s.heap.push { cls := .type "tuple",data := .seq ((items.toList.drop (sIx items.size 0 lo)).take (sIx items.size items.size hi - sIx items.size 0 lo)).toArray } })
  (hsz : items.size ≤ sizeLine) : wpAny (model prog w) A (getItem (.ref t) (.ref sl)) Q E s:= by
 have htake : sizeOk (.seq ((items.toList.drop (sIx items.size 0 lo)).take (sIx items.size items.size hi - sIx items.size 0 lo)).toArray):= by
  show ((items.toList.drop (sIx items.size 0 lo)).take (sIx items.size items.size hi - sIx items.size 0 lo)).toArray.size ≤ sizeLine
  rw [List.size_toArray,List.length_take,List.length_drop,Array.length_toList]
  omega
 have hj : sIx items.size items.size hi ≤ items.size := a88 _ _ (Nat.le_refl _) hi
 obtain ⟨os,hos,hcs,hds⟩ := id hs
 have hTs : s.TypeIs (.ref sl) "slice" := ⟨os,hos,hcs⟩
 unfold getItem
 try with_reducible refine wpAny_holding ?_
 first | refine wpAny_bind (wpAny_pure ?_) | skip
 refine wpAny_bind (wpAny_sequenceKey ht.typeIs (by decide) ?_)
 refine wpAny_bind (wpAny_callSpecial?_slot (name := Str.ofString "__getitem__") ht.typeIs PyProof.Rows.slot_tuple_getitem
  (wpAny_call_entry PyProof.Rows.slot_tuple_getitem ht.typeIs entry_tuple_getitem ?_ (args_tuple_getitem _ _)))
 show wpAny _ _ (Builtin.Tuple.tupleItemsOf (.ref t) >>= _) _ _ s
 refine wpAny_bind (tupleItemsOf_ ht ?_)
 refine wpAny_bind (wpAny_typeOf hTs ?_)
 rw [if_pos (by decide)]
 refine wpAny_bind (a6l hs pl pu ?_)
 have hno : ¬ ((((sIx items.size 0 lo : Nat) : Int) == 0 && (1 : Int) == 1 && (sIx items.size items.size hi - sIx items.size 0 lo) == items.size) = true):= by
  intro q
  rw [Bool.and_eq_true,Bool.and_eq_true] at q
  have q1 : ((sIx items.size 0 lo : Nat) : Int) = 0 := eq_of_beq q.1.1
  have q2 : sIx items.size items.size hi - sIx items.size 0 lo = items.size := eq_of_beq q.2
  exact hw ⟨by omega,by omega⟩
 show wpAny _ _ (if (((sIx items.size 0 lo : Nat) : Int) == 0 && (1 : Int) == 1 && (sIx items.size items.size hi - sIx items.size 0 lo) == items.size) = true then _ else _) _ _ s
 rw [if_neg hno,a9m]
 first
  | exact wpAny_bind (m := Builtin.Tuple.tupleExact _) (wpAny_newObj_type (wpAny_pure ⟨_,rfl,wpAny_pure h⟩) htake)
  | exact wpAny_bind (m := Builtin.Tuple.tupleExact _) (wpAny_newObj_type (wpAny_bind (wpAny_pure (wpAny_pure ⟨_,rfl,wpAny_pure h⟩))) htake)
  | exact wpAny_bind (wpAny_bind (m := Builtin.Tuple.tupleExact _) (wpAny_newObj_type (wpAny_pure (wpAny_pure ⟨_,rfl,wpAny_pure h⟩)) htake))
  | exact wpAny_bind (wpAny_bind (m := Builtin.Tuple.tupleExact _) (wpAny_newObj_type (wpAny_pure ⟨_,rfl,wpAny_pure h⟩) htake))
end
end HT
namespace L2
open PySem PySem.Spec PyProof.Rows
abbrev TO := St → Hp → (Option Int → Hp → Prop) → Prop
def PO (X : Cx) (e : Option Expr) (t : TO) : Prop:=
 ∀ (pins : List (Addr × Obj)) (s : Shared) (σ : St) (H : Hp) (Q : Option Int → Hp → Prop),Inv X pins σ H s → t σ H Q →
  wpAny (model X.prog X.w) X.A (evalPart e X.env) (fun u s' => ∃ o H',Inv X pins σ H' s' ∧ IsPart u o ∧ Q o H') X.xe s
def b2j : TO := fun _ H Q => Q none H
def b2y (t : TE) : TO := fun σ H Q => t σ H fun x H1 => ∃ i,x = .int i ∧ Q (some i) H1
section
variable {X : Cx} {e : Expr} {te : TE} {lo hi : Option Expr} {tl th : TO} {pos p2 : Pos}
theorem a4q : PO X none b2j:= by
 intro pins s σ H Q I h
 rw [evalPart_none]
 exact wpAny_pure ⟨none,H,I,.none,h⟩
theorem a5w (h : PE X e te) : PO X (some e) (b2y te):= by
 intro pins s σ H Q I hw
 rw [evalPart_some]
 refine thn (h pins s σ H _ I hw) fun u s1 ⟨x,H1,I1,r1,q1⟩ => ?_
 obtain ⟨i,rfl,q⟩ := q1
 obtain ⟨t,rfl⟩ := r1
 exact ⟨some i,H1,I1,.int i t,q⟩
def SlR (X : Cx) (r : V → Option Int → Option Int → Hp → VK → Prop) : Prop:=
 ∀ (pins : List (Addr × Obj)) (s : Shared) (σ : St) (H : Hp) (x : V) (v vl vu : Value) (lo hi : Option Int) (sl : Addr) (Q : VK),Inv X pins σ H s → RelV x v → s.heap.IsSliceOf sl vl vu .none → IsPart vl lo → IsPart vu hi → r x lo hi H Q →
  ∃ T id,typeLookup (.type T) "__getitem__" = pure (some (.builtin id)) ∧ s.TypeIs v T ∧ wpAny (model X.prog X.w) X.A (getItem v (.ref sl)) (EP X pins σ Q) X.xe s
theorem SlR.or {r r' : V → Option Int → Option Int → Hp → VK → Prop} (h : SlR X r) (h' : SlR X r') : SlR X (fun x lo hi H Q => r x lo hi H Q ∨ r' x lo hi H Q):= by
 intro pins s σ H x v vl vu lo hi sl Q I rx hs pl pu q
 rcases q with q | q
 ·exact h pins s σ H x v vl vu lo hi sl Q I rx hs pl pu q
 ·exact h' pins s σ H x v vl vu lo hi sl Q I rx hs pl pu q
def tSl (r : V → Option Int → Option Int → Hp → VK → Prop) (te : TE) (tl th : TO) : TE := fun σ H Q => te σ H fun x H1 => tl σ H1 fun l H2 => th σ H2 fun u H3 => r x l u H3 Q
theorem a7t {r : V → Option Int → Option Int → Hp → VK → Prop} (hr : SlR X r) (he : PE X e te) (hl : PO X lo tl) (hu : PO X hi th) : PE X (.Subscript e (.Slice lo hi none p2) pos) (tSl r te tl th):= by
 intro pins s σ H Q I h
 refine Subscript_ (thn (he pins s σ H _ I h) fun v s1 ⟨x,H1,I1,r1,q1⟩ => ?_)
 refine wpAny_Slice (thn (hl pins s1 σ H1 _ I1 q1) fun vl s2 ⟨l,H2,I2,pl,q2⟩ => thn (hu pins s2 σ H2 _ I2 q2) fun vu s3 ⟨u,H3,I3,pu,q3⟩ => ?_)
 rw [evalPart_none]
 refine wpAny_pure ?_
 have I4 : Inv X pins σ H3 { s3 with heap := s3.heap.push { cls := .type "slice",data := .fields #[vl,vu,.none] } } := I3.kept (t' := s3.toks) fun b ob q => Heap.get?_push_of_some _ q
 obtain ⟨T,id,hT,ht,hg⟩ := hr pins { s3 with heap := s3.heap.push { cls := .type "slice",data := .fields #[vl,vu,.none] } } σ H3 x v vl vu l u s3.heap.objs.size Q I4 r1 (Heap.IsSliceOf.new ..) pl pu q3
 show wpAny (model X.prog X.w) X.A (subscriptTail e (.Slice lo hi none p2) v (.ref s3.heap.objs.size)) (EP X pins σ Q) X.xe { s3 with heap := s3.heap.push { cls := .type "slice",data := .fields #[vl,vu,.none] } }
 exact tail_any (ops := [.ref s3.heap.objs.size,v]) ht hT hg (by with_unfolding_all rfl)
def G6 (xs : List V) (lo hi : Option Int) : List V := (xs.drop (HT.sIx xs.length 0 lo)).take (HT.sIx xs.length xs.length hi - HT.sIx xs.length 0 lo)
theorem a5B (xs : List V) (lo hi : Option Int) : (G6 xs lo hi).length ≤ xs.length:= by
 unfold G6
 rw [List.length_take,List.length_drop]
 omega
def a7N (K : PySem.W.Frag) : V → Option Int → Option Int → Hp → VK → Prop := fun x lo hi H Q => ∃ a xs,x = .ref a ∧ SqT K H a xs ∧
 ¬ (HT.sIx xs.length 0 lo = 0 ∧ HT.sIx xs.length xs.length hi = xs.length) ∧ ∀ p,H p = none → Q (.ref p) (upd H p (.tup (G6 xs lo hi)))
theorem a93 : SlR X (a7N X.K):= by
 intro pins s σ H x v vl vu lo hi sl Q I rx hs pl pu h
 obtain ⟨a,xs,rfl,hx,hw,q⟩ := h
 cases rx
 obtain ⟨its,r,ht,hz⟩ := I.tuple hx
 have hlen : its.toArray.size = xs.length := by rw [List.size_toArray]; exact r.length.symm
 refine ⟨"tuple",_,PyProof.Rows.slot_tuple_getitem.lookup,ht.typeIs,?_⟩
 refine HT.getItem_tuple_cut ht hs pl pu (by rw [hlen]; exact hw) ?_ (by rw [hlen]; exact hz)
 rw [hlen]
 refine ⟨.ref s.heap.objs.size,_,I.laid (t' := s.toks) (o := .tup (G6 xs lo hi)) (fun b ob q => Heap.get?_push_of_some _ q) (Nat.le_refl _) ?_,rfl,q _ (I.hok.fresh (Nat.le_refl _))⟩
 exact ⟨Nat.le_trans (a5B xs lo hi) hz,_,(r.drop (HT.sIx xs.length 0 lo)).take (HT.sIx xs.length xs.length hi - HT.sIx xs.length 0 lo),IsTup.new _ _⟩
def a7q (K : PySem.W.Frag) : R2 := fun x y H Q => ∃ a b xs ys,x = .ref a ∧ y = .ref b ∧ SqT K H a xs ∧ SqT K H b ys ∧ xs ≠ [] ∧ xs.length + ys.length ≤ sizeLine ∧
 (ys = [] → Q (.ref a) H) ∧ (ys ≠ [] → ∀ p,H p = none → Q (.ref p) (upd H p (.tup (xs ++ ys))))
theorem Vals.nil_iff {xs : List V} {us : List Value} (r : Vals xs us) : us = [] ↔ xs = []:= by
 cases r with
 | nil => simp
 | cons _ _ => simp
theorem a8v : OpR X (binaryOp .Add) (a7q X.K):= by
 intro pins s σ H x y v u Q I rx ry h
 obtain ⟨a,b,xs,ys,rfl,rfl,ha,hb,hx,hz,q1,q2⟩ := h
 cases rx
 cases ry
 obtain ⟨its,r1,p1,_⟩ := I.tuple ha
 obtain ⟨its2,r2,p2,_⟩ := I.tuple hb
 refine HT.cat_tup p1 p2 (fun z => hx (r1.nil_iff.mp z)) (fun z => ⟨.ref a,H,I,rfl,q1 (r2.nil_iff.mp z)⟩) (fun z => ?_) (by rw [← r1.length,← r2.length]; exact hz)
 refine ⟨.ref s.heap.objs.size,_,I.laid (t' := s.toks) (o := .tup (xs ++ ys)) (fun b ob q => Heap.get?_push_of_some _ q) (Nat.le_refl _) ?_,rfl,q2 (fun w => z (r2.nil_iff.mpr w)) _ (I.hok.fresh (Nat.le_refl _))⟩
 exact ⟨by rw [List.length_append]; exact hz,_,r1.append r2,IsTup.new _ _⟩
end
def ixN (n : Nat) (i : Int) : Option Nat := if 0 ≤ i then (if i < n then some i.toNat else none) else if -(n : Int) ≤ i then some (i + n).toNat else none
def atI {α : Type} (xs : List α) (i : Int) : Option α := (ixN xs.length i).bind fun j => xs[j]?
theorem a7x {n : Nat} {i : Int} {j : Nat} (h : ixN n i = some j) : seqIndex? i n = some j ∧ j < n ∧ -(n : Int) ≤ i ∧ i < n:= by
 unfold ixN at h
 by_cases h0 : 0 ≤ i
 ·rw [if_pos h0] at h
  by_cases h1 : i < n
  ·rw [if_pos h1] at h
   have e : i.toNat = j := Option.some.inj h
   exact ⟨by rw [seqIndex_of h0 h1,e],by omega,by omega,h1⟩
  ·rw [if_neg h1] at h; cases h
 ·rw [if_neg h0] at h
  by_cases h1 : -(n : Int) ≤ i
  ·rw [if_pos h1] at h
   have e : (i + n).toNat = j := Option.some.inj h
   exact ⟨by rw [seqIndex_neg (by omega) h1,e],by omega,h1,by omega⟩
  ·rw [if_neg h1] at h; cases h
theorem a7n {α : Type} {xs : List α} {i : Int} {v : α} (h : atI xs i = some v) : ∃ j,seqIndex? i xs.length = some j ∧ xs[j]? = some v ∧ j < xs.length ∧ -(xs.length : Int) ≤ i ∧ i < xs.length:= by
 unfold atI at h
 cases e : ixN xs.length i with
 | none => rw [e] at h; cases h
 | some j=>
  rw [e] at h
  obtain ⟨h1,h2,h3,h4⟩ := a7x e
  exact ⟨j,h1,h,h2,h3,h4⟩
theorem a0C {α : Type} (xs : List α) (v : α) : atI (xs ++ [v]) (-1) = some v:= by
 have hl : (xs ++ [v]).length = xs.length + 1 := by simp
 have e : ixN (xs ++ [v]).length (-1) = some xs.length:= by
  unfold ixN
  rw [hl,if_neg (by decide),if_pos (by omega)]
  congr 1
  omega
 unfold atI
 rw [e]
 show (xs ++ [v])[xs.length]? = some v
 simp
def a50 (b : Expr) : Prop := ∀ o i,subscripted b false o i = operate [o,i] (getItem o i)
def IxR (X : Cx) (r : R2) : Prop:=
 ∀ (value slice : Expr) (pins : List (Addr × Obj)) (s : Shared) (σ : St) (H : Hp) (x y : V) (v u : Value) (Q : VK),Inv X pins σ H s → RelV x v → RelV y u → r x y H Q →
  subscripted slice false v u = operate [v,u] (getItem v u) → wpAny (model X.prog X.w) X.A (subscriptTail value slice v u) (EP X pins σ Q) X.xe s
def MtR (X : Cx) (id : String) (r : V → List V → Hp → VK → Prop) : Prop:=
 ∀ (pins : List (Addr × Obj)) (s : Shared) (σ : St) (H : Hp) (x : V) (xs : List V) (v : Value) (us : List Value) (Q : VK),Inv X pins σ H s → RelV x v → Vals xs us → r x xs H Q →
  wpAny (model X.prog X.w) X.A (call (.builtin id) (v :: us)) (EP X pins σ Q) X.xe s
section
variable {X : Cx} {a b : Expr} {ta tb : TE} {pos : Pos}
theorem IxR.or {r r' : R2} (h : IxR X r) (h' : IxR X r') : IxR X (fun x y H Q => r x y H Q ∨ r' x y H Q):= by
 intro value slice pins s σ H x y v u Q I rx ry q hs
 rcases q with q | q
 ·exact h value slice pins s σ H x y v u Q I rx ry q hs
 ·exact h' value slice pins s σ H x y v u Q I rx ry q hs
theorem a7H {r : R2} (hr : IxR X r) (ha : PE X a ta) (hb : PE X b tb) (hs : a50 b) : PE X (.Subscript a b pos) (tOp r ta tb):= by
 intro pins s σ H Q I h
 exact Subscript_ (a1N ha hb I h fun v u s2 x y H2 I2 rx ry q => hr a b pins s2 σ H2 x y v u Q I2 rx ry q (hs _ _))
def a1z (K : PySem.W.Frag) : R2 := fun x y H Q => ∃ p xs i v,x = .ref p ∧ y = .int i ∧ SqL K H p xs ∧ atI xs i = some v ∧ Q v H
def a4l (K : PySem.W.Frag) : R2 := fun x y H Q => ∃ p xs i v,x = .ref p ∧ y = .int i ∧ SqT K H p xs ∧ atI xs i = some v ∧ Q v H
theorem ix_list : IxR X (a1z X.K):= by
 intro value slice pins s σ H x y v u Q I rx ry h hs
 obtain ⟨p,xs,i,z,rfl,rfl,hq,he,q⟩ := h
 cases rx
 obtain ⟨t,rfl⟩ := ry
 obtain ⟨its,r,pl,hz⟩ := I.list hq
 obtain ⟨j,h1,h2,h3,h4,h5⟩ := a7n he
 obtain ⟨w,ew,rw'⟩ := r.get h2
 have hl := r.length
 have hn := V3
 have fin : EP X pins σ Q w s := ⟨z,H,I,rw',q⟩
 by_cases h0 : 0 ≤ i
 ·have hj : i.toNat = j:= by
   rw [seqIndex_of h0 h5] at h1
   exact Option.some.inj h1
  exact item_listR pl.isList h0 (by omega) (by rw [hj]; simpa using ew) fin hs
 ·have hj : (i + (its.toArray.size : Int)).toNat = j:= by
   rw [seqIndex_neg (by omega) h4] at h1
   rw [List.size_toArray,← hl]
   exact Option.some.inj h1
  exact subscriptTail_builtinR (x := w) pl.isList.typeIs slot_list_getitem.lookup
   (wpAny_getItem_list_neg (Q := fun r s' => r = w ∧ EP X pins σ Q r s') pl.isList (by omega) (by rw [List.size_toArray] <;> omega) (by omega) (by rw [hj]; simpa using ew) ⟨rfl,fin⟩) hs
theorem b2E : IxR X (a4l X.K):= by
 intro value slice pins s σ H x y v u Q I rx ry h hs
 obtain ⟨p,xs,i,z,rfl,rfl,hq,he,q⟩ := h
 cases rx
 obtain ⟨t,rfl⟩ := ry
 obtain ⟨its,r,pl,hz⟩ := I.tuple hq
 obtain ⟨j,h1,h2,h3,h4,h5⟩ := a7n he
 obtain ⟨w,ew,rw'⟩ := r.get h2
 have hl := r.length
 have hn := V3
 have fin : EP X pins σ Q w s := ⟨z,H,I,rw',q⟩
 exact subscriptTail_builtinR (x := w) pl.typeIs slot_tuple_getitem.lookup
  (getItem_tuple (j := j) (Q := fun r s' => r = w ∧ EP X pins σ Q r s') pl (by omega) (by omega) (by rw [List.size_toArray,← hl]; exact h1) (by simpa using ew) ⟨rfl,fin⟩) hs
theorem b20 (its : List Value) (n j : Nat) (u : Value) : Obj.mapSeq (·.setIfInBounds j u) { cls := .type "list",data := .seq its.toArray n } = { cls := .type "list",data := .seq (its.set j u).toArray n }:= by
 simp [Obj.mapSeq]
theorem Inv.lst {pins : List (Addr × Obj)} {σ : St} {H : Hp} {s : Shared} {p : Addr} {xs : List V} (I : Inv X pins σ H s) (h : H p = some (.lst xs)) :
  ∃ (its : List Value) (n : Nat),Vals xs its ∧ s.heap.get? p = some { cls := .type "list",data := .seq its.toArray n } ∧ xs.length ≤ sizeLine:= by
 obtain ⟨z,its,n,r,e⟩ := I.hok p _ h
 exact ⟨its,n,r,e,z⟩
theorem Inv.lstUpd {pins : List (Addr × Obj)} {σ : St} {H : Hp} {s : Shared} {p : Addr} {xs ys : List V} {its its' : List Value} {n n' : Nat} {f : Obj → Obj} (I : Inv X pins σ H s) (h : H p = some (.lst xs))
  (ho : s.heap.get? p = some { cls := .type "list",data := .seq its.toArray n }) (hf : f { cls := .type "list",data := .seq its.toArray n } = { cls := .type "list",data := .seq its'.toArray n' }) (r : Vals ys its') (hz : ys.length ≤ sizeLine) (t : Nat) :
  Inv X pins σ (upd H p (.lst ys)) { s with heap := s.heap.update p f,toks := t }:= by
 have e : (s.heap.update p f).get? p = some { cls := .type "list",data := .seq its'.toArray n' }:= by
  rw [Heap.get?_update_self f ho (by rw [hf] <;> rfl),hf]
 refine I.write (x := p) (e := p) (by rw [h]; trivial) (.inl rfl) (fun b u hb q => (Heap.get?_update_other _ _ (Ne.symm hb)).trans q) ⟨_,e⟩ ?_
 exact ⟨hz,its',n',r,e⟩
def b3P : V → V → V → Hp → (Hp → Prop) → Prop := fun o i v H Q => ∃ p xs k j,o = .ref p ∧ i = .int k ∧ H p = some (.lst xs) ∧ ixN xs.length k = some j ∧ Q (upd H p (.lst (xs.set j v)))
theorem a8u : a48 X b3P:= by
 intro pins s σ H o i v ov iv u Q I ro ri rv h
 obtain ⟨p,xs,k,j,rfl,rfl,hp,hj,q⟩ := h
 cases ro
 obtain ⟨t,rfl⟩ := ri
 obtain ⟨its,n,r,ho,hz⟩ := I.lst hp
 obtain ⟨h1,h2,h3,h4⟩ := a7x hj
 have hl := r.length
 have hn := V3
 have I' : Inv X pins σ (upd H p (.lst (xs.set j v))) { s with heap := s.heap.update p (Obj.mapSeq (·.setIfInBounds j u)) }:=
  I.lstUpd hp ho (b20 its n j u) (r.set rv j) (by rw [List.length_set]; exact hz) s.toks
 by_cases h0 : 0 ≤ k
 ·have hk : k.toNat = j:= by
   rw [seqIndex_of h0 h4] at h1
   exact Option.some.inj h1
  exact PySem.W.ki_setAt ho h0 (by omega) (by rw [List.size_toArray,← hl]; exact h4) (by rw [hk]; exact ⟨_,I',q⟩)
 ·have hk : (k + (its.toArray.size : Int)).toNat = j:= by
   rw [seqIndex_neg (by omega) h3] at h1
   rw [List.size_toArray,← hl]
   exact Option.some.inj h1
  exact PySem.W.ki_setBack ho (by omega) (by rw [List.size_toArray,← hl]; exact h3) (by omega) (by rw [hk]; exact ⟨_,I',q⟩)
theorem a9i (lo hi : Option Int) (n : Nat) : (sliceBounds lo hi none n).1 = ((HT.sIx n 0 lo : Nat) : Int) ∧ (sliceBounds lo hi none n).2.1 = ((HT.sIx n n hi : Nat) : Int) ∧ (sliceBounds lo hi none n).2.2 = 1:= by
 have key : ∀ i : Int,(sliceBounds (some i) none none n).1 = ((HT.sIx n 0 (some i) : Nat) : Int) := fun i => by
  simp only [sliceBounds,HT.sIx,Option.getD_none,show (1 : Int) > 0 by decide,if_true]
  by_cases h : i < 0
  ·simp only [h,if_true] <;> omega
  ·simp only [h,if_false] <;> omega
 refine ⟨?_,?_,rfl⟩
 ·cases lo with
  | none => simp [sliceBounds,HT.sIx]
  | some i => exact key i
 ·cases hi with
  | none => simp [sliceBounds,HT.sIx]
  | some i => exact key i
theorem b0v (its : List Value) (lo hi : Option Int) : slicePick its.toArray lo hi none = ((its.drop (HT.sIx its.length 0 lo)).take (HT.sIx its.length its.length hi - HT.sIx its.length 0 lo)).toArray:= by
 obtain ⟨h1,h2,h3⟩ := a9i lo hi its.toArray.size
 unfold slicePick
 rw [h1,h2,h3]
 simp only [sliceRange_one,pick_run,List.size_toArray] <;> rfl
def b38 (K : PySem.W.Frag) : V → Option Int → Option Int → Hp → VK → Prop := fun x lo hi H Q => ∃ a xs,x = .ref a ∧ SqL K H a xs ∧ ∀ p,H p = none → Q (.ref p) (upd H p (.lst (G6 xs lo hi)))
theorem a7A : SlR X (b38 X.K):= by
 intro pins s σ H x v vl vu lo hi sl Q I rx hs pl pu h
 obtain ⟨a,xs,rfl,hx,q⟩ := h
 cases rx
 obtain ⟨its,r,ht,hz⟩ := I.list hx
 have hlen := r.length
 refine ⟨"list",_,slot_list_getitem.lookup,ht.isList.typeIs,?_⟩
 refine wpAny_getItem_list_slice ht.isList hs pl pu .none (by simp) ?_ (by rw [List.size_toArray] <;> omega)
 rw [b0v,← hlen]
 refine ⟨.ref s.heap.objs.size,_,I.laid (t' := s.toks) (o := .lst (G6 xs lo hi)) (fun b ob q => Heap.get?_push_of_some _ q) (Nat.le_refl _) ?_,rfl,q _ (I.hok.fresh (Nat.le_refl _))⟩
 exact ⟨Nat.le_trans (a5B xs lo hi) hz,_,0,(r.drop (HT.sIx xs.length 0 lo)).take (HT.sIx xs.length xs.length hi - HT.sIx xs.length 0 lo),Heap.get?_push_size _ rfl⟩
theorem call_len_seq : CallR X (.builtin "len") (fun xs H Q => ∃ p ys,xs = [.ref p] ∧ (SqL X.K H p ys ∨ SqT X.K H p ys) ∧ Q (.int ys.length) H):= by
 intro pins s σ H xs us Q I r h
 obtain ⟨p,ys,rfl,hq,q⟩ := h
 obtain ⟨u,rfl,rx⟩ := R3 r
 cases rx
 have hn := V3
 rcases hq with hq | hq
 ·obtain ⟨its,r',pl,hz⟩ := I.list hq
  have hlen := r'.length
  exact Calls.call_len_list pl.isList (by simp only [List.size_toArray] <;> omega) ⟨.int ys.length,H,I.tok _,⟨s.toks + 1,by rw [List.size_toArray,hlen]⟩,q⟩
 ·obtain ⟨its,r',pl,hz⟩ := I.tuple hq
  have hlen := r'.length
  exact len_tuple pl (by simp only [List.size_toArray] <;> omega) ⟨.int ys.length,H,I.tok _,⟨s.toks + 1,by rw [List.size_toArray,hlen]⟩,q⟩
theorem a8S : CallR X (.builtin "len") (fun xs H Q => ∃ z,xs = [.str z] ∧ z.length ≤ sizeLine ∧ Q (.int z.length) H):= by
 intro pins s σ H xs us Q I r h
 obtain ⟨z,rfl,hz,q⟩ := h
 obtain ⟨u,rfl,t,rfl⟩ := R3 r
 have hn := V3
 exact len_str (by omega) ⟨.int z.length,H,I.tok _,⟨_,rfl⟩,q⟩
theorem CallR.or {f : Value} {r r' : List V → Hp → VK → Prop} (h : CallR X f r) (h' : CallR X f r') : CallR X f (fun xs H Q => r xs H Q ∨ r' xs H Q):= by
 intro pins s σ H xs us Q I rs q
 rcases q with q | q
 ·exact h pins s σ H xs us Q I rs q
 ·exact h' pins s σ H xs us Q I rs q
theorem b1u : CallR X (.type "list") (fun xs H Q => ∃ p ys,xs = [.ref p] ∧ (SqL X.K H p ys ∨ SqT X.K H p ys) ∧ ∀ l,H l = none → Q (.ref l) (upd H l (.lst ys))):= by
 intro pins s σ H xs us Q I r h
 obtain ⟨p,ys,rfl,hq,q⟩ := h
 obtain ⟨u,rfl,rx⟩ := R3 r
 cases rx
 have fin : ∀ (its : List Value),Vals ys its → ys.length ≤ sizeLine → ∀ (h' : Heap) (c' : Nat),(∀ b o',s.heap.get? b = some o' → h'.get? b = some o') →
   h'.get? s.heap.objs.size = some { cls := .type "list",dict := none,data := .seq its.toArray c',slots := #[] } → EP X pins σ Q (.ref s.heap.objs.size) { s with heap := h' } := fun its r' hz h' c' kp e=>
  ⟨.ref s.heap.objs.size,_,I.laid (t' := s.toks) kp (Nat.le_refl _) (show ObjOk X.prog X.w _ h' _ (.lst ys) from ⟨hz,its,c',r',e⟩),rfl,q _ (I.hok.fresh (Nat.le_refl _))⟩
 rcases hq with hq | hq
 ·obtain ⟨its,r',pl,hz⟩ := I.list hq
  have hlen := r'.length
  obtain ⟨o,ho,hc,n,hd⟩ := pl.isList
  exact call_list_seq p (.inl rfl) ho hc hd (fun h' c' kp e => fin its r' hz h' c' kp e) (by simp only [List.size_toArray] <;> omega)
 ·obtain ⟨its,r',pl,hz⟩ := I.tuple hq
  have hlen := r'.length
  obtain ⟨o,ho,hc,n,hd⟩ := pl
  exact call_list_seq p (.inr rfl) ho hc hd (fun h' c' kp e => fin its r' hz h' c' kp e) (by simp only [List.size_toArray] <;> omega)
theorem W1 : CallR X (.type "tuple") (fun xs H Q => ∃ p ys,xs = [.ref p] ∧ ((SqL X.K H p ys ∧ ∀ l,H l = none → Q (.ref l) (upd H l (.tup ys))) ∨ (SqT X.K H p ys ∧ Q (.ref p) H))):= by
 intro pins s σ H xs us Q I r h
 obtain ⟨p,ys,rfl,h⟩ := h
 obtain ⟨u,rfl,rx⟩ := R3 r
 cases rx
 rcases h with ⟨hq,q⟩ | ⟨hq,q⟩
 ·obtain ⟨its,r',pl,hz⟩ := I.list hq
  have hlen := r'.length
  refine call_tuple_list pl.isList (fun h' kp => ?_) (by simp only [List.size_toArray] <;> omega)
  have I1 : Inv X pins σ H { s with heap := h' } := I.kept (t' := s.toks) kp
  have I2 : Inv X pins σ (upd H h'.objs.size (.tup ys)) { s with heap := h'.push { cls := .type "tuple",data := .seq its.toArray } }:=
   I1.laid (t' := s.toks) (fun b o e => Heap.get?_push_of_some _ e) (Nat.le_refl _) (show ObjOk X.prog X.w _ _ _ (.tup ys) from ⟨hz,its,r',IsTup.new _ _⟩)
  exact ⟨.ref h'.objs.size,_,I2,rfl,q _ (I1.hok.fresh (Nat.le_refl _))⟩
 ·obtain ⟨its,r',pl,hz⟩ := I.tuple hq
  exact call_tuple_same pl ⟨.ref p,H,I,rfl,q⟩
def tyV (K : PySem.W.Frag) (T : String) (x : V) (H : Hp) : Prop := match x with
 | .str _ => T = "str"
 | .int _ => T = "int"
 | .ref p => (T = "list" ∧ ∃ xs,SqL K H p xs) ∨ (T = "tuple" ∧ ∃ o,K.lookup p = some o ∧ o.cls = .type "tuple" ∧ o.dict = none) ∨
   (T = "dict" ∧ ((∃ kvs,H p = some (.dK kvs)) ∨ ∃ kvs,H p = some (.dT kvs))) ∨ (T = "set" ∧ ∃ S n,H p = some (.set S n))
 | _ => False
theorem a6P {pins : List (Addr × Obj)} {σ : St} {H : Hp} {s : Shared} {T : String} {x : V} {v : Value} (I : Inv X pins σ H s) (r : RelV x v) (ty : tyV X.K T x H) :
  s.TypeIs v T ∧ ∀ a,v = .ref a → ∃ ob,s.heap.get? a = some ob ∧ ob.dict = none:= by
 cases x with
 | str z=>
  obtain ⟨t,rfl⟩ := r
  cases (show T = "str" from ty)
  exact ⟨typeIs_str s z t,fun _ e => nomatch e⟩
 | int i=>
  obtain ⟨t,rfl⟩ := r
  cases (show T = "int" from ty)
  exact ⟨typeIs_int s i t,fun _ e => nomatch e⟩
 | ref p=>
  cases r
  rcases ty with ⟨rfl,xs,hq⟩ | ⟨rfl,o,hk,hc,hd⟩ | ⟨rfl,hk⟩ | ⟨rfl,S,n,hk⟩
  ·obtain ⟨its,_,pl,_⟩ := I.list hq
   refine ⟨pl.isList.typeIs,fun a e => ?_⟩
   cases e
   obtain ⟨o,n,e,c,hd,_⟩ := pl
   exact ⟨o,e,hd⟩
  ·refine ⟨⟨o,I.kIn p o hk,hc⟩,fun a e => ?_⟩
   cases e
   exact ⟨o,I.kIn _ o hk,hd⟩
  ·have z : ∃ o,s.heap.get? p = some o ∧ o.ExactDict:= by
    rcases hk with ⟨kvs,hk⟩ | ⟨kvs,hk⟩
    ·obtain ⟨_,_,_,_,o,_,_,e,ex,_⟩ := I.hok p _ hk
     exact ⟨o,e,ex⟩
    ·obtain ⟨_,_,_,_,o,_,_,e,ex,_⟩ := I.hok p _ hk
     exact ⟨o,e,ex⟩
   obtain ⟨o,e,ex⟩ := z
   refine ⟨⟨o,e,ex.1⟩,fun a e2 => ?_⟩
   cases e2
   exact ⟨o,e,ex.2.1⟩
  ·obtain ⟨o,_,_,_,e,ex,_⟩ := I.hok p _ hk
   refine ⟨⟨o,e,ex.1⟩,fun a e2 => ?_⟩
   cases e2
   exact ⟨o,e,ex.2.1⟩
 | _ => exact False.elim ty
def b1i (K : PySem.W.Frag) (T : String) (r : V → List V → Hp → VK → Prop) (to : TE) : TE := fun σ H Q => to σ H fun x H1 => tyV K T x H1 ∧ r x [] H1 Q
def tBM (K : PySem.W.Frag) (T : String) (r : V → List V → Hp → VK → Prop) (to : TE) (t : TA) : TE := fun σ H Q => to σ H fun x H1 => tyV K T x H1 ∧ t σ H1 fun xs H2 => r x xs H2 Q
variable {o e : Expr} {es : List Expr} {to : TE} {t : TA} {name : Str} {apos cpos : Pos} {T id : String} {r : V → List V → Hp → VK → Prop}
theorem b0F (pa : PlainAttrs T) (slot : Slot T name id) (hty : typeOf (.builtin id) = pure (.type "method_descriptor")) (hm : MtR X id r) (ho : PE X o to)
  (hbase : attributeBase o name X.env (eval o X.env) = eval o X.env := by rfl) (hline : (apos.endLine == cpos.line) = true := by rfl) : PE X (.Call (.Attribute o name apos) [] [] cpos) (b1i X.K T r to):= by
 intro pins s σ H Q I h
 refine wpAny_Call_method0_late hbase hline (thn (ho pins s σ H _ I h) fun v s1 ⟨x,H1,I1,r1,ty,q1⟩ => ?_)
 obtain ⟨h1,h2⟩ := a6P I1 r1 ty
 exact ⟨T,id,pa,slot,hty,h1,h2,Calls.callWith_builtin rfl (PySem.evalArgs_none (hm pins s1 σ H1 x [] v [] Q I1 r1 .nil q1))⟩
theorem b1o (pa : PlainAttrs T) (slot : Slot T name id) (hty : typeOf (.builtin id) = pure (.type "method_descriptor")) (hm : MtR X id r) (ho : PE X o to) (ha : PA X (e :: es) t)
  (hbase : attributeBase o name X.env (eval o X.env) = eval o X.env := by rfl)
  (hfew : ((backTo cpos (starEach (e :: es) X.env)).all (fun x => !x.1) && (backToKw cpos (keywordEach [] X.env)).all (fun x => x.1.isSome)
   && decide ((e :: es).length + ([] : List Keyword).length + (if ([] : List Keyword).isEmpty then 0 else 1) < 30)) = true := by rfl)
  (hline : (apos.endLine == cpos.line) = true := by rfl) (hs : starEach (e :: es) X.env = (false,eval e X.env) :: starEach es X.env := by rfl) (hplain : (backTo cpos (starEach es X.env)).any (·.1) = false := by rfl) :
  PE X (.Call (.Attribute o name apos) (e :: es) [] cpos) (tBM X.K T r to t):= by
 intro pins s σ H Q I h
 refine wpAny_Call_method_late hbase hfew hline rfl (thn (ho pins s σ H _ I h) fun v s1 ⟨x,H1,I1,r1,ty,q1⟩ => ?_)
 obtain ⟨h1,h2⟩ := a6P I1 r1 ty
 refine ⟨T,id,pa,slot,hty,h1,h2,?_⟩
 have hA := ha cpos pins s1 σ H1 _ I1 q1
 rw [hs] at hA ⊢
 refine Calls.callWith_builtin (by show (false || (backTo cpos (starEach es X.env)).any (·.1)) = false; rw [hplain] <;> rfl) (Calls.evalArgs_plain ?_)
 exact thn hA fun us s2 ⟨vs,H2,I2,r2,q2⟩ => hm pins s2 σ H2 x vs v us Q I2 r1 r2 q2
end
def MtM (X : Cx) (id : String) (r : V → List V → Hp → VK → Prop) : Prop:=
 ∀ (pins : List (Addr × Obj)) (s : Shared) (σ : St) (H : Hp) (x : V) (xs : List V) (v : Value) (us : List Value) (Q : VK),Inv X pins σ H s → RelV x v → Vals xs us → r x xs H Q →
  wpAny (model X.prog X.w) X.A (call (.builtin id) (v :: us)) (EP X pins σ Q) X.xe s
theorem Vals.one : ∀ {x : V} {us : List Value},Vals [x] us → ∃ u,us = [u] ∧ RelV x u:= by
 intro x us h
 cases h with
 | cons r t=>
  cases t
  exact ⟨_,rfl,r⟩
theorem Vals.zero : ∀ {us : List Value},Vals [] us → us = []
 | _,.nil => rfl
theorem Vals.reverse {xs : List V} {us : List Value} (h : Vals xs us) : Vals xs.reverse us.reverse:= by
 induction h with
 | nil => exact .nil
 | cons r t ih => rw [List.reverse_cons,List.reverse_cons]; exact Vals.append ih (.cons r .nil)
theorem Vals.rep {xs : List V} {us : List Value} (h : Vals xs us) : ∀ k : Nat,Vals (List.replicate k xs).flatten (List.replicate k us).flatten
 | 0 => .nil
 | k + 1 => by
  rw [List.replicate_succ,List.replicate_succ,List.flatten_cons,List.flatten_cons]
  exact Vals.append h (Vals.rep h k)
theorem a41 (its : List Value) : ∀ (k : Nat) (acc : List Value),
  List.foldl (fun x1 x2 => x1 ++ x2) acc.toArray (List.replicate k its.toArray) = (acc ++ (List.replicate k its).flatten).toArray
 | 0,acc => by simp
 | k + 1,acc => by
  have e : acc.toArray ++ its.toArray = (acc ++ its).toArray := by simp
  have e2 : (acc ++ its) ++ (List.replicate k its).flatten = acc ++ (List.replicate (k + 1) its).flatten:= by
   rw [List.replicate_succ,List.flatten_cons,List.append_assoc]
  rw [← e2,← a41 its k (acc ++ its),← e,List.replicate_succ,List.foldl_cons]
section
variable {X : Cx} {pins : List (Addr × Obj)} {σ : St} {H : Hp} {s : Shared} {l b : Addr} {xs ys zs : List V}
theorem Inv.lset {its its' : List Value} {n : Nat} {f : Array Value → Array Value} {t' : Nat} (I : Inv X pins σ H s) (hH : H l = some (.lst xs))
  (e : s.heap.get? l = some { cls := .type "list",data := .seq its.toArray n }) (hf : f its.toArray = its'.toArray) (hv : Vals ys its') (hz : ys.length ≤ sizeLine) :
  Inv X pins σ (upd H l (.lst ys)) { s with heap := s.heap.update l (Obj.mapSeq f),toks := t' }:= by
 have q := PySem.IsL.update e f
 rw [hf] at q
 refine I.write (x := l) (e := l) (by rw [hH]; exact trivial) (.inl rfl) (fun b' u hb hu => (Heap.get?_update_other s.heap (Obj.mapSeq f) (Ne.symm hb)).trans hu) ⟨_,q⟩ ?_
 exact ⟨hz,its',_,hv,q⟩
theorem Inv.lnew {its : List Value} {t' : Nat} (I : Inv X pins σ H s) (hv : Vals ys its) (hz : ys.length ≤ sizeLine) :
  Inv X pins σ (upd H s.heap.objs.size (.lst ys)) { s with heap := s.heap.push { cls := .type "list",data := .seq its.toArray },toks := t' }:=
 I.laid (fun _ _ q => Heap.get?_push_of_some _ q) (Nat.le_refl _) ⟨hz,its,0,hv,Heap.get?_push_size _ rfl⟩
theorem Inv.fresh (I : Inv X pins σ H s) : H s.heap.objs.size = none := I.hok.fresh (Nat.le_refl _)
theorem Inv.lstM (I : Inv X pins σ H s) (hH : H l = some (.lst xs)) : xs.length ≤ sizeLine ∧ ∃ (its : List Value) (n : Nat),Vals xs its ∧ xs.length = its.length ∧ s.heap.get? l = some { cls := .type "list",data := .seq its.toArray n }:= by
 obtain ⟨z,its,n,r,e⟩ := I.hok l _ hH
 exact ⟨z,its,n,r,r.length,e⟩
theorem a8G {n : Nat} (h : n ≤ sizeLine) : Builtin.List.listTooLong n = false:= by
 unfold Builtin.List.listTooLong
 exact decide_eq_false (by omega)
end
section
variable {X : Cx}
def a8r : V → List V → Hp → VK → Prop := fun x vs H Q => ∃ l xs y,x = .ref l ∧ vs = [y] ∧ H l = some (.lst xs) ∧ xs.length < sizeLine ∧ Q .non (upd H l (.lst (xs ++ [y])))
theorem a59 : MtM X "list.append" a8r:= by
 intro pins s σ H x vs v us Q I rx rv h
 obtain ⟨l,xs,y,rfl,rfl,hH,hz,q⟩ := h
 cases rx
 obtain ⟨u,rfl,ru⟩ := rv.one
 obtain ⟨z,its,n,r,hl,e⟩ := I.lstM hH
 refine call_meets F.slot_list_append ⟨_,e,rfl⟩ F.entry_list_append (F.args_list_append_2 _ _) (PySem.list_append l its.toArray n u (by rw [List.size_toArray]; omega)) ⟨e,?_⟩
 refine ⟨.non,_,I.lset (its' := its ++ [u]) hH e (by simp) (r.append (.cons ru .nil)) ?_,rfl,q⟩
 rw [List.length_append,List.length_singleton]
 omega
def a8a : V → List V → Hp → VK → Prop := fun x vs H Q => ∃ l xs,x = .ref l ∧ vs = [] ∧ H l = some (.lst xs) ∧ Q .non (upd H l (.lst xs.reverse))
theorem b2P : MtM X "list.reverse" a8a:= by
 intro pins s σ H x vs v us Q I rx rv h
 obtain ⟨l,xs,rfl,rfl,hH,q⟩ := h
 cases rx
 have hus := rv.zero
 subst hus
 obtain ⟨z,its,n,r,hl,e⟩ := I.lstM hH
 refine call_meets F.slot_list_reverse ⟨_,e,rfl⟩ F.entry_list_reverse (F.args_list_reverse_1 _) (AutoSeq1.list_reverse_list_0 l its.toArray n (by rw [List.size_toArray]; omega)) ⟨e,?_⟩
 refine ⟨.non,_,I.lset (its' := its.reverse) hH e (by simp) r.reverse ?_,rfl,q⟩
 rw [List.length_reverse]
 omega
def a1B : R2 := fun x y H Q => ∃ l b xs zs,x = .ref l ∧ y = .ref b ∧ H l = some (.lst xs) ∧ H b = some (.lst zs) ∧ xs.length + zs.length ≤ sizeLine ∧ ∀ p,H p = none → Q (.ref p) (upd H p (.lst (xs ++ zs)))
theorem U2 : OpR X (binaryOp .Add) a1B:= by
 intro pins s σ H x y v u Q I rx ry h
 obtain ⟨l,b,xs,zs,rfl,rfl,hH,hB,hz,q⟩ := h
 cases rx
 cases ry
 obtain ⟨z,its,n,r,hl,e⟩ := I.lstM hH
 obtain ⟨z2,its2,n2,r2,hl2,e2⟩ := I.lstM hB
 refine PySem.P.add_list e e2 ?_ (by rw [List.size_toArray,List.size_toArray]; omega)
 have ea : its.toArray ++ its2.toArray = (its ++ its2).toArray := by simp
 rw [ea]
 exact ⟨.ref _,_,I.lnew (t' := s.toks) (r.append r2) (by rw [List.length_append]; omega),rfl,q _ I.fresh⟩
def a3A : R2 := fun x y H Q => ∃ l k xs,x = .ref l ∧ y = .int k ∧ H l = some (.lst xs) ∧ -(2 ^ 63) ≤ k ∧ k < 2 ^ 63 ∧ xs.length * k.toNat ≤ sizeLine ∧
 ∀ p,H p = none → Q (.ref p) (upd H p (.lst (List.replicate k.toNat xs).flatten))
theorem a7S {α : Type} (xs : List α) (k : Nat) : (List.replicate k xs).flatten.length = k * xs.length:= by
 induction k with
 | zero => simp
 | succ k ih => rw [List.replicate_succ,List.flatten_cons,List.length_append,ih,Nat.succ_mul,Nat.add_comm]
theorem a1q : OpR X (binaryOp .Mult) a3A:= by
 intro pins s σ H x y v u Q I rx ry h
 obtain ⟨l,k,xs,rfl,rfl,hH,h1,h2,hz,q⟩ := h
 cases rx
 obtain ⟨t,rfl⟩ := ry
 obtain ⟨z,its,n,r,hl,e⟩ := I.lstM hH
 have hlen : its.toArray.size * k.toNat ≤ sizeLine := by rw [List.size_toArray,← hl]; exact hz
 have hcap : ¬ its.toArray.size * k.toNat > (2 ^ 63 - 1) / 8:= by
  have : (sizeLine : Nat) ≤ (2 ^ 63 - 1) / 8 := by decide
  omega
 have hfit : ¬ (!Builtin.List.listFitsIndex k) = true:= by
  rw [fitsIndex_both h1 h2]
  exact Bool.false_ne_true
 have hlong : ¬ Builtin.List.listTooLong (its.toArray.size * k.toNat) = true:= by
  rw [a8G hlen]
  exact Bool.false_ne_true
 have hnew : List.foldl (fun x1 x2 => x1 ++ x2) #[] (List.replicate (if its.toArray.isEmpty = true then 0 else k.toNat) its.toArray) = (List.replicate k.toNat its).flatten.toArray:= by
  have f0 : ∀ m : Nat,List.foldl (fun x1 x2 => x1 ++ x2) #[] (List.replicate m its.toArray) = (List.replicate m its).flatten.toArray := fun m => by
   have := a41 its m []
   rw [List.nil_append] at this
   exact this
  rw [f0]
  cases its with
  | nil => simp
  | cons a r' => rw [if_neg (by simp)]
 refine wpAny_binaryOp_repeat_ref (T := "list") (U := "int") (by decide) ⟨_,e,rfl⟩ (fun s' => typeIs_int s' k t) noFill_list_mul F.fills_int_mul F.slot_int_rmul repeat_list F.slot_int_index.lookup
  (call_meets F.slot_int_rmul (typeIs_int s k t) F.entry_int_rmul (F.args_int_rmul_2 _ _) (int___rmul___int_list k t l its.toArray n)
   ⟨e,rfl,⟨_,e,rfl⟩,call_meets F.slot_list_mul ⟨_,e,rfl⟩ F.entry_list_mul (F.args_list_mul_2 _ _) (AutoListH.list___mul___list_int_3 l its.toArray n k t hfit hcap hlong) ⟨e,?_⟩⟩)
 rw [hnew]
 exact ⟨.ref _,_,I.lnew (t' := s.toks) (r.rep k.toNat) (by rw [a7S,Nat.mul_comm]; exact hz),rfl,q _ I.fresh⟩
end
end L2
namespace Att
open PySem PySem.W PySem.Calls PyProof.Rows
theorem b1X {P : Params} {h : Heap} : ∀ (ns : List Int) (vs : List Value),WellAll P h vs (ns.map WData.int) → IntsAre vs ns:= by
 intro ns
 induction ns with
 | nil=>
  intro vs w
  rw [List.map_nil] at w
  cases w
  exact .nil
 | cons n ns ih=>
  intro vs w
  rw [List.map_cons] at w
  cases w with
  | cons a b=>
   cases a
   exact .cons _ _ (ih _ b)
theorem a7X {l : OpenLaw} {n : Nat} (hn : l.most = some n) {P : Params} {h : Heap} {args : List WData} {vals : List Value}
  (hpre : l.row.toRowW.claim.pre args = true) (hwl : WellAll P h vals args) :
  ∃ a vs ns,vals = [Value.ref a] ∧ args = [WData.list (ns.map WData.int)] ∧ h.get? a = some { cls := .type "list",data := .seq vs.toArray } ∧ IntsAre vs ns ∧ ns.length ≤ n:= by
 have hsh : WShape.hasAll [] args [.list .int] = true := (pre_splitW hpre).1
 have hc : l.pre.holds [] { args := args } = true := (pre_splitW hpre).2
 obtain ⟨d,r,rfl,h1,h2⟩ := hasAllW_cons hsh
 obtain rfl := hasAllW_nil h2
 obtain ⟨xs,rfl,h3⟩ := hasW_list h1
 obtain ⟨ns,rfl⟩ := items_int h3
 have hlen : ns.length ≤ n:= by
  unfold OpenLaw.pre at hc
  have h4 : (WTm.not (.lt (.lit (.int (n : Int))) (.len (.arg 0)))).holds [] { args := [.list (ns.map .int)] } = true:= by
   have h4 := (holds_andW hc).1
   rw [hn] at h4
   exact h4
  have h5 := condW_of h4 (w_not (w_lt w_lit (w_len_list (w_arg rfl))))
  rw [List.length_map] at h5
  refine Nat.le_of_not_lt fun q => ?_
  have q' : (n : Int) < ((ns.length : Nat) : Int) := by omega
  first
   | (rw [decide_eq_true q'] at h5; exact absurd h5 (by decide))
   | (simp at h5; omega)
 cases hwl with
 | cons w1 w2=>
  cases w2
  cases w1 with
  | list ho hall => exact ⟨_,_,ns,rfl,rfl,ho,b1X ns _ hall,hlen⟩
theorem a70 (l : OpenLaw) (args : List WData) : l.row.toRowW.claim.post args (.bool true) args = true:=
 postW_of (r := l.row.toRowW) (X := (true == true))
  (show WShape.has [] (.bool true) .bool = true by first | rfl | decide | simp [WShape.has,WShape.arms,WShape.armsAll])
  (show (WTm.eq .res (.lit (.bool true))).value [] { args := args,res := some (.bool true),after := args } = some (.bool (true == true)) from w_eq_bool (w_res rfl) w_lit) rfl
theorem attach_call {l : OpenLaw} {n : Nat} {q : Program} {loose : List Str} {XP : (Str → Option Value) → Heap → Prop} {YP : World → Heap → Prop} {d : DefRec}
  (hn : l.most = some n) (hdf : d.params.defaults = [])
  (call : ∀ (w : World) (s₀ s₁ : Shared) (mg mb : Str → Option Value) (fa : Addr) (o : Obj) (pm cd doc : Value) (a : Addr) (vs : List Value) (ns : List Int),
   Ground q loose [] XP w s₀ mg mb s₁.heap → YP w s₁.heap →
   s₁.heap.get? fa = some o → o.data = .func (docDef d.name d.params d.body d.scope pm cd doc) → s₁.heap.CodeRec cd d.name → mg d.name = some (.ref fa) →
   s₁.heap.get? a = some { cls := .type "list",data := .seq vs.toArray } → IntsAre vs ns → ns.length ≤ n → s₁.gens = #[] →
   codeAny (model l.prog w) callerA (.call (.ref fa) ⟨[.ref a],[]⟩) (fun r s' => r = .ok (.ret (.bool true)) ∧ OldK s₁.heap s'.heap ∧ s'.os = s₁.os ∧ AllBare s'.gens) s₁) :
  WalkO q loose XP YP l.row.toRowW d [] (fun f vs => PySem.call f vs):= by
 intro w s₀ s₁ mg mb G Y fa o pm cd doc dV kV ho hd hcd hD hmg hg args vals as hpre hlay hrd hwl hlo
 obtain rfl : dV = .none := Dflts.none hD hdf
 obtain rfl : kV = .none := Dflts.noKw hD
 obtain ⟨a,vs,ns,rfl,rfl,hobj,hints,hlen⟩ := a7X hn hpre hwl
 refine enter_call (codeAny_mono (call w s₀ s₁ mg mb fa o pm cd doc a vs ns G Y ho (fd_plain hd) hcd hmg hobj hints hlen hg) fun r s' hq => ?_)
 obtain ⟨rfl,h2,h3,h4⟩ := hq
 exact ⟨.inl ⟨.bool true,.bool true,[],rfl,fun _ => rfl,.bool true,a70 l _,fun _ => ⟨List.Pairwise.nil,fun _ hm => (nomatch hm)⟩⟩,h2,h3,h4⟩
end Att
namespace L2
open PySem PySem.Spec PyProof.Rows
theorem a6k : ∀ {vs : List Value} {ns : List Int},IntsAre vs ns → Vals (ns.map V.int) vs
 | _,_,.nil => .nil
 | _,_,.cons n t h => .cons ⟨t,rfl⟩ (a6k h)
def a2p (H : Hp) : Prop := ∀ b,H b = none ∨ ∃ o xs,H b = some (.frz o (.lst xs))
theorem b3o {P : Program} {w : World} {K : PySem.W.Frag} {mg mb : Str → Option Value} {CX : CXT} {k : Nat} {fa a : Addr} {fd : FuncData} {x : Str} {sp : Sp} {s₁ : Shared} {vs : List Value} {ns : List Int}
  (KX : K.In s₁.heap) (hns : s₁.heap.Ns mainGlobals mg) (hb : s₁.heap.Ns builtinsNs mb) (hbb : ∀ x : Str,x ≠ "__name__" → mb x = bootBuiltins x) (hlim : s₁.heap.NoLimit) (hg : s₁.gens = #[])
  (ha : s₁.heap.get? a = some { cls := .type "list",data := .seq vs.toArray }) (hi : IntsAre vs ns) (hl : ns.length ≤ sizeLine) (hr : Room k callerA)
  (F : ∀ base : Heap,K.In base → base.Ns mainGlobals mg → FnOk P w K mg base CX k fa fd [x] sp) (hbind : ∀ (s : Shared) (u : Value),BindsTo s fd ⟨[u],[]⟩ [(x,u)])
  (hsp : ∀ H : Hp,a2p H → SqL K H a (ns.map V.int) → sp [.ref a] H (fun v _ => v = .bl true) fun _ _ _ => False)
  (hCX : ∀ H e s',CX [] H s₁ (fun _ _ _ => False) e s' → False) :
  codeAny (model P w) callerA (.call (.ref fa) ⟨[.ref a],[]⟩) (fun r s' => r = .ok (.ret (.bool true)) ∧ OldK s₁.heap s'.heap ∧ s'.os = s₁.os ∧ AllBare s'.gens) s₁:= by
 have rv := a6k hi
 have lenV := hi.length
 have core : ∀ H : Hp,a2p H → SqL K H a (ns.map V.int) → HOk P w H s₁.heap → (∀ b,H b ≠ none → b = a) → (H a ≠ none → K.lookup a = none) →
   codeAny (model P w) callerA (.call (.ref fa) ⟨[.ref a],[]⟩) (fun r s' => r = .ok (.ret (.bool true)) ∧ OldK s₁.heap s'.heap ∧ s'.os = s₁.os ∧ AllBare s'.gens) s₁:= by
  intro H hO hS hok hA hK
  have base_of : ∀ {b : Addr} {o : Obj},s₁.heap.get? b = some o → H b = none → (N0 s₁.heap H).get? b = some o := fun e n => b23 e n
  have noA : ∀ {b : Addr} {o : Obj} {es : Array DictEntry} {ep : Nat},s₁.heap.get? b = some o → o.data = .dict es ep → H b = none := fun {b o es ep} e d => by
   cases q : H b with
   | none => rfl
   | some u=>
    have e' : b = a := hA b (by rw [q]; simp)
    subst e'
    rw [ha] at e; cases e
    have d' : Data.seq vs.toArray _ = Data.dict es ep := d
    cases d'
  have nsK : ∀ {b : Addr} {m : Str → Option Value},s₁.heap.Ns b m → (N0 s₁.heap H).Ns b m := fun {b m} ⟨o,es,ep,e,d,r⟩ => ⟨o,es,ep,base_of e (noA e d),d,r⟩
  have hKb : K.In (N0 s₁.heap H) := fun b o e => base_of (KX b o e) (by
   cases q : H b with
   | none => rfl
   | some u=>
    have e' : b = a := hA b (by rw [q]; simp)
    subst e'
    rw [hK (by rw [q]; simp)] at e; cases e)
  have hM : Mod K mg (N0 s₁.heap H) := ⟨hKb,nsK hns,⟨mb,nsK hb,hbb⟩,let ⟨mc,h1,h2⟩ := hlim; ⟨mc,nsK h1,h2⟩⟩
  have e0 : Env0 P w K mg (N0 s₁.heap H) callerA [] s₁ H := ⟨rfl,hM,fun b o e => a76 e,Nat.le_of_eq (b01 _ _),trivial,fun b hb => absurd (show b ∈ ([] : List Addr) from hb) (by simp),hok,.of_eq hg⟩
  refine codeAny_mono ((F _ hKb (nsK hns)).run callerA [] s₁ H ⟨[.ref a],[]⟩ [.ref a] [.ref a] _ _ hr e0 (hbind s₁ (.ref a)) (.cons rfl .nil) (hsp H hO hS)) fun r s' h => ?_
  cases r with
  | error e => exact (hCX H e s' h).elim
  | ok fl=>
   cases fl with
   | next => exact False.elim h
   | brk => exact False.elim h
   | cont => exact False.elim h
   | ret u=>
    obtain ⟨v,H',os,bare,un,hok',r',q⟩ := h
    have q' : v = .bl true := q
    subst q'
    obtain rfl : u = Value.bool true := r'
    refine ⟨rfl,OldK.of_keep fun b o e => ?_,os,bare⟩
    cases q : H b with
    | none => exact un.keep b o e q (by intro z; exact absurd (show b ∈ ([] : List Addr) from z) (by simp)) (by simp)
    | some u=>
     rcases hO b with z | ⟨ob,xs,z⟩
     ·rw [q] at z; cases z
     ·have z2 := un.frzs b ob _ z
      obtain ⟨e1,_⟩ := hok b _ z
      obtain ⟨e2,_⟩ := hok' b _ z2
      rw [e] at e1; cases e1
      exact e2
 cases hk : K.lookup a with
 | some o=>
  have e := KX a o hk
  rw [ha] at e
  cases e
  refine core (fun _ => none) (fun _ => .inl rfl) (.inr ⟨_,vs.toArray,_,hk,rfl,rfl,rfl,by rw [List.size_toArray,lenV]; exact hl,by simpa using rv⟩) (fun b u z => by have z' : (none : Option HO) = some u := z; cases z') (fun b z => absurd rfl z) fun z => absurd rfl z
 | none=>
  refine core (fun b => if b = a then some (.frz { cls := .type "list",data := .seq vs.toArray } (.lst (ns.map V.int))) else none) (fun b => ?_) (.inl (.inr ⟨{ cls := .type "list",data := .seq vs.toArray },if_pos rfl⟩)) (fun b u z => ?_) (fun b z => ?_) fun _ => hk
  ·by_cases hb : b = a
   ·exact .inr ⟨_,_,if_pos hb⟩
   ·exact .inl (if_neg hb)
  ·by_cases hb : b = a
   ·have z' := (if_pos hb).symm.trans z
    cases z'
    subst hb
    exact ⟨ha,by rw [List.length_map]; exact hl,vs,_,rv,ha⟩
   ·have z' := (if_neg hb).symm.trans z
    cases z'
  ·by_cases hb : b = a
   ·exact hb
   ·exact absurd (if_neg hb) z
theorem walk_of {l : PySem.W.OpenLaw} {n k : Nat} {q : Program} {loose : List Str} {XP : (Str → Option Value) → Heap → Prop} {YP : World → Heap → Prop} {d : DefRec} {K : Params → PySem.W.Frag} {CX : World → CXT} {sp : World → Sp} {x : Str}
  (hn : l.most = some n) (hn2 : n ≤ sizeLine) (hdf : d.params.defaults = []) (hr : Room k callerA)
  (hY : ∀ (w : World) (h : Heap),YP w h → (K w.params).In h)
  (F : ∀ (w : World) (mg : Str → Option Value) (fa : Addr) (h : Heap),(K w.params).In h → h.Ns mainGlobals mg → mg d.name = some (.ref fa) →
   ∃ fd : FuncData,(∀ (s : Shared) (u : Value),BindsTo s fd ⟨[u],[]⟩ [(x,u)]) ∧
    ∀ base : Heap,(K w.params).In base → base.Ns mainGlobals mg → FnOk l.prog w (K w.params) mg base (CX w) k fa fd [x] (sp w))
  (hsp : ∀ (w : World) (H : Hp) (a : Addr) (ns : List Int),ns.length ≤ n → a2p H → SqL (K w.params) H a (ns.map V.int) → sp w [.ref a] H (fun v _ => v = .bl true) fun _ _ _ => False)
  (hCX : ∀ (w : World) (H : Hp) (s : Shared) (e : Value) (s' : Shared),CX w [] H s (fun _ _ _ => False) e s' → False) :
  PySem.W.WalkO q loose XP YP l.row.toRowW d [] (fun f vs => PySem.call f vs):= by
 refine Att.attach_call hn hdf fun w s₀ s₁ mg mb fa o pm cd doc a vs ns G Y ho hd hcd hmg hobj hints hlen hg => ?_
 have KX := hY w _ Y
 obtain ⟨fd,hb,hF⟩ := F w mg fa _ KX G.T.g hmg
 exact b3o KX G.T.g G.T.b G.T.builtins G.T.nolimit hg hobj hints (Nat.le_trans hlen hn2) hr hF hb (fun H hO hS => hsp w H a ns hlen hO hS) fun H e s' => hCX w H s₁ e s'
def Q6 (s : Stmt) : Arguments := match s with
 | .FunctionDef _ a _ _ _ _ _ _ _ _ => a
 | _ => { posonlyargs := [],args := [],vararg := none,kwonlyargs := [],kw_defaults := [],kwarg := none,defaults := [] }
def G5 (s : Stmt) : List Stmt := match s with
 | .FunctionDef _ _ b _ _ _ _ _ _ _ => b
 | _ => []
def l3 (s : Stmt) : Scope := match s with
 | .FunctionDef _ _ _ _ _ _ sc _ _ _ => sc
 | _ => { kind := .function,names := [],isGenerator := false,isCoroutine := false }
abbrev CX0 : CXT := fun _ _ _ _ _ _ => False
abbrev E0 : XK := fun _ _ _ => False
theorem a6W {X : Cx} : a2I CX0 X E0 := fun _ _ _ _ _ _ _ h => h.elim
structure Fun (K : PySem.W.Frag) (x qual : Str) (st : Stmt) (f : Addr) (fd : FuncData) : Prop where
 ex : ∃ (oc : Value) (od : Option Addr) (kV doc pm : Value) (an : Option Addr) (cdv ct : Value) (osl : Array (Option Value)),
  fd = PySem.W.fnOf x qual (Q6 st) (G5 st) (l3 st) .none kV doc pm an cdv ct ∧ K.lookup f = some ⟨oc,od,.func fd,osl⟩ ∧ PySem.W.codeIn K cdv qual = true
 kp : PySem.W.keepIn K (.ref f) = true
section
variable {P : Program} {w : World} {K : PySem.W.Frag} {mg : Str → Option Value} {base : Heap}
theorem Fun.ok {x qual : Str} {st : Stmt} {f : Addr} {fd : FuncData} {N ps : List Str} {k : Nat} {sp : Sp} (F : Fun K x qual st f fd) (S : FnScope N ps (l3 st)) (len : ∀ vs H Q E,sp vs H Q E → vs.length = ps.length)
  (hbody : ∀ (cdv : Value) (A : Around) (outer : List Env) (s : Shared) (H : Hp) (vs : List V) (Q : VK) (E : XK),Room k (A.deeper (envOfC qual (l3 st) s.heap.objs.size f cdv)) → sp vs H Q E →
   ∃ t,PSs (P5 CX0 P w K mg base N qual (l3 st) f cdv A outer s H E).nox (G5 st) t ∧ t { nx := fun _ H' => Q .non H',rt := Q } (start N vs) H) : FnOk P w K mg base CX0 (k + 1) f fd ps sp:= by
 obtain ⟨oc,od,kV,doc,pm,an,cdv,ct,osl,rfl,lk,hcd⟩ := F.ex
 refine b3b lk hcd S len fun A outer s H vs Q E hr hsp => ?_
 obtain ⟨t,h,q⟩ := hbody cdv A outer s H vs Q E hr hsp
 exact ⟨t,h.nox,q⟩
theorem Fun.binds {x qual : Str} {st : Stmt} {f : Addr} {fd : FuncData} {ps : List Str} (F : Fun K x qual st f fd)
  (h : ∀ (kV doc pm : Value) (an : Option Addr) (cdv ct : Value) (us : List Value),us.length = ps.length → bindArgs (PySem.W.fnOf x qual (Q6 st) (G5 st) (l3 st) .none kV doc pm an cdv ct) ⟨us,[]⟩ = pure (ps.zip us)) : Binds K fd ps []:= by
 obtain ⟨oc,od,kV,doc,pm,an,cdv,ct,osl,rfl,lk,hcd⟩ := F.ex
 exact .all (h kV doc pm an cdv ct)
theorem b2k {x qual : Str} {st : Stmt} {f : Addr} {oc : Value} {od an : Option Addr} {osl : Array (Option Value)} {kV doc pm cdv ct : Value} (l : K.lookup f = some ⟨oc,od,.func (PySem.W.fnOf x qual (Q6 st) (G5 st) (l3 st) .none kV doc pm an cdv ct),osl⟩)
  (c : PySem.W.codeIn K cdv qual = true) (k : PySem.W.keepIn K (.ref f) = true) : Fun K x qual st f (PySem.W.fnOf x qual (Q6 st) (G5 st) (l3 st) .none kV doc pm an cdv ct) := ⟨⟨oc,od,kV,doc,pm,an,cdv,ct,osl,rfl,l,c⟩,k⟩
end
section
variable {X : Cx}
theorem pv (i : Nat) {x : Str} {pos : Pos} (hN : X.N[i]? = some x := by rfl) (hv : Vis X.env.scope x := by first | exact Or.inl rfl | exact Or.inr (Or.inl rfl) | exact Or.inr (Or.inr rfl)) (hd : (x == ("__debug__" : Str)) = false := by decide)
  (hcd : (x == ("__classdict__" : Str)) = false := by decide) : PE X (.Name x pos) (P6 i) := a9k hN hv hd hcd
end
theorem a7J {A B : Prop} (h : B) : if false = true then A else B:= by
 rw [if_neg Bool.false_ne_true]
 exact h
theorem a5f {A B : Prop} (h : A) : if true = true then A else B:= by
 rw [if_pos rfl]
 exact h
def blk (X : Cx) (N' : List Str) (scope : Scope) (cl : List (Str × Addr)) (C : Addr) (s0 : Shared) (H0 : Hp) (ex : List Addr) : Cx:=
 { X with N := N',env := compEnvC scope cl C X.env,s₀ := s0,H₀ := H0,outer := X.stack,stack := X.stack,ex := ex,fn := fun _ => false,pn := [],xe := fun _ _ => False }
def V0 (X : Cx) (ifs : List Expr) (t : TT) : Prop:=
 ∀ (pins : List (Addr × Obj)) (s : Shared) (σ : St) (H : Hp) (Q : Bool → Hp → Prop),Inv X pins σ H s → t σ H Q →
  wpAny (model X.prog X.w) X.A (forIn ifs true fun c r => if r = true then do let ok ← isTrue c X.env (eval c X.env); pure (ForInStep.yield ok) else pure (ForInStep.yield r)) (TP X pins σ Q) X.xe s
def b3L : TT := fun _ H Q => Q true H
theorem a7U {X : Cx} : V0 X [] b3L := fun pins s σ H Q I h => wpAny_tests_nil ⟨H,I,h⟩
theorem b3B {X : Cx} {c : Expr} {t : TT} (h : PT X c t) : V0 X [c] t := fun pins s σ H Q I q => wpAny_tests_one (h pins s σ H Q I q)
def B5 (n : Nat) (idx : List Nat) (σ : St) : St := List.replicate n none ++ idx.map fun i => (σ[i]?).join
def X7 (n : Nat) (idx : List Nat) (wi : TI) (g : TG) (tc : TT) (te : TE) : TE := fun σ H Q => wi σ H fun J H1 => ∀ D,H1 D = none →
 ∃ W : Nat → Nat → Hp → Prop,(∃ m,W 0 m (upd H1 D (.lst []))) ∧ ∀ i m H,W i m H →
  (J.stop i H ∧ Q (.ref D) H) ∨ (J.go i H ∧ ∀ x H',J.yld i H x H' → g x (B5 n idx σ) H' fun σ2 H2 => (σ2.length = (B5 n idx σ).length ∧ ∀ (j : Nat) (v : V),(B5 n idx σ)[j]? = some (some v) → σ2[j]? = some (some v)) ∧ tc σ2 H2 fun b H3=>
   if b = true then te σ2 H3 fun v H4 => ∃ ys,H4 D = some (.lst ys) ∧ ys.length < sizeLine ∧ ∃ m',m' < m ∧ W (i + 1) m' (upd H4 D (.lst (ys ++ [v]))) else ∃ m',m' < m ∧ W (i + 1) m' H3)
structure CompOk (X : Cx) (scope : Scope) (cl : List (Str × Addr)) (N' : List Str) (n : Nat) (idx : List Nat) : Prop where
 clos : closureFor scope X.env = pure cl
 sub : ∀ x c,cl.lookup x = some c → X.env.cells.lookup x = some c
 cell : ∀ y ∈ scope.names,y.2 ≠ .cell
 kind : scope.kind = .function
 names : ∀ y ∈ scope.names,y.2 = .local → scope.names.lookup y.1 = some .local
 has : ∀ x,((relabel scope X.env).names.lookup x = some .cell ∨ (relabel scope X.env).names.lookup x = some .free) → ∃ c,cl.lookup x = some c
 len : N'.length = n + idx.length
 cap : ∀ (j i : Nat) (y : Str),idx[j]? = some i → N'[n + j]? = some y → X.N[i]? = some y ∧ (X.env.scope.names.lookup y = some .cell ∨ X.env.scope.names.lookup y = some .free) ∧ ((relabel scope X.env).names.lookup y = some .cell ∨ (relabel scope X.env).names.lookup y = some .free)
section
variable {X : Cx} {scope : Scope} {cl : List (Str × Addr)} {N' : List Str} {n : Nat} {idx : List Nat} {tg iter elt : Expr} {ifs : List Expr} {pos : Pos} {wi : TI} {g : TG} {tc : TT} {te : TE}
theorem a87 (σ : St) : (B5 n idx σ).length = n + idx.length := by simp [B5]
theorem b15 {σ : St} {j : Nat} {v : V} (h : (B5 n idx σ)[j]? = some (some v)) : ∃ k i,j = n + k ∧ idx[k]? = some i ∧ σ[i]? = some (some v):= by
 unfold B5 at h
 by_cases hj : j < n
 ·rw [List.getElem?_append_left (by simpa using hj)] at h
  simp [hj] at h
 ·rw [List.getElem?_append_right (by simpa using Nat.le_of_not_lt hj)] at h
  simp only [List.length_replicate,List.getElem?_map] at h
  refine ⟨j - n,?_⟩
  cases e : idx[j - n]? with
  | none => rw [e] at h; simp at h
  | some i=>
   rw [e] at h
   simp only [Option.map_some,Option.some.injEq] at h
   exact ⟨i,by omega,rfl,by simpa using Option.join_eq_some_iff.mp h⟩
theorem a8K (k : CompOk X scope cl N' n idx) {pins : List (Addr × Obj)} {s2 : Shared} {σ : St} {H2 : Hp} {fp : List Addr} {C : Addr} {h4 : Heap} {t4 : Nat} {m : Str → Option Value} (I : Inv X pins σ H2 s2) (f : ∀ b ∈ fp,F8 X pins H2 b) (fo : ∀ b ∈ fp,b < s2.heap.objs.size)
  (hC : s2.heap.objs.size + 1 ≤ C) (ns : h4.Ns C m) (keep : ∀ b o,s2.heap.get? b = some o → h4.get? b = some o) (hD : h4.get? s2.heap.objs.size = some { cls := .type "list",data := .seq ([] : List Value).toArray }) :
  Inv (blk X N' scope cl C s2 H2 fp) [] (B5 n idx σ) (upd H2 s2.heap.objs.size (.lst [])) { s2 with heap := h4,toks := t4 }:= by
 have fresh : H2 s2.heap.objs.size = none := I.hok.fresh (Nat.le_refl _)
 have fC : H2 C = none := I.hok.fresh (by omega)
 have cellsub : ∀ x c,(blk X N' scope cl C s2 H2 fp).env.cells.lookup x = some c → X.env.cells.lookup x = some c := fun x c e => k.sub x c e
 have cellLt : ∀ x c,X.env.cells.lookup x = some c → c < s2.heap.objs.size := fun x c e => by
  obtain ⟨v,q⟩ := I.cell x c e
  exact q.lt
 have ok : (blk X N' scope cl C s2 H2 fp).Ok := {
  mod := I.ok.mod
  kind := k.kind
  glob := I.ok.glob
  blt := I.ok.blt
  above := by show s2.heap.objs.size ≤ C; omega
  inj := fun x y c e1 e2 => I.ok.inj x y c (cellsub x c e1) (cellsub y c e2)
  has := fun x h => k.has x h
  cab := fun x c h _ => by cases h
  hd := I.ok.hd
  frames := I.ok.frames
  stk := .inl rfl
  exf := fun b hb => ⟨Nat.ne_of_lt (Nat.lt_of_lt_of_le (fo b hb) (by show s2.heap.objs.size ≤ C; omega)),fun x c e z => (f b hb).2.2.2.2.1 x c (cellsub x c e) z⟩
  bs := fun b o e => I.bs b o e
  bsz := Nat.le_trans I.ok.bsz I.sz
  noex := fun b o e hb => by
   rcases (f b hb).2.2.2.1 with z | z
   ·exact I.ok.noex b o e z
   ·exact absurd (Nat.lt_of_lt_of_le (Heap.lt_size e) (Nat.le_trans I.ok.bsz z)) (Nat.lt_irrefl _)
  exfs := fun b hb z => by
   rcases List.mem_cons.mp (I.stkSub b z) with y | y
   ·exact (f b hb).2.1 y
   ·exact (f b hb).2.2.1 y
  funs := I.stack
  frf := I.stkFree }
 refine ⟨ok,rfl,I.bare,Un.laid keep (Nat.le_refl _) fresh,⟨m,ns,fun j y v e1 e2 e3 => ?_⟩,fun x c e => ?_,?_,fun x c e => ?_,fun p hp => (by cases hp),I.hok.laid keep (Nat.le_refl _) ⟨Nat.zero_le _,[],_,.nil,hD⟩,?_⟩
 ·obtain ⟨kk,i,rfl,hk,hv⟩ := b15 e2
  obtain ⟨hN,ok,hkind⟩ := k.cap kk i y hk e1
  obtain ⟨c,hc⟩ := k.has y hkind
  obtain ⟨m0,_,hl⟩ := I.loc
  have hc' := k.sub y c hc
  obtain ⟨u,r,l⟩ := hl i y v hN hv (by rcases ok with z | z; exact .inr (.inl z); exact .inr (.inr z))
  refine ⟨u,r,.inr ⟨hkind,c,hc,?_⟩⟩
  rcases l with ⟨z,_⟩ | ⟨_,c',e',q⟩
  ·have z' : X.env.scope.names.lookup y = some .local := z
   rcases ok with w | w <;> · rw [w] at z'; cases z'
  ·rw [hc'] at e'; cases e'
   obtain ⟨o,ho,hd⟩ := q
   exact ⟨o,keep _ o ho,hd⟩
 ·obtain ⟨v,q⟩ := I.cell x c (cellsub x c e)
  obtain ⟨o,ho,hd⟩ := q
  exact ⟨v,o,keep c o ho,hd⟩
 ·show upd H2 s2.heap.objs.size (.lst []) C = none
  rw [o9 (Nat.ne_of_gt hC)]; exact fC
 ·have := cellLt x c (cellsub x c e)
  rw [o9 (Nat.ne_of_lt this)]
  exact I.freeC x c (cellsub x c e)
 ·rw [a87,← k.len]; rfl
theorem b0D {prog : Program} {w : World} {A : Around} {R : Result → Shared → Prop} {s : Shared} {elt target iter : Expr} {ifs : List Expr} {scope : Scope} {pos : Pos} {it acc : Value} {env : Env} (I : Nat → Shared → Prop)
  (turn : ∀ n s,I n s → wpAny (model prog w) A (pyNext it) (fun r s1 => match r with
   | none => R (.ok .next) s1
   | some v => wpAny (model prog w) A (letOwnedTupleGo target it v) (fun _ s1' => wpAny (model prog w) A (assign target env v) (fun _ s2=>
     wpAny (model prog w) A (forIn ifs true fun c r => if r = true then do let ok ← isTrue c env (eval c env); pure (ForInStep.yield ok) else pure (ForInStep.yield r)) (fun ok s3=>
      if ok = true then wpAny (model prog w) A (eval elt env) (fun x s4=>
       wpAny (model prog w) A (call (.builtin "list.append") [acc,x]) (fun _ s5 => ∃ m,m < n ∧ I m s5) (notedBy (model prog w) A env fun e s' => R (.error e) s') s4) (notedBy (model prog w) A env fun e s' => R (.error e) s') s3
      else ∃ m,m < n ∧ I m s3) (notedBy (model prog w) A env fun e s' => R (.error e) s') s2) (notedBy (model prog w) A env fun e s' => R (.error e) s') s1') (notedBy (model prog w) A env fun e s' => R (.error e) s') s1) (notedBy (model prog w) A env fun e s' => R (.error e) s') s)
  (n : Nat) (h : I n s) :
  codeAny (model prog w) A (.compLoop (.ListComp elt [⟨target,iter,ifs,0⟩] scope pos) 0 it acc env) R s:= by
 refine codeAny_loop rfl I (fun n s hI => ?_) n h
 show wpAny _ A ((compTurn (.ListComp elt [⟨target,iter,ifs,0⟩] scope pos) 0 it acc env).onRaise (fun x => do noteFrame x env; theTreesLotGoes x)) _ _ s
 refine wpAny_noted ?_
 rw [compTurn_list]
 refine wpAny_bind (wpAny_standAt (wpAny_bind (wpAny_mono (turn n s hI) (fun r s₁ h₁ => ?_) fun _ _ h' => h')))
 cases r with
 | none => exact wpAny_pure h₁
 | some v=>
  refine wpAny_bind (wpAny_mono h₁ (fun _ s1' h1' => ?_) fun _ _ h' => h')
  refine wpAny_bind (wpAny_mono h1' (fun _ s₂ h₂ => wpAny_bind (wpAny_mono h₂ (fun ok s₃ h₃ => ?_) fun _ _ h' => h')) fun _ _ h' => h')
  cases ok with
  | false => exact wpAny_pure ⟨rfl,h₃⟩
  | true=>
   exact wpAny_bind (wpAny_bind (wpAny_mono h₃ (fun x s₄ h₄ => wpAny_bind (wpAny_mono h₄ (fun _ s₅ h₅ => wpAny_pure (wpAny_pure ⟨rfl,h₅⟩)) fun _ _ h' => h')) fun _ _ h' => h'))
end
section
variable {X : Cx} {scope : Scope} {cl : List (Str × Addr)} {N' : List Str} {n : Nat} {idx : List Nat} {tg iter elt : Expr} {ifs : List Expr} {pos : Pos} {wi : TI} {g : TG} {tc : TT} {te : TE}
theorem a5t {use : Option (Value → Sem Unit)} {Q' : Value → Shared → Prop} {pos2 : Pos} (hc : X.calm = true) (k : CompOk X scope cl N' n idx) (hi : PI X tg iter wi)
  (hg : ∀ C s0 H0 ex,PG (blk X N' scope cl C s0 H0 ex) tg g) (ht : ∀ C s0 H0 ex,V0 (blk X N' scope cl C s0 H0 ex) ifs tc) (he : ∀ C s0 H0 ex,PE (blk X N' scope cl C s0 H0 ex) elt te)
  (hs : ∀ x,foldedSetIterable iter X.env x = pure x) {pins : List (Addr × Obj)} {s : Shared} {σ : St} {H : Hp} {Q : VK} (I0 : Inv X pins σ H s) (h : X7 n idx wi g tc te σ H Q)
  (last : ∀ (C D : Addr) (s' : Shared) (H' : Hp) (m : Str → Option Value),Inv X pins σ H' s' → F8 X pins H' C → s'.heap.Ns C m → Q (.ref D) H' → compPost (model X.prog X.w) X.A X.xe use Q' (.ref D) C (.ok .next) s') :
  wpAny (model X.prog X.w) X.A (comprehension (.ListComp elt [⟨tg,iter,ifs,0⟩] scope pos) scope X.env pos2 (newList []) false (eval iter X.env) use) Q' X.xe s:= by
 refine wpAny_comprehension_free (use := use) rfl hs k.clos k.kind k.names (thn (hi pins s σ H _ I0 h) fun v s1 h1 => thn h1 fun itv s2 h2 => ?_)
 obtain ⟨it,fp,tn,J,H2,e,I2,T,st2,f2,hW⟩ := h2
 subst e
 have fo2 : ∀ b ∈ fp,b < s2.heap.objs.size := fun b hb => by
  obtain ⟨o,e,_⟩ := T.obj _ _ st2 b hb
  exact Heap.lt_size e
 obtain ⟨W,⟨m0,w0⟩,turn⟩ := hW s2.heap.objs.size (I2.hok.fresh (Nat.le_refl _))
 refine wpAny_newObj_type (wpAny_newFunctionEnv k.cell (by intro y hy; simp at hy) (fun h4 hns4 hsb4 => ?_) k.kind)
 dsimp only at hns4 hsb4 ⊢
 generalize hH3 : s2.heap.push { cls := .type "list",dict := none,data := .seq ([] : List Value).toArray } = h3 at hns4 hsb4 ⊢
 have hCe : h3.objs.size = s2.heap.objs.size + 1 := by rw [← hH3,Heap.size_push]
 have k34 : ∀ b o,b ≠ h3.objs.size → h3.get? b = some o → h4.get? b = some o := fun b o nb e => hsb4.extBut b o nb (Heap.get?_push_of_some _ e)
 have keep : ∀ b o,s2.heap.get? b = some o → h4.get? b = some o := fun b o e => k34 b o (Nat.ne_of_lt (by rw [hCe]; exact Nat.lt_succ_of_lt (Heap.lt_size e))) (by rw [← hH3]; exact Heap.get?_push_of_some _ e)
 have hD : h4.get? s2.heap.objs.size = some { cls := .type "list",data := .seq ([] : List Value).toArray } := k34 _ _ (Nat.ne_of_lt (by rw [hCe]; exact Nat.lt_succ_self _)) (by rw [← hH3]; exact Heap.get?_push_size _ rfl)
 have I4 := a8K k I2 f2 fo2 (Nat.le_of_eq hCe.symm) hns4 keep hD (t4 := s2.toks + ([] : List (Str × Value)).length)
 have stat : ∀ {H' : Hp},(∀ b ∈ fp,H' b = none) → ∀ b ∈ fp,F8 (blk X N' scope cl h3.objs.size s2 H2 fp) [] H' b := fun hn b hb=>
  ⟨hn b hb,Nat.ne_of_lt (by rw [hCe]; exact Nat.lt_succ_of_lt (fo2 b hb)),fun z => (List.mem_cons.mp (I2.stkSub b z)).elim (f2 b hb).2.1 (f2 b hb).2.2.1,.inl hb,fun x c e => (f2 b hb).2.2.2.2.1 x c (k.sub x c e),fun p hp => (by cases hp)⟩
 have fr4 : ∀ b ∈ fp,upd H2 s2.heap.objs.size (.lst []) b = none := fun b hb => by rw [o9 (Nat.ne_of_lt (fo2 b hb))]; exact (f2 b hb).1
 have fin : ∀ (s' : Shared) (H' : Hp),Inv (blk X N' scope cl h3.objs.size s2 H2 fp) [] (B5 n idx σ) H' s' → Q (.ref s2.heap.objs.size) H' →
   compPost (model X.prog X.w) X.A X.xe use Q' (.ref s2.heap.objs.size) h3.objs.size (.ok .next) s' := fun s' H' I' q => by
  obtain ⟨m',hn',_⟩ := I'.loc
  have B := I'.base
  refine last _ _ s' H' m' ?_ (I2.fpOk (by rw [hCe]; exact Nat.le_succ _) I'.free) hn' q
  refine I2.call' (s' := s') (ch := fp) (show s'.os = s2.os from I'.os) ⟨fun b o e nn hb hx => B.keep b o e nn hb hx,fun b o e nn hb hx => B.slot b o e nn hb hx,B.free,fun b o e hx => B.there b o e hx,B.tups,B.frzs,B.tbls⟩ I'.hok I'.bare fun b hb => ?_
  obtain ⟨p1,p2,p3,p4,p5,p6⟩ := f2 b hb
  exact ⟨p4,p2,p5,p6⟩
 have loop : ∀ s4 : Shared,s4 = { s2 with heap := h4,toks := s2.toks + ([] : List (Str × Value)).length } →
   codeAny (model X.prog X.w) X.A (.compLoop (.ListComp elt [⟨tg,iter,ifs,0⟩] scope pos) 0 (.ref it) (.ref s2.heap.objs.size) (compEnvC scope cl h3.objs.size X.env)) (compPost (model X.prog X.w) X.A X.xe use Q' (.ref s2.heap.objs.size) h3.objs.size) s4:= by
  rintro s4 rfl
  refine b0D (fun m s' => ∃ i H',Inv (blk X N' scope cl h3.objs.size s2 H2 fp) [] (B5 n idx σ) H' s' ∧ tn i s'.heap ∧ (∀ b ∈ fp,H' b = none) ∧ W i m H') ?_ m0 ⟨0,_,I4,T.keep _ _ _ st2 (fun b _ o e => keep b o e),fr4,w0⟩
  rintro m s3 ⟨i,H3,I3,st3,fr3,w3⟩
  rcases turn i m H3 w3 with ⟨stop,q⟩ | ⟨go,step⟩
  ·refine wpAny_mono (T.done (blk X N' scope cl h3.objs.size s2 H2 fp) rfl rfl rfl hc i [] s3 _ H3 (fun _ _ => False) I3 (stat fr3) st3 stop) (fun r s5 ⟨hr,I5⟩ => ?_) fun _ _ z => z.elim
   subst hr
   exact fin s5 H3 I5 q
  ·refine wpAny_mono (T.item (blk X N' scope cl h3.objs.size s2 H2 fp) rfl rfl rfl hc i [] s3 _ H3 (fun _ _ => False) I3 (stat fr3) st3 go) (fun r s5 ⟨u,hr,h5⟩ => ?_) fun _ _ z => z.elim
   subst hr
   refine wpAny_mono h5 (fun _ s6 ⟨x,H6,I6,r6,y6,st6,fr6⟩ => ?_) fun _ _ z => z.elim
   have I6' := I6.pinned (stat fr6) (T.obj _ _ st6)
   have again : ∀ {σ7 : St} {H7 : Hp} {s7 : Shared},Inv (blk X N' scope cl h3.objs.size s2 H2 fp) ([] ++ a0h fp s6.heap) σ7 H7 s7 → σ7.length = (B5 n idx σ).length → (∀ (j : Nat) v,(B5 n idx σ)[j]? = some (some v) → σ7[j]? = some (some v)) → (∃ m',m' < m ∧ W (i + 1) m' H7) →
     ∃ m',m' < m ∧ ∃ i H',Inv (blk X N' scope cl h3.objs.size s2 H2 fp) [] (B5 n idx σ) H' s7 ∧ tn i s7.heap ∧ (∀ b ∈ fp,H' b = none) ∧ W i m' H' := fun {σ7 H7 s7} I7 hl hw ⟨m',hm,w7⟩ => by
    refine ⟨m',hm,i + 1,H7,(I7.unpinned).weak hl.symm hw,T.keep _ _ _ st6 fun b hb o e => (I7.pin (b,o) (List.mem_append_right _ (List.mem_append_right _ (Y9 hb e)))).1,fun b hb => ?_,w7⟩
    obtain ⟨o,e,d⟩ := T.obj _ _ st6 b hb
    exact (I7.pin (b,o) (List.mem_append_right _ (List.mem_append_right _ (Y9 hb e)))).2.1
   refine wpAny_mono (hg _ _ _ _ _ s6 _ H6 x u _ I6' r6 (step x H6 y6)) (fun _ s7 ⟨σ7,H7,I7,⟨hl,hw⟩,q7⟩ => ?_) fun _ _ z => z.elim
   refine wpAny_mono (ht _ _ _ _ _ s7 σ7 H7 _ I7 q7) (fun ok s8 ⟨H8,I8,q8⟩ => ?_) fun _ _ z => z.elim
   cases ok with
   | false=>
    rw [if_neg Bool.false_ne_true] at q8 ⊢
    exact again I8 hl hw q8
   | true=>
    rw [if_pos rfl] at q8 ⊢
    refine wpAny_mono (he _ _ _ _ _ s8 σ7 H8 _ I8 q8) (fun v9 s9 ⟨x9,H9,I9,r9,ys,e9,l9,q9⟩ => ?_) fun _ _ z => z.elim
    refine wpAny_mono (a59 (X := blk X N' scope cl h3.objs.size s2 H2 fp) _ s9 σ7 H9 (.ref s2.heap.objs.size) [x9] (.ref s2.heap.objs.size) [v9] (fun _ H' => H' = upd H9 s2.heap.objs.size (.lst (ys ++ [x9]))) I9 rfl (.cons r9 .nil) ⟨s2.heap.objs.size,ys,x9,rfl,rfl,e9,l9,rfl⟩) (fun _ s10 ⟨_,H10,I10,_,e10⟩ => ?_) fun _ _ z => z.elim
    subst e10
    exact again I10 hl hw q9
 exact codeAny_compStart_list (loop _ rfl) (T.self _ 0 _ _ _ (T.keep _ _ _ st2 (fun b _ o e => keep b o e)) (loop _ rfl))
theorem a7h (hc : X.calm = true) (k : CompOk X scope cl N' n idx) (hi : PI X tg iter wi)
  (hg : ∀ C s0 H0 ex,PG (blk X N' scope cl C s0 H0 ex) tg g) (ht : ∀ C s0 H0 ex,V0 (blk X N' scope cl C s0 H0 ex) ifs tc) (he : ∀ C s0 H0 ex,PE (blk X N' scope cl C s0 H0 ex) elt te)
  (hs : ∀ x,foldedSetIterable iter X.env x = pure x := by intro _; rfl) : PE X (.ListComp elt [⟨tg,iter,ifs,0⟩] scope pos) (X7 n idx wi g tc te):= by
 intro pins s σ H Q I0 h
 rw [eval_ListComp]
 refine a5t (use := none) (Q' := EP X pins σ Q) hc k hi hg ht he hs I0 h ?_
 intro C D' s' H' m IX fC hn q
 exact ⟨m,hn,fun h' hsb => ⟨.ref D',H',IX.turned (t' := s'.toks) (it := C) (h' := h') (fun b o nb e => (hsb.2 b nb).trans e) fC.1 fC.2.1 fC.2.2.2.1 fC.2.2.2.2.1 fC.2.2.2.2.2,rfl,q⟩⟩
theorem b1O {i : Nat} {y : Str} {py spos : Pos} (hN : X.N.Nodup) (hi' : X.N[i]? = some y) (hx : Loc X.env.scope y) (hc : X.calm = true) (k : CompOk X scope cl N' n idx) (hi : PI X tg iter wi)
  (hg : ∀ C s0 H0 ex,PG (blk X N' scope cl C s0 H0 ex) tg g) (ht : ∀ C s0 H0 ex,V0 (blk X N' scope cl C s0 H0 ex) ifs tc) (he : ∀ C s0 H0 ex,PE (blk X N' scope cl C s0 H0 ex) elt te)
  (hs : ∀ x,foldedSetIterable iter X.env x = pure x := by intro _; rfl) (hsw : swapsWith (.ListComp elt [⟨tg,iter,ifs,0⟩] scope pos) (some (.Name y py)) spos.line X.env = pure true := by rfl)
  (hf : X.fn y = true ∨ X.env.scope.names.lookup y = some .local := by first | exact .inl rfl | exact .inr rfl | assumption) :
  PS X (.Assign [.Name y py] (.ListComp elt [⟨tg,iter,ifs,0⟩] scope pos) spos) (Z9 (X7 n idx wi g tc te) (K7 i)):= by
 intro pins s σ H D I h
 rw [exec_Assign_Name_used _ _ _ _ hsw]
 refine wpAny_bind (wpAny_standAt (wpAny_bind ?_))
 show wpAny _ X.A (do let _ ← comprehension (.ListComp elt [⟨tg,iter,ifs,0⟩] scope pos) scope X.env _ (newList []) false (eval iter X.env) (some (assign (.Name y py) X.env))) _ _ s
 refine wpAny_bind (wpAny_mono (a5t (use := some (assign (.Name y py) X.env)) (Q' := fun _ s' => SP X pins D .next s') hc k hi hg ht he hs I h ?_) (fun _ s' hq => wpAny_pure (wpAny_pure hq)) fun _ _ e => e)
 intro C D' s' H' m IX fC hn q
 show wpAny _ X.A (assign (.Name y py) X.env (.ref D')) _ _ _
 obtain ⟨o,es,ep,ho,hd,hr⟩ := hn
 have IP := IX.pinned (fp := [C]) (fun b hb => by rw [List.mem_singleton.mp hb]; exact fC) (fun b hb => by rw [List.mem_singleton.mp hb]; exact ⟨o,ho,fun v z => by rw [hd] at z; cases z⟩)
 refine wpAny_mono (o7 hN hi' hx hf _ s' σ H' (.ref D') (.ref D') D.nx IP rfl q) (fun _ s'' ⟨σ2,H2,I2,q2⟩ => ?_) fun _ _ e => e
 have pn := I2.pin (C,o) (List.mem_append_right _ (List.mem_append_right _ (Y9 (List.mem_singleton.mpr rfl) ho)))
 refine ⟨m,⟨o,es,ep,pn.1,hd,hr⟩,fun h' hsb => ⟨σ2,H2,?_,q2⟩⟩
 have It := I2.unpinned.turned (t' := s''.toks) (it := C) (h' := h') (fun b o nb e => (hsb.2 b nb).trans e) pn.2.1 fC.2.1 fC.2.2.2.1 fC.2.2.2.2.1 fC.2.2.2.2.2
 exact It
end
end L2
namespace DL
open PySem PySem.Spec L2
theorem p8 {α β γ : Type} {o : Option (α × β)} {f : α × β → Option γ} {r : γ} {G : Prop} (h : o.bind f = some r) (k : ∀ x y,o = some (x,y) → f (x,y) = some r → G) : G:= by
 obtain ⟨⟨x,y⟩,a,b⟩ := Option.bind_eq_some_iff.mp h
 exact k x y a b
theorem L6 {α γ : Type} {o : Option α} {f : α → Option γ} {r : γ} {G : Prop} (h : o.bind f = some r) (k : ∀ x,o = some x → f x = some r → G) : G:= by
 obtain ⟨x,a,b⟩ := Option.bind_eq_some_iff.mp h
 exact k x a b
theorem mapP {α β γ : Type} {o : Option (α × β)} {f : α × β → γ} {r : γ} {G : Prop} (h : o.map f = some r) (k : ∀ x y,o = some (x,y) → f (x,y) = r → G) : G:= by
 obtain ⟨⟨x,y⟩,a,b⟩ := Option.map_eq_some_iff.mp h
 exact k x y a b
theorem J8 {α γ : Type} {o : Option α} {f : α → γ} {r : γ} {G : Prop} (h : o.map f = some r) (k : ∀ x,o = some x → f x = r → G) : G:= by
 obtain ⟨x,a,b⟩ := Option.map_eq_some_iff.mp h
 exact k x a b
inductive D where
 | non | bl (b : Bool) | int (i : Int) | str (x : Str) | tup (ds : List D) | lst (ds : List D)
 | feed | scr (ns : List Int)
mutual
def D.py : D → PyData
 | .non => .none
 | .bl b => .bool b
 | .int i => .int i
 | .str x => .str x
 | .tup ds => .tuple (D.pys ds)
 | .lst ds => .list (D.pys ds)
 | .feed => .none
 | .scr _ => .none
def D.pys : List D → List PyData
 | [] => []
 | d :: r => D.py d :: D.pys r
end
mutual
def D.plain : D → Bool
 | .non => true
 | .bl _ => true
 | .int _ => true
 | .str _ => true
 | .tup ds => D.plains ds
 | .lst ds => D.plains ds
 | .feed => false
 | .scr _ => false
def D.plains : List D → Bool
 | [] => true
 | d :: r => D.plain d && D.plains r
end
structure FS where
 cells : List Int
 pos : Int
 left : Int
 turn : Int
 kind : Nat
def E5 (c : Addr) (f : FS) : List V := if f.kind = 1 then [V.ref c,V.int f.pos,V.int f.left] else [V.ref c,V.int f.pos,V.int f.left,V.int f.turn]
def fho (c : Addr) (f : FS) : HO := if f.kind = 0 then .dK [(Sum.inr ("cells" : Str),V.ref c),(Sum.inr ("at" : Str),V.int f.pos),(Sum.inr ("left" : Str),V.int f.left),(Sum.inr ("turn" : Str),V.int f.turn)] else .lst (E5 c f)
theorem a2c {c : Addr} {f : FS} (h : ¬ f.kind = 0) : fho c f = .lst (E5 c f) := if_neg h
theorem b3k {c : Addr} {f : FS} {xs : List V} (h : fho c f = .tup xs) : False := by unfold fho at h; split at h <;> cases h
theorem a9M {c : Addr} {f : FS} {o : Obj} {u : HO} (h : fho c f = .frz o u) : False := by unfold fho at h; split at h <;> cases h
def FeedR (N : Addr → Prop) (H : Hp) : Option Addr → Option FS → Prop
 | none,none => True
 | some a,some f => f.cells.length ≤ 63 ∧ ∃ c,H a = some (fho c f) ∧ ¬ N c ∧ H c = some (.lst (f.cells.map V.int))
 | _,_ => False
def SqF (K : PySem.W.Frag) (H : Hp) (a : Addr) (xs : List V) : Prop:=
 (∃ o,H a = some (.frz o (.lst xs))) ∨
  ∃ (o : Obj) (its : Array Value) (n : Nat),K.lookup a = some o ∧ o.cls = .type "list" ∧ o.dict = none ∧ o.data = .seq its n ∧ its.size ≤ sizeLine ∧ Vals xs its.toList
theorem SqF.sq {K : PySem.W.Frag} {H : Hp} {a : Addr} {xs : List V} (h : SqF K H a xs) : SqL K H a xs:= by
 rcases h with ⟨o,h⟩ | h
 ·exact .inl (.inr ⟨o,h⟩)
 ·exact .inr h
mutual
def Rep (K : PySem.W.Frag) (N : Addr → Prop) (fa : Option Addr) (H : Hp) : D → V → Prop
 | .non,v => v = .non
 | .bl b,v => v = .bl b
 | .int i,v => v = .int i
 | .str x,v => v = .str x ∧ x.length ≤ sizeLine
 | .tup ds,v => ∃ a xs,v = .ref a ∧ SqT K H a xs ∧ Reps K N fa H ds xs
 | .lst ds,v => ∃ a xs,v = .ref a ∧ ¬ N a ∧ H a = some (.lst xs) ∧ Reps K N fa H ds xs
 | .feed,v => ∃ a,fa = some a ∧ v = .ref a
 | .scr ns,v => ns.length ≤ 63 ∧ ∃ a,v = .ref a ∧ SqF K H a (ns.map V.int)
def Reps (K : PySem.W.Frag) (N : Addr → Prop) (fa : Option Addr) (H : Hp) : List D → List V → Prop
 | [],xs => xs = []
 | d :: r,xs => ∃ x ys,xs = x :: ys ∧ Rep K N fa H d x ∧ Reps K N fa H r ys
end
def RepB (K : PySem.W.Frag) (N : Addr → Prop) (fa : Option Addr) (H : Hp) : D → V → Prop
 | .lst ds,v => ∃ a xs,v = .ref a ∧ fa ≠ some a ∧ H a = some (.lst xs) ∧ Reps K N fa H ds xs
 | d,v => Rep K N fa H d v
def P2 (K : PySem.W.Frag) (N : Addr → Prop) (fa : Option Addr) (H : Hp) : List D → List V → Prop
 | [],xs => xs = []
 | d :: r,xs => ∃ x ys,xs = x :: ys ∧ RepB K N fa H d x ∧ P2 K N fa H r ys
structure Car (K : PySem.W.Frag) (N : Addr → Prop) (fa : Option Addr) (H : Hp) (N' : Addr → Prop) (fa' : Option Addr) (H' : Hp) : Prop where
 ls : ∀ b xs,¬ N b → H b = some (.lst xs) → H' b = some (.lst xs) ∧ ¬ N' b
 tp : ∀ b xs,SqT K H b xs → SqT K H' b xs
 fz : ∀ b xs,SqF K H b xs → SqF K H' b xs
 fe : ∀ a,fa = some a → fa' = some a
section
variable {K : PySem.W.Frag} {N N' : Addr → Prop} {fa fa' : Option Addr} {H H' : Hp}
mutual
theorem Rep.go (c : Car K N fa H N' fa' H') : ∀ (d : D) (v : V),Rep K N fa H d v → Rep K N' fa' H' d v
 | .non,v,h => by simpa only [Rep] using h
 | .bl b,v,h => by simpa only [Rep] using h
 | .int i,v,h => by simpa only [Rep] using h
 | .str x,v,h => by simpa only [Rep] using h
 | .tup ds,v,h => by
  simp only [Rep] at h ⊢
  obtain ⟨a,xs,e,q,r⟩ := h
  exact ⟨a,xs,e,c.tp a xs q,Reps.go c ds xs r⟩
 | .lst ds,v,h => by
  simp only [Rep] at h ⊢
  obtain ⟨a,xs,e,n,q,r⟩ := h
  obtain ⟨q',n'⟩ := c.ls a xs n q
  exact ⟨a,xs,e,n',q',Reps.go c ds xs r⟩
 | .feed,v,h => by
  simp only [Rep] at h ⊢
  obtain ⟨a,e,q⟩ := h
  exact ⟨a,c.fe a e,q⟩
 | .scr ns,v,h => by
  simp only [Rep] at h ⊢
  obtain ⟨l,a,e,q⟩ := h
  exact ⟨l,a,e,c.fz a _ q⟩
theorem Reps.go (c : Car K N fa H N' fa' H') : ∀ (ds : List D) (xs : List V),Reps K N fa H ds xs → Reps K N' fa' H' ds xs
 | [],xs,h => by simpa only [Reps] using h
 | d :: r,xs,h => by
  simp only [Reps] at h ⊢
  obtain ⟨x,ys,e,h1,h2⟩ := h
  exact ⟨x,ys,e,Rep.go c d x h1,Reps.go c r ys h2⟩
end
theorem Rep.b (hN : ∀ a,fa = some a → N a) {d : D} {v : V} (h : Rep K N fa H d v) : RepB K N fa H d v:= by
 cases d with
 | lst ds=>
  simp only [Rep] at h
  obtain ⟨a,xs,e,n,q,r⟩ := h
  exact ⟨a,xs,e,fun z => n (hN a z),q,r⟩
 | _ => simpa only [RepB] using h
def K4 (K : PySem.W.Frag) (N : Addr → Prop) (fa : Option Addr) (H : Hp) : D → V → Prop
 | .lst ds,v => ∃ a xs,v = .ref a ∧ H a = some (.lst xs) ∧ Reps K N fa H ds xs
 | d,v => Rep K N fa H d v
theorem Rep.o {d : D} {v : V} (h : Rep K N fa H d v) : K4 K N fa H d v:= by
 cases d with
 | lst ds=>
  simp only [Rep] at h
  obtain ⟨a,xs,e,_,q,r⟩ := h
  exact ⟨a,xs,e,q,r⟩
 | _ => simpa only [K4] using h
theorem RepB.o {d : D} {v : V} (h : RepB K N fa H d v) : K4 K N fa H d v:= by
 cases d with
 | lst ds=>
  obtain ⟨a,xs,e,_,q,r⟩ := h
  exact ⟨a,xs,e,q,r⟩
 | _ => simpa only [K4,RepB] using h
theorem Reps.length : ∀ {ds : List D} {xs : List V},Reps K N fa H ds xs → xs.length = ds.length
 | [],xs,h => by simp only [Reps] at h; subst h; rfl
 | d :: r,xs,h => by
  simp only [Reps] at h
  obtain ⟨x,ys,e,h1,h2⟩ := h
  subst e
  simp [Reps.length h2]
theorem Reps.get : ∀ {ds : List D} {xs : List V} {i : Nat} {d : D},Reps K N fa H ds xs → ds[i]? = some d → ∃ x,xs[i]? = some x ∧ Rep K N fa H d x
 | [],xs,i,d,h,e => by simp at e
 | d :: r,xs,0,d',h,e => by
  simp only [Reps] at h
  obtain ⟨x,ys,e1,h1,h2⟩ := h
  simp at e
  subst e1; subst e
  exact ⟨x,rfl,h1⟩
 | d :: r,xs,i + 1,d',h,e => by
  simp only [Reps] at h
  obtain ⟨x,ys,e1,h1,h2⟩ := h
  subst e1
  obtain ⟨y,e2,h3⟩ := Reps.get h2 (by simpa using e)
  exact ⟨y,by simpa using e2,h3⟩
theorem Reps.get' : ∀ {ds : List D} {xs : List V} {i : Nat} {x : V},Reps K N fa H ds xs → xs[i]? = some x → ∃ d,ds[i]? = some d ∧ Rep K N fa H d x := fun {ds xs i x} h e => by
 have hl := h.length
 have hi : i < xs.length := (List.getElem?_eq_some_iff.mp e).1
 obtain ⟨y,e2,h3⟩ := Reps.get h (List.getElem?_eq_getElem (show i < ds.length by omega))
 rw [e] at e2; cases e2
 exact ⟨_,List.getElem?_eq_getElem (show i < ds.length by omega),h3⟩
theorem Reps.append : ∀ {ds es : List D} {xs ys : List V},Reps K N fa H ds xs → Reps K N fa H es ys → Reps K N fa H (ds ++ es) (xs ++ ys)
 | [],es,xs,ys,h,q => by simp only [Reps] at h; subst h; simpa using q
 | d :: r,es,xs,ys,h,q => by
  simp only [Reps] at h
  obtain ⟨x,zs,e1,h1,h2⟩ := h
  subst e1
  simp only [List.cons_append,Reps]
  exact ⟨x,_,rfl,h1,Reps.append h2 q⟩
theorem Reps.one {d : D} {x : V} (h : Rep K N fa H d x) : Reps K N fa H [d] [x]:= by
 simp only [Reps]
 exact ⟨x,[],rfl,h,rfl⟩
theorem Reps.nil : Reps K N fa H [] [] := by simp only [Reps]
theorem Reps.take : ∀ {ds : List D} {xs : List V} (n : Nat),Reps K N fa H ds xs → Reps K N fa H (ds.take n) (xs.take n)
 | _,_,0,_ => by simp only [List.take_zero,Reps]
 | [],xs,n + 1,h => by simp only [Reps] at h; subst h; simp only [List.take_nil,Reps]
 | d :: r,xs,n + 1,h => by
  simp only [Reps] at h
  obtain ⟨x,zs,e1,h1,h2⟩ := h
  subst e1
  simp only [List.take_succ_cons,Reps]
  exact ⟨x,_,rfl,h1,Reps.take n h2⟩
theorem Reps.drop : ∀ {ds : List D} {xs : List V} (n : Nat),Reps K N fa H ds xs → Reps K N fa H (ds.drop n) (xs.drop n)
 | _,_,0,h => by simpa using h
 | [],xs,n + 1,h => by simp only [Reps] at h; subst h; simp only [List.drop_nil,Reps]
 | d :: r,xs,n + 1,h => by
  simp only [Reps] at h
  obtain ⟨x,zs,e1,h1,h2⟩ := h
  subst e1
  simpa using Reps.drop n h2
theorem Reps.ints : ∀ {ns : List Int},Reps K N fa H (ns.map D.int) (ns.map V.int)
 | [] => by simp only [List.map_nil,Reps]
 | n :: r => by
  simp only [List.map_cons,Reps,Rep]
  exact ⟨_,_,rfl,rfl,Reps.ints⟩
theorem Reps.reverse : ∀ {ds : List D} {xs : List V},Reps K N fa H ds xs → Reps K N fa H ds.reverse xs.reverse
 | [],xs,h => by simp only [Reps] at h; subst h; simp only [List.reverse_nil,Reps]
 | d :: r,xs,h => by
  simp only [Reps] at h
  obtain ⟨x,zs,e1,h1,h2⟩ := h
  subst e1
  simp only [List.reverse_cons]
  exact Reps.append (Reps.reverse h2) (Reps.one h1)
end
inductive Sl where
 | no | val (d : D) | own (ds : List D)
structure DS where
 sl : List Sl
 fs : Option FS
def NN (F : Addr → Prop) (fa : Option Addr) (O : List Addr) : Addr → Prop := fun b => F b ∨ b ∈ O ∨ fa = some b
def SlR (K : PySem.W.Frag) (N : Addr → Prop) (fa : Option Addr) (H : Hp) : List Sl → List (Option V) → List Addr → Prop
 | [],σ,O => σ = [] ∧ O = []
 | .no :: r,σ,O => ∃ v τ,σ = v :: τ ∧ SlR K N fa H r τ O
 | .val d :: r,σ,O => ∃ u τ,σ = some u :: τ ∧ Rep K N fa H d u ∧ SlR K N fa H r τ O
 | .own ds :: r,σ,O => ∃ a xs τ P,σ = some (.ref a) :: τ ∧ O = a :: P ∧ H a = some (.lst xs) ∧ Reps K N fa H ds xs ∧ SlR K N fa H r τ P
structure Stp (fa : Option Addr) (O : List Addr) (H : Hp) (fa' : Option Addr) (O' : List Addr) (H' : Hp) : Prop where
 sub : ∀ b ∈ O',b ∈ O ∨ H b = none
 fe : fa' = fa ∨ (fa = none ∧ ∀ a,fa' = some a → H a = none)
 same : ∀ b u,H b = some u → b ∉ O → fa ≠ some b → H' b = some u
 mon : ∀ b,H' b = none → H b = none
structure StE (fa : Option Addr) (O : List Addr) (H : Hp) (fa' : Option Addr) (O' : List Addr) (H' : Hp) : Prop where
 sub : ∀ b ∈ O',b ∈ O
 fe : fa' = fa ∨ (fa = none ∧ ∀ a,fa' = some a → H a = none)
 same : ∀ b u,H b = some u → fa ≠ some b → H' b = some u
 mon : ∀ b,H' b = none → H b = none
structure DI (K : PySem.W.Frag) (F : Addr → Prop) (H0 : Hp) (fa0 : Option Addr) (σ : St) (H : Hp) (fa : Option Addr) (O : List Addr) (s : DS) : Prop where
 nd : O.Nodup
 sl : SlR K (NN F fa O) fa H s.sl σ O
 fr : ∀ b ∈ O,H0 b = none
 st : Stp fa0 [] H0 fa [] H
 tr : ∀ b,F b → H0 b ≠ none
 ff : ∀ a,fa0 = some a → F a
 fd : FeedR (NN F fa O) H fa s.fs
 nf : ∀ a,fa = some a → a ∉ O
section
variable {fa fa' fa'' : Option Addr} {O O' O'' : List Addr} {H H' H'' : Hp}
theorem StE.stp (h : StE fa O H fa' O' H') : Stp fa O H fa' O' H' := ⟨fun b hb => .inl (h.sub b hb),h.fe,fun b u e _ n => h.same b u e n,h.mon⟩
theorem StE.refl : StE fa O H fa O H := ⟨fun _ h => h,.inl rfl,fun _ _ e _ => e,fun _ h => h⟩
theorem Stp.refl : Stp fa O H fa O H := StE.refl.stp
theorem StE.trans (a : StE fa O H fa' O' H') (b : StE fa' O' H' fa'' O'' H'') : StE fa O H fa'' O'' H'':= by
 refine ⟨fun c hc => a.sub c (b.sub c hc),?_,fun c u e n => ?_,fun c h => a.mon c (b.mon c h)⟩
 ·rcases a.fe with e | ⟨e,h⟩
  ·rcases b.fe with e' | ⟨e',h'⟩
   ·exact .inl (e'.trans e)
   ·exact .inr ⟨e ▸ e',fun c z => a.mon c (h' c z)⟩
  ·rcases b.fe with e' | ⟨e',h'⟩
   ·exact .inr ⟨e,fun c z => h c (e' ▸ z)⟩
   ·exact .inr ⟨e,fun c z => a.mon c (h' c z)⟩
 ·refine b.same c u (a.same c u e n) fun z => ?_
  rcases a.fe with q | ⟨q,h⟩
  ·rw [q] at z; exact n z
  ·rw [h c z] at e; cases e
theorem Stp.trans (a : Stp fa O H fa' O' H') (b : Stp fa' O' H' fa'' O'' H'') : Stp fa O H fa'' O'' H'':= by
 refine ⟨fun c hc => ?_,?_,fun c u e hc n => ?_,fun c h => a.mon c (b.mon c h)⟩
 ·rcases b.sub c hc with q | q
  ·exact a.sub c q
  ·exact .inr (a.mon c q)
 ·rcases a.fe with e | ⟨e,h⟩
  ·rcases b.fe with e' | ⟨e',h'⟩
   ·exact .inl (e'.trans e)
   ·exact .inr ⟨e ▸ e',fun c z => a.mon c (h' c z)⟩
  ·rcases b.fe with e' | ⟨e',h'⟩
   ·exact .inr ⟨e,fun c z => h c (e' ▸ z)⟩
   ·exact .inr ⟨e,fun c z => a.mon c (h' c z)⟩
 ·refine b.same c u (a.same c u e hc n) (fun z => ?_) fun z => ?_
  ·rcases a.sub c z with q | q
   ·exact hc q
   ·rw [q] at e; cases e
  ·rcases a.fe with q | ⟨q,h⟩
   ·rw [q] at z; exact n z
   ·rw [h c z] at e; cases e
theorem Stp.fa_keep (a : Stp fa O H fa' O' H') {x : Addr} (h : fa = some x) : fa' = some x:= by
 rcases a.fe with e | ⟨e,_⟩
 ·rw [e,h]
 ·rw [h] at e; cases e
variable {K : PySem.W.Frag} {F : Addr → Prop} {H0 : Hp} {fa0 : Option Addr} {σ : St} {s : DS}
theorem FeedR.no_frz {N : Addr → Prop} {fs : Option FS} {a : Addr} {o : Obj} {u : HO} (h : FeedR N H fa fs) (e : fa = some a) (q : H a = some (.frz o u)) : False:= by
 subst e
 cases fs with
 | none => exact h
 | some f=>
  obtain ⟨_,c,h1,_⟩ := h
  rw [h1] at q; exact a9M (Option.some.inj q)
theorem FeedR.no_tup {N : Addr → Prop} {fs : Option FS} {a : Addr} {xs : List V} (h : FeedR N H fa fs) (e : fa = some a) (z : Rd H a (.tup xs)) : False:= by
 rcases z with z | ⟨o,z⟩
 ·subst e
  cases fs with
  | none => exact h
  | some f=>
   obtain ⟨_,c,h1,_⟩ := h
   rw [h1] at z; exact b3k (Option.some.inj z)
 ·exact h.no_frz e z
theorem FeedR.tracked {N : Addr → Prop} {fs : Option FS} {a : Addr} (h : FeedR N H fa fs) (e : fa = some a) : H a ≠ none:= by
 subst e
 cases fs with
 | none => exact h.elim
 | some f=>
  obtain ⟨_,c,h1,_⟩ := h
  rw [h1]; simp
theorem SqT.stp' (a : Stp fa O H fa' O' H') (hf : ∀ x,fa = some x → ∀ xs,¬ Rd H x (.tup xs)) (hO : ∀ x ∈ O,∀ xs,¬ Rd H x (.tup xs)) {b : Addr} {xs : List V} (h : SqT K H b xs) : SqT K H' b xs:= by
 rcases h with h | h
 ·refine .inl ?_
  have n1 : b ∉ O := fun z => hO b z xs h
  have n2 : fa ≠ some b := fun z => hf b z xs h
  rcases h with h | ⟨o,h⟩
  ·exact .inl (a.same _ _ h n1 n2)
  ·exact .inr ⟨o,a.same _ _ h n1 n2⟩
 ·exact .inr h
theorem SlR.owned : ∀ {sl : List Sl} {N : Addr → Prop} {σ : List (Option V)} {O : List Addr},SlR K N fa H sl σ O → ∀ b ∈ O,∃ xs,H b = some (.lst xs)
 | [],N,σ,O,h,b,hb => by simp only [SlR] at h; rw [h.2] at hb; cases hb
 | .no :: r,N,σ,O,h,b,hb => by
  simp only [SlR] at h
  obtain ⟨v,τ,_,h⟩ := h
  exact SlR.owned h b hb
 | .val d :: r,N,σ,O,h,b,hb => by
  simp only [SlR] at h
  obtain ⟨v,τ,_,_,h⟩ := h
  exact SlR.owned h b hb
 | .own ds :: r,N,σ,O,h,b,hb => by
  simp only [SlR] at h
  obtain ⟨a,xs,τ,P,_,rfl,e,_,h⟩ := h
  rcases List.mem_cons.mp hb with z | z
  ·subst z; exact ⟨xs,e⟩
  ·exact SlR.owned h b z
theorem DI.owned (I : DI K F H0 fa0 σ H fa O s) {b : Addr} (hb : b ∈ O) : ∃ xs,H b = some (.lst xs) := SlR.owned I.sl b hb
theorem DI.trF (I : DI K F H0 fa0 σ H fa O s) {b : Addr} (hb : F b) : H b ≠ none := fun z => I.tr b hb (I.st.mon b z)
theorem DI.nn_tracked (I : DI K F H0 fa0 σ H fa O s) {b : Addr} (h : NN F fa O b) : H b ≠ none:= by
 rcases h with h | h | h
 ·exact I.trF h
 ·obtain ⟨xs,e⟩ := I.owned h
  rw [e]; simp
 ·exact I.fd.tracked h
theorem DI.nf_step (I : DI K F H0 fa0 σ H fa O s) (h : fa' = fa ∨ (fa = none ∧ ∀ a,fa' = some a → H a = none)) : ∀ a,fa' = some a → a ∉ O := fun a e m => by
 rcases h with z | ⟨z,y⟩
 ·rw [z] at e; exact I.nf a e m
 ·obtain ⟨xs,q⟩ := I.owned m
  rw [y a e] at q; cases q
theorem DI.car (I : DI K F H0 fa0 σ H fa O s) (a : Stp fa O H fa' O' H') : Car K (NN F fa O) fa H (NN F fa' O') fa' H':= by
 have nt : ∀ x xs,H x = some (.lst xs) → ∀ ys,¬ Rd H x (.tup ys) := fun x xs e ys z => by
  rcases z with z | ⟨o,z⟩ <;> · rw [e] at z; cases z
 refine ⟨fun b xs n q => ?_,fun b xs q => ?_,fun b xs q => ?_,fun x e => a.fa_keep e⟩
 ·have n1 : b ∉ O := fun z => n (.inr (.inl z))
  have n2 : fa ≠ some b := fun z => n (.inr (.inr z))
  have tr : H b ≠ none := by rw [q]; simp
  refine ⟨a.same _ _ q n1 n2,fun z => ?_⟩
  ·rcases z with z | z | z
   ·exact n (.inl z)
   ·rcases a.sub b z with y | y
    ·exact n1 y
    ·exact tr y
   ·rcases a.fe with e | ⟨e,h⟩
    ·rw [e] at z; exact n2 z
    ·exact tr (h b z)
 ·refine SqT.stp' a (fun x e ys z => ?_) (fun x hx ys => ?_) q
  ·exact I.fd.no_tup e z
  ·obtain ⟨xs,e⟩ := I.owned hx
   exact nt x xs e ys
 ·rcases q with ⟨o,q⟩ | q
  ·refine .inl ⟨o,a.same _ _ q (fun z => ?_) fun z => ?_⟩
   ·obtain ⟨ys,e⟩ := I.owned z
    rw [e] at q; cases q
   ·exact I.fd.no_frz z q
  ·exact .inr q
end
structure Gh where
 F : Addr → Prop
 H0 : Hp
 fa0 : Option Addr
abbrev GI (K : PySem.W.Frag) (g : Gh) := DI K g.F g.H0 g.fa0
section
variable {K : PySem.W.Frag} {N N' : Addr → Prop} {fa fa' : Option Addr} {H H' : Hp} {g : Gh} {σ : L2.St} {O O' : List Addr} {s : DS}
theorem SlR.go (c : Car K N fa H N' fa' H') : ∀ {sl : List Sl} {σ : List (Option V)} {O : List Addr},(∀ a xs,a ∈ O → H a = some (.lst xs) → H' a = some (.lst xs)) → SlR K N fa H sl σ O → SlR K N' fa' H' sl σ O
 | [],σ,O,_,h => by simpa only [SlR] using h
 | .no :: r,σ,O,ho,h => by
  simp only [SlR] at h ⊢
  obtain ⟨v,τ,e,h⟩ := h
  exact ⟨v,τ,e,SlR.go c ho h⟩
 | .val d :: r,σ,O,ho,h => by
  simp only [SlR] at h ⊢
  obtain ⟨u,τ,e,q,h⟩ := h
  exact ⟨u,τ,e,Rep.go c d u q,SlR.go c ho h⟩
 | .own ds :: r,σ,O,ho,h => by
  simp only [SlR] at h ⊢
  obtain ⟨a,xs,τ,P,e,rfl,ha,q,h⟩ := h
  exact ⟨a,xs,τ,P,e,rfl,ho a xs (List.mem_cons_self ..) ha,Reps.go c ds xs q,SlR.go c (fun b ys hb => ho b ys (List.mem_cons_of_mem _ hb)) h⟩
theorem SlR.val : ∀ {sl : List Sl} {σ : List (Option V)} {O : List Addr} {i : Nat} {d : D},SlR K N fa H sl σ O → sl[i]? = some (.val d) → ∃ u,σ[i]? = some (some u) ∧ Rep K N fa H d u
 | [],σ,O,i,d,h,e => by simp at e
 | .no :: r,σ,O,i,d,h,e => by
  simp only [SlR] at h
  obtain ⟨v,τ,rfl,h⟩ := h
  cases i with
  | zero => simp at e
  | succ i => simpa using SlR.val h (by simpa using e)
 | .val d' :: r,σ,O,i,d,h,e => by
  simp only [SlR] at h
  obtain ⟨u,τ,rfl,q,h⟩ := h
  cases i with
  | zero => simp at e; subst e; exact ⟨u,rfl,q⟩
  | succ i => simpa using SlR.val h (by simpa using e)
 | .own ds :: r,σ,O,i,d,h,e => by
  simp only [SlR] at h
  obtain ⟨a,xs,τ,P,rfl,rfl,ha,q,h⟩ := h
  cases i with
  | zero => simp at e
  | succ i => simpa using SlR.val h (by simpa using e)
theorem SlR.own : ∀ {sl : List Sl} {σ : List (Option V)} {O : List Addr} {i : Nat} {ds : List D},SlR K N fa H sl σ O → sl[i]? = some (.own ds) → ∃ a xs,σ[i]? = some (some (.ref a)) ∧ a ∈ O ∧ H a = some (.lst xs) ∧ Reps K N fa H ds xs
 | [],σ,O,i,d,h,e => by simp at e
 | .no :: r,σ,O,i,d,h,e => by
  simp only [SlR] at h
  obtain ⟨v,τ,rfl,h⟩ := h
  cases i with
  | zero => simp at e
  | succ i => simpa using SlR.own h (by simpa using e)
 | .val d' :: r,σ,O,i,d,h,e => by
  simp only [SlR] at h
  obtain ⟨u,τ,rfl,q,h⟩ := h
  cases i with
  | zero => simp at e
  | succ i => simpa using SlR.own h (by simpa using e)
 | .own ds :: r,σ,O,i,d,h,e => by
  simp only [SlR] at h
  obtain ⟨a,xs,τ,P,rfl,rfl,ha,q,h⟩ := h
  cases i with
  | zero => simp at e; subst e; exact ⟨a,xs,rfl,List.mem_cons_self ..,ha,q⟩
  | succ i=>
   obtain ⟨b,ys,e1,m,e2,q2⟩ := SlR.own h (by simpa using e)
   exact ⟨b,ys,by simpa using e1,List.mem_cons_of_mem _ m,e2,q2⟩
theorem SlR.put : ∀ {sl : List Sl} {σ : List (Option V)} {O : List Addr} (i : Nat) {d : D} {u : V},SlR K N fa H sl σ O → Rep K N fa H d u →
  ∃ P,P.Sublist O ∧ SlR K N fa H (sl.set i (.val d)) (σ.set i (some u)) P ∧ (O.Nodup → ∀ a,sl[i]?.isSome = true → (∃ ds,sl[i]? = some (.own ds)) → σ[i]? = some (some (.ref a)) → a ∉ P)
 | [],σ,O,i,d,u,h,q => by
  simp only [SlR] at h
  refine ⟨O,List.Sublist.refl _,?_,fun _ a z => by simp at z⟩
  rw [h.1,h.2]
  simp [SlR]
 | .no :: r,σ,O,i,d,u,h,q => by
  simp only [SlR] at h
  obtain ⟨v,τ,rfl,h⟩ := h
  cases i with
  | zero => exact ⟨O,List.Sublist.refl _,by simp only [List.set_cons_zero,SlR]; exact ⟨u,τ,rfl,q,h⟩,fun _ a _ z => by obtain ⟨ds,z⟩ := z; simp at z⟩
  | succ i=>
   obtain ⟨P,hs,h1,h2⟩ := SlR.put i h q
   exact ⟨P,hs,by simp only [List.set_cons_succ,SlR]; exact ⟨v,_,rfl,h1⟩,by simpa using h2⟩
 | .val d' :: r,σ,O,i,d,u,h,q => by
  simp only [SlR] at h
  obtain ⟨v,τ,rfl,qv,h⟩ := h
  cases i with
  | zero => exact ⟨O,List.Sublist.refl _,by simp only [List.set_cons_zero,SlR]; exact ⟨u,τ,rfl,q,h⟩,fun _ a _ z => by obtain ⟨ds,z⟩ := z; simp at z⟩
  | succ i=>
   obtain ⟨P,hs,h1,h2⟩ := SlR.put i h q
   exact ⟨P,hs,by simp only [List.set_cons_succ,SlR]; exact ⟨v,_,rfl,qv,h1⟩,by simpa using h2⟩
 | .own ds :: r,σ,O,i,d,u,h,q => by
  simp only [SlR] at h
  obtain ⟨a,xs,τ,P,rfl,rfl,ha,qv,h⟩ := h
  cases i with
  | zero=>
   refine ⟨P,List.sublist_cons_self ..,by simp only [List.set_cons_zero,SlR]; exact ⟨u,τ,rfl,q,h⟩,fun nd b _ _ e => ?_⟩
   simp at e; subst e
   exact (List.nodup_cons.mp nd).1
  | succ i=>
   obtain ⟨P',hs,h1,h2⟩ := SlR.put i h q
   refine ⟨a :: P',hs.cons_cons a,by simp only [List.set_cons_succ,SlR]; exact ⟨a,xs,_,P',rfl,rfl,ha,qv,h1⟩,fun nd b e1 e2 e3 => ?_⟩
   have nd' := List.nodup_cons.mp nd
   have n1 := h2 nd'.2 b (by simpa using e1) (by simpa using e2) (by simpa using e3)
   intro z
   rcases List.mem_cons.mp z with z | z
   ·subst z
    obtain ⟨dz,e2⟩ := e2
    obtain ⟨b',_,e4,m,_⟩ := SlR.own h (i := i) (by simpa using e2)
    rw [List.getElem?_cons_succ] at e3
    rw [e3] at e4
    cases e4
    exact nd'.1 m
   ·exact n1 z
theorem SlR.putN : ∀ {sl : List Sl} {σ : List (Option V)} {O : List Addr} (i : Nat) {ds : List D} {p : Addr} {xs : List V},SlR K N fa H sl σ O → i < sl.length → p ∉ O → O.Nodup → H p = some (.lst xs) → Reps K N fa H ds xs →
  ∃ P,(∀ b ∈ P,b = p ∨ b ∈ O) ∧ P.Nodup ∧ SlR K N fa H (sl.set i (.own ds)) (σ.set i (some (.ref p))) P
 | [],σ,O,i,ds,p,xs,h,hi,hp,nd,e,q => by simp at hi
 | .no :: r,σ,O,i,ds,p,xs,h,hi,hp,nd,e,q => by
  simp only [SlR] at h
  obtain ⟨v,τ,rfl,h⟩ := h
  cases i with
  | zero => exact ⟨p :: O,fun b hb => List.mem_cons.mp hb,List.nodup_cons.mpr ⟨hp,nd⟩,by simp only [List.set_cons_zero,SlR]; exact ⟨p,xs,τ,O,rfl,rfl,e,q,h⟩⟩
  | succ i=>
   obtain ⟨P,h1,h2,h3⟩ := SlR.putN i h (by simpa using hi) hp nd e q
   exact ⟨P,h1,h2,by simp only [List.set_cons_succ,SlR]; exact ⟨v,_,rfl,h3⟩⟩
 | .val d' :: r,σ,O,i,ds,p,xs,h,hi,hp,nd,e,q => by
  simp only [SlR] at h
  obtain ⟨v,τ,rfl,qv,h⟩ := h
  cases i with
  | zero => exact ⟨p :: O,fun b hb => List.mem_cons.mp hb,List.nodup_cons.mpr ⟨hp,nd⟩,by simp only [List.set_cons_zero,SlR]; exact ⟨p,xs,τ,O,rfl,rfl,e,q,h⟩⟩
  | succ i=>
   obtain ⟨P,h1,h2,h3⟩ := SlR.putN i h (by simpa using hi) hp nd e q
   exact ⟨P,h1,h2,by simp only [List.set_cons_succ,SlR]; exact ⟨v,_,rfl,qv,h3⟩⟩
 | .own ds' :: r,σ,O,i,ds,p,xs,h,hi,hp,nd,e,q => by
  simp only [SlR] at h
  obtain ⟨a,ys,τ,P,rfl,rfl,ha,qv,h⟩ := h
  have nd' := List.nodup_cons.mp nd
  cases i with
  | zero=>
   refine ⟨p :: P,fun b hb => (List.mem_cons.mp hb).imp id fun z => List.mem_cons_of_mem _ z,List.nodup_cons.mpr ⟨fun z => hp (List.mem_cons_of_mem _ z),nd'.2⟩,?_⟩
   simp only [List.set_cons_zero,SlR]
   exact ⟨p,xs,τ,P,rfl,rfl,e,q,h⟩
  | succ i=>
   obtain ⟨P',h1,h2,h3⟩ := SlR.putN i h (by simpa using hi) (fun z => hp (List.mem_cons_of_mem _ z)) nd'.2 e q
   refine ⟨a :: P',fun b hb => ?_,List.nodup_cons.mpr ⟨fun z => ?_,h2⟩,by simp only [List.set_cons_succ,SlR]; exact ⟨a,ys,_,P',rfl,rfl,ha,qv,h3⟩⟩
   ·rcases List.mem_cons.mp hb with z | z
    ·exact .inr (by rw [z]; exact List.mem_cons_self ..)
    ·exact (h1 b z).imp id fun y => List.mem_cons_of_mem _ y
   ·rcases h1 a z with y | y
    ·exact hp (by rw [y]; exact List.mem_cons_self ..)
    ·exact nd'.1 y
theorem SlR.rew : ∀ {sl : List Sl} {σ : List (Option V)} {O : List Addr} {i : Nat} {ds es : List D} {a : Addr} {ys : List V},SlR K N fa H sl σ O → O.Nodup → (∀ b ∈ O,N b) → sl[i]? = some (.own ds) → σ[i]? = some (some (.ref a)) → H' a = some (.lst ys) →
  Car K N fa H N fa H' → (∀ b u,b ≠ a → H b = some u → H' b = some u) → Reps K N fa H' es ys → SlR K N fa H' (sl.set i (.own es)) σ O
 | [],σ,O,i,ds,es,a,ys,h,nd,hN,e1,e2,e3,c,k,q => by simp at e1
 | .no :: r,σ,O,i,ds,es,a,ys,h,nd,hN,e1,e2,e3,c,k,q => by
  simp only [SlR] at h
  obtain ⟨v,τ,rfl,h⟩ := h
  cases i with
  | zero => simp at e1
  | succ i => simp only [List.set_cons_succ,SlR]; exact ⟨v,τ,rfl,SlR.rew h nd hN (by simpa using e1) (by simpa using e2) e3 c k q⟩
 | .val d' :: r,σ,O,i,ds,es,a,ys,h,nd,hN,e1,e2,e3,c,k,q => by
  simp only [SlR] at h
  obtain ⟨v,τ,rfl,qv,h⟩ := h
  cases i with
  | zero => simp at e1
  | succ i => simp only [List.set_cons_succ,SlR]; exact ⟨v,τ,rfl,Rep.go c _ _ qv,SlR.rew h nd hN (by simpa using e1) (by simpa using e2) e3 c k q⟩
 | .own ds' :: r,σ,O,i,ds,es,a,ys,h,nd,hN,e1,e2,e3,c,k,q => by
  simp only [SlR] at h
  obtain ⟨b,zs,τ,P,rfl,rfl,ha,qv,h⟩ := h
  have nd' := List.nodup_cons.mp nd
  cases i with
  | zero=>
   simp at e2
   subst e2
   simp only [List.set_cons_zero,SlR]
   exact ⟨b,ys,τ,P,rfl,rfl,e3,q,SlR.go c (fun x xs hx z => k x _ (fun y => nd'.1 (y ▸ hx)) z) h⟩
  | succ i=>
   have nb : b ≠ a := fun z => by
    obtain ⟨a',_,e4,m,_⟩ := SlR.own h (i := i) (by simpa using e1)
    rw [List.getElem?_cons_succ] at e2
    rw [e2] at e4
    cases e4
    exact nd'.1 (z ▸ m)
   simp only [List.set_cons_succ,SlR]
   exact ⟨b,zs,τ,P,rfl,rfl,k b _ nb ha,Reps.go c _ _ qv,SlR.rew h nd'.2 (fun x hx => hN x (List.mem_cons_of_mem _ hx)) (by simpa using e1) (by simpa using e2) e3 c k q⟩
theorem RepB.stp {d : D} {v : V} (I : GI K g σ H fa O s) (a : StE fa O H fa' O' H') (h : RepB K (NN g.F fa O) fa H d v) : RepB K (NN g.F fa' O') fa' H' d v:= by
 have c := I.car a.stp
 cases d with
 | lst ds=>
  obtain ⟨x,xs,e,nf,q,r⟩ := h
  refine ⟨x,xs,e,fun z => ?_,a.same _ _ q nf,Reps.go c ds xs r⟩
  rcases a.fe with y | ⟨_,y⟩
  ·rw [y] at z; exact nf z
  ·rw [y x z] at q; cases q
 | _=>
  simp only [RepB] at h ⊢
  exact Rep.go c _ _ h
theorem Rep.stp {d : D} {v : V} (I : GI K g σ H fa O s) (a : Stp fa O H fa' O' H') (h : Rep K (NN g.F fa O) fa H d v) : Rep K (NN g.F fa' O') fa' H' d v := Rep.go (I.car a) d v h
theorem Reps.stp {ds : List D} {xs : List V} (I : GI K g σ H fa O s) (a : Stp fa O H fa' O' H') (h : Reps K (NN g.F fa O) fa H ds xs) : Reps K (NN g.F fa' O') fa' H' ds xs := Reps.go (I.car a) ds xs h
theorem C2 {p : Addr} {o : HO} (h : H p = none) : StE fa O H fa O (upd H p o):=
 ⟨fun _ h => h,.inl rfl,fun b u e _ => by rw [o9 (K0 e h)]; exact e,fun b z => by
  by_cases hb : b = p
  ·subst hb; exact h
  ·rw [o9 hb] at z; exact z⟩
theorem FeedR.car {fs : Option FS} (c : Car K N fa H N' fa H') (h : ∀ a,fa = some a → H' a = H a) (f : FeedR N H fa fs) : FeedR N' H' fa fs:= by
 cases fa with
 | none => cases fs <;> simpa only [FeedR] using f
 | some a=>
  cases fs with
  | none => simpa only [FeedR] using f
  | some x=>
   simp only [FeedR] at f ⊢
   obtain ⟨l,b,h1,h2,h3⟩ := f
   obtain ⟨q,n⟩ := c.ls b _ h2 h3
   exact ⟨l,b,by rw [h a rfl]; exact h1,n,q⟩
theorem FeedR.same_new {fs : Option FS} {p : Addr} {o : HO} (f : FeedR N H fa fs) (h : H p = none) : ∀ a,fa = some a → upd H p o a = H a := fun a e => o9 fun z => f.tracked e (z ▸ h)
theorem DI.new {p : Addr} {o : HO} (I : GI K g σ H fa O s) (h : H p = none) : GI K g σ (upd H p o) fa O s:= by
 have a : StE fa O H fa O (upd H p o) := C2 h
 refine ⟨I.nd,SlR.go (I.car a.stp) (fun b xs hb e => ?_) I.sl,I.fr,I.st.trans ((C2 (O := []) h).stp),I.tr,I.ff,I.fd.car (I.car a.stp) (I.fd.same_new h),I.nf⟩
 rw [o9 (K0 e h)]; exact e
end
abbrev DE := DS → Option (D × DS)
abbrev DT := DS → Option (Bool × DS)
abbrev DA := DS → Option (List D × DS)
inductive Fl where
 | next | brk | cont | ret (d : D)
abbrev DM := DS → Option (Fl × DS)
structure NewL (K : PySem.W.Frag) (g : Gh) (σ : L2.St) (H : Hp) (fa : Option Addr) (O : List Addr) (s : DS) (p : Addr) (xs : List V) (ds : List D) : Prop where
 gi : GI K g σ H fa O s
 ls : H p = some (.lst xs)
 sl : SlR K (fun b => NN g.F fa O b ∨ b = p) fa H s.sl σ O
 fd : FeedR (fun b => NN g.F fa O b ∨ b = p) H fa s.fs
 rs : Reps K (fun b => NN g.F fa O b ∨ b = p) fa H ds xs
 nf : fa ≠ some p
section
variable (K : PySem.W.Frag) (g : Gh)
def liftE (f : DE) : TE := fun σ H Q => ∃ fa O s d s',GI K g σ H fa O s ∧ f s = some (d,s') ∧
 ∀ v H' fa' O',StE fa O H fa' O' H' → GI K g σ H' fa' O' s' → Rep K (NN g.F fa' O') fa' H' d v → Q v H'
def liftB (f : DE) : TE := fun σ H Q => ∃ fa O s d s',GI K g σ H fa O s ∧ f s = some (d,s') ∧
 ∀ v H' fa' O',StE fa O H fa' O' H' → GI K g σ H' fa' O' s' → RepB K (NN g.F fa' O') fa' H' d v → Q v H'
def liftF (f : DA) : TE := fun σ H Q => ∃ fa O s ds s',GI K g σ H fa O s ∧ f s = some (ds,s') ∧
 ∀ p xs H' fa' O',StE fa O H fa' O' H' → NewL K g σ H' fa' O' s' p xs ds → H p = none → Q (.ref p) H'
def liftT (f : DT) : TT := fun σ H Q => ∃ fa O s d s',GI K g σ H fa O s ∧ f s = some (d,s') ∧
 ∀ H' fa' O',StE fa O H fa' O' H' → GI K g σ H' fa' O' s' → Q d H'
def liftA (f : DA) : TA := fun σ H Q => ∃ fa O s ds s',GI K g σ H fa O s ∧ f s = some (ds,s') ∧
 ∀ vs H' fa' O',StE fa O H fa' O' H' → GI K g σ H' fa' O' s' → Reps K (NN g.F fa' O') fa' H' ds vs → Q vs H'
def liftBA (f : DA) : TA := fun σ H Q => ∃ fa O s ds s',GI K g σ H fa O s ∧ f s = some (ds,s') ∧
 ∀ vs H' fa' O',StE fa O H fa' O' H' → GI K g σ H' fa' O' s' → P2 K (NN g.F fa' O') fa' H' ds vs → Q vs H'
def FlK (E : Ends) (fa : Option Addr) (O : List Addr) (H : Hp) (fl : Fl) (s' : DS) : Prop:=
 match fl with
 | .next => ∀ σ' H' fa' O',Stp fa O H fa' O' H' → GI K g σ' H' fa' O' s' → E.nx σ' H'
 | .brk => ∀ σ' H' fa' O',Stp fa O H fa' O' H' → GI K g σ' H' fa' O' s' → E.bk σ' H'
 | .cont => ∀ σ' H' fa' O',Stp fa O H fa' O' H' → GI K g σ' H' fa' O' s' → E.ct σ' H'
 | .ret d => ∀ σ' v H' fa' O',Stp fa O H fa' O' H' → GI K g σ' H' fa' O' s' → Rep K (NN g.F fa' O') fa' H' d v → E.rt v H'
def liftS (f : DM) : TS := fun E σ H => ∃ fa O s fl s',GI K g σ H fa O s ∧ f s = some (fl,s') ∧ FlK K g E fa O H fl s'
end
section
variable {K : PySem.W.Frag} {g : Gh} {σ : L2.St} {H : Hp} {G : Prop}
theorem liftE.elim {f : DE} {Q : VK} (h : liftE K g f σ H Q) (k : ∀ fa O s d s',GI K g σ H fa O s → f s = some (d,s') → (∀ v H' fa' O',StE fa O H fa' O' H' → GI K g σ H' fa' O' s' → Rep K (NN g.F fa' O') fa' H' d v → Q v H') → G) : G:= by
 obtain ⟨fa,O,s,d,s',a,b,c⟩ := h
 exact k fa O s d s' a b c
theorem liftB.elim {f : DE} {Q : VK} (h : liftB K g f σ H Q) (k : ∀ fa O s d s',GI K g σ H fa O s → f s = some (d,s') → (∀ v H' fa' O',StE fa O H fa' O' H' → GI K g σ H' fa' O' s' → RepB K (NN g.F fa' O') fa' H' d v → Q v H') → G) : G:= by
 obtain ⟨fa,O,s,d,s',a,b,c⟩ := h
 exact k fa O s d s' a b c
theorem liftF.elim {f : DA} {Q : VK} (h : liftF K g f σ H Q) (k : ∀ fa O s d s',GI K g σ H fa O s → f s = some (d,s') → (∀ p xs H' fa' O',StE fa O H fa' O' H' → NewL K g σ H' fa' O' s' p xs d → H p = none → Q (.ref p) H') → G) : G:= by
 obtain ⟨fa,O,s,d,s',a,b,c⟩ := h
 exact k fa O s d s' a b c
theorem liftT.elim {f : DT} {Q : Bool → Hp → Prop} (h : liftT K g f σ H Q) (k : ∀ fa O s d s',GI K g σ H fa O s → f s = some (d,s') → (∀ H' fa' O',StE fa O H fa' O' H' → GI K g σ H' fa' O' s' → Q d H') → G) : G:= by
 obtain ⟨fa,O,s,d,s',a,b,c⟩ := h
 exact k fa O s d s' a b c
theorem liftA.elim {f : DA} {Q : List V → Hp → Prop} (h : liftA K g f σ H Q) (k : ∀ fa O s d s',GI K g σ H fa O s → f s = some (d,s') → (∀ vs H' fa' O',StE fa O H fa' O' H' → GI K g σ H' fa' O' s' → Reps K (NN g.F fa' O') fa' H' d vs → Q vs H') → G) : G:= by
 obtain ⟨fa,O,s,d,s',a,b,c⟩ := h
 exact k fa O s d s' a b c
theorem liftBA.elim {f : DA} {Q : List V → Hp → Prop} (h : liftBA K g f σ H Q) (k : ∀ fa O s d s',GI K g σ H fa O s → f s = some (d,s') → (∀ vs H' fa' O',StE fa O H fa' O' H' → GI K g σ H' fa' O' s' → P2 K (NN g.F fa' O') fa' H' d vs → Q vs H') → G) : G:= by
 obtain ⟨fa,O,s,d,s',a,b,c⟩ := h
 exact k fa O s d s' a b c
theorem liftS.elim {f : DM} {E : Ends} (h : liftS K g f E σ H) (k : ∀ fa O s d s',GI K g σ H fa O s → f s = some (d,s') → (FlK K g E fa O H d s') → G) : G:= by
 obtain ⟨fa,O,s,d,s',a,b,c⟩ := h
 exact k fa O s d s' a b c
end
structure EO (X : Cx) (g : Gh) (e : Expr) (f : DE) : Prop where
 pe : PE X e (liftE X.K g f)
structure BO (X : Cx) (g : Gh) (e : Expr) (f : DE) : Prop where
 pe : PE X e (liftB X.K g f)
structure FO (X : Cx) (g : Gh) (e : Expr) (f : DA) : Prop where
 pe : PE X e (liftF X.K g f)
structure TO (X : Cx) (g : Gh) (e : Expr) (f : DT) : Prop where
 pe : PT X e (liftT X.K g f)
structure WO (X : Cx) (g : Gh) (e : Expr) (f : DT) : Prop where
 pe : PW X e (liftT X.K g f)
structure AO (X : Cx) (g : Gh) (es : List Expr) (f : DA) : Prop where
 pe : PA X es (liftA X.K g f)
structure BAO (X : Cx) (g : Gh) (es : List Expr) (f : DA) : Prop where
 pe : PA X es (liftBA X.K g f)
structure SO (X : Cx) (g : Gh) (st : Stmt) (f : DM) : Prop where
 pe : PS X st (liftS X.K g f)
structure SSO (X : Cx) (g : Gh) (st : List Stmt) (f : DM) : Prop where
 pe : PSs X st (liftS X.K g f)
section
variable {X : Cx} {g : Gh} {e : Expr} {f : DE}
theorem PEw {t t' : TE} (h : PE X e t) (w : ∀ σ H Q,t' σ H Q → t σ H Q) : PE X e t' := fun pins s σ H Q I q => h pins s σ H Q I (w σ H Q q)
theorem PTw {t t' : TT} (h : PT X e t) (w : ∀ σ H Q,t' σ H Q → t σ H Q) : PT X e t' := fun pins s σ H Q I q => h pins s σ H Q I (w σ H Q q)
theorem PWw {t t' : TT} (h : PW X e t) (w : ∀ σ H Q,t' σ H Q → t σ H Q) : PW X e t' := fun wh pins s σ H Q I q => h wh pins s σ H Q I (w σ H Q q)
theorem PAw {es : List Expr} {t t' : TA} (h : PA X es t) (w : ∀ σ H Q,t' σ H Q → t σ H Q) : PA X es t' := fun pos pins s σ H Q I q => h pos pins s σ H Q I (w σ H Q q)
theorem PSw {st : Stmt} {t t' : TS} (h : PS X st t) (w : ∀ E σ H,t' E σ H → t E σ H) : PS X st t' := fun pins s σ H E I q => h pins s σ H E I (w E σ H q)
theorem b13 {st : List Stmt} {t t' : TS} (h : PSs X st t) (w : ∀ E σ H,t' E σ H → t E σ H) : PSs X st t' := fun pins s σ H E I q => h pins s σ H E I (w E σ H q)
theorem EO.w {f : DE} {t : TE} (h : PE X e t) (w : ∀ σ H Q,liftE X.K g f σ H Q → t σ H Q) : EO X g e f := ⟨PEw h w⟩
theorem BO.w {f : DE} {t : TE} (h : PE X e t) (w : ∀ σ H Q,liftB X.K g f σ H Q → t σ H Q) : BO X g e f := ⟨PEw h w⟩
theorem FO.w {f : DA} {t : TE} (h : PE X e t) (w : ∀ σ H Q,liftF X.K g f σ H Q → t σ H Q) : FO X g e f := ⟨PEw h w⟩
theorem TO.w {f : DT} {t : TT} (h : PT X e t) (w : ∀ σ H Q,liftT X.K g f σ H Q → t σ H Q) : TO X g e f := ⟨PTw h w⟩
theorem WO.w {f : DT} {t : TT} (h : PW X e t) (w : ∀ σ H Q,liftT X.K g f σ H Q → t σ H Q) : WO X g e f := ⟨PWw h w⟩
theorem AO.w {es : List Expr} {f : DA} {t : TA} (h : PA X es t) (w : ∀ σ H Q,liftA X.K g f σ H Q → t σ H Q) : AO X g es f := ⟨PAw h w⟩
theorem BAO.w {es : List Expr} {f : DA} {t : TA} (h : PA X es t) (w : ∀ σ H Q,liftBA X.K g f σ H Q → t σ H Q) : BAO X g es f := ⟨PAw h w⟩
theorem SO.w {st : Stmt} {f : DM} {t : TS} (h : PS X st t) (w : ∀ E σ H,liftS X.K g f E σ H → t E σ H) : SO X g st f := ⟨PSw h w⟩
theorem SSO.w {st : List Stmt} {f : DM} {t : TS} (h : PSs X st t) (w : ∀ E σ H,liftS X.K g f E σ H → t E σ H) : SSO X g st f := ⟨b13 h w⟩
theorem EO.b (h : EO X g e f) : BO X g e f := BO.w h.pe fun σ H Q ⟨fa,O,s,d,s',I,e,k⟩ => ⟨fa,O,s,d,s',I,e,fun v H' fa' O' a I' r => k v H' fa' O' a I' (r.b fun _ z => .inr (.inr z))⟩
def m8 (f : DA) : DE := fun s => (f s).map fun p => (.lst p.1,p.2)
theorem a1o {K : PySem.W.Frag} {σ : L2.St} {H H' : Hp} {fa fa' : Option Addr} {O O' : List Addr} {s s' : DS} {p : Addr} (I : GI K g σ H fa O s) (a : StE fa O H fa' O' H') (I' : GI K g σ H' fa' O' s') (e : H p = none) (e' : fa' ≠ some p) : ¬ NN g.F fa' O' p:= by
 rintro (z | z | z)
 ·exact I.trF z e
 ·obtain ⟨ys,q⟩ := I.owned (a.sub p z)
  rw [e] at q; cases q
 ·exact e' z
theorem FO.v {f : DA} (h : FO X g e f) : EO X g e (m8 f) := EO.w h.pe fun σ H Q hQ => by
 refine hQ.elim fun fa O s d s' I e k => ?_
 simp only [m8] at e
 cases q : f s with
 | none => rw [q] at e; cases e
 | some p=>
  obtain ⟨ds,s1⟩ := p
  rw [q] at e
  simp only [Option.map_some,Option.some.injEq,Prod.mk.injEq] at e
  obtain ⟨e1,e2⟩ := e
  subst e1; subst e2
  refine ⟨fa,O,s,ds,s1,I,q,fun p xs H' fa' O' a L e1 => k _ H' fa' O' a L.gi ?_⟩
  simp only [Rep]
  exact ⟨p,xs,rfl,a1o I a L.gi e1 L.nf,L.ls,Reps.go ⟨fun b ys n q => ⟨q,fun z => n (.inl z)⟩,fun _ _ q => q,fun _ _ q => q,fun _ q => q⟩ ds xs L.rs⟩
end
theorem a03 {g : Gh} {K : PySem.W.Frag} {σ : L2.St} {H : Hp} {fa : Option Addr} {O : List Addr} {s : DS} {p : Addr} {o : HO} (I : GI K g σ H fa O s) (hp : H p = none) : Car K (NN g.F fa O) fa H (fun b => NN g.F fa O b ∨ b = p) fa (upd H p o):= by
 have c := I.car (C2 (fa := fa) (O := O) (o := o) hp).stp
 refine ⟨fun b xs n q => ?_,c.tp,c.fz,c.fe⟩
 obtain ⟨q',n'⟩ := c.ls b xs n q
 refine ⟨q',?_⟩
 rintro (z | z)
 ·exact n' z
 ·subst z
  rw [hp] at q; cases q
theorem O8 {g : Gh} {K : PySem.W.Frag} {σ : L2.St} {H : Hp} {fa : Option Addr} {O : List Addr} {s : DS} {p : Addr} {ds : List D} {xs : List V} (I : GI K g σ H fa O s) (hp : H p = none) (r : Reps K (NN g.F fa O) fa H ds xs) : NewL K g σ (upd H p (.lst xs)) fa O s p xs ds:=
 ⟨I.new hp,A9,SlR.go (a03 I hp) (fun b ys _ e => by rw [o9 (K0 e hp)]; exact e) I.sl,I.fd.car (a03 I hp) (I.fd.same_new hp),Reps.go (a03 I hp) ds xs r,fun z => I.fd.tracked z hp⟩
def dC (d : D) : DE := fun s => some (d,s)
def dV (i : Nat) : DE := fun s => match s.sl[i]? with
 | some (.val d) => some (d,s)
 | some (.own ds) => some (.lst ds,{ s with sl := s.sl.set i (.val (.lst ds)) })
 | _ => none
def dL (i : Nat) : DE := fun s => match s.sl[i]? with
 | some (.val d) => some (d,s)
 | some (.own ds) => some (.lst ds,s)
 | _ => none
section
variable {X : Cx} {g : Gh}
theorem a9 {i : Nat} {x : Str} {pos : Pos} (h : PE X (.Name x pos) (P6 i)) : BO X g (.Name x pos) (dL i) := BO.w h fun σ H Q hQ => by
 refine hQ.elim fun fa O s d s' I e k => ?_
 simp only [dL] at e
 cases q : s.sl[i]? with
 | none => rw [q] at e; cases e
 | some z=>
  rw [q] at e
  cases z with
  | no => cases e
  | val d'=>
   cases e
   obtain ⟨u,e1,r⟩ := SlR.val I.sl q
   exact ⟨u,e1,k u H fa O StE.refl I (r.b fun _ z => .inr (.inr z))⟩
  | own ds=>
   cases e
   obtain ⟨a,xs,e1,m,e2,r⟩ := SlR.own I.sl q
   exact ⟨_,e1,k _ H fa O StE.refl I ⟨a,xs,rfl,fun z => I.nf a z m,e2,r⟩⟩
theorem c9 {i : Nat} {x : Str} {pos : Pos} (h : PE X (.Name x pos) (P6 i)) : EO X g (.Name x pos) (dV i) := EO.w h fun σ H Q hQ => by
 refine hQ.elim fun fa O s d s' I e k => ?_
 simp only [dV] at e
 cases q : s.sl[i]? with
 | none => rw [q] at e; cases e
 | some z=>
  rw [q] at e
  cases z with
  | no => cases e
  | val d'=>
   cases e
   obtain ⟨u,e1,r⟩ := SlR.val I.sl q
   exact ⟨u,e1,k u H fa O StE.refl I r⟩
  | own ds=>
   cases e
   obtain ⟨a,xs,e1,m,e2,r⟩ := SlR.own I.sl q
   have i' : i < s.sl.length := (List.getElem?_eq_some_iff.mp q).1
   let N1 : Addr → Prop := fun b => NN g.F fa O b ∧ b ≠ a
   have c1 : Car X.K (NN g.F fa O) fa H N1 fa H := ⟨fun b ys n z => ⟨z,fun y => n y.1⟩,fun _ _ z => z,fun _ _ z => z,fun _ z => z⟩
   have S1 := SlR.go c1 (fun _ _ _ z => z) I.sl
   have R1 : Rep X.K N1 fa H (.lst ds) (.ref a):= by
    simp only [Rep]
    exact ⟨a,xs,rfl,fun z => z.2 rfl,e2,Reps.go c1 ds xs r⟩
   obtain ⟨P,hs,S2,hn⟩ := SlR.put i S1 R1
   have na : a ∉ P := hn I.nd a (by rw [q]; rfl) ⟨ds,q⟩ e1
   have eσ : σ.set i (some (V.ref a)) = σ:= by
    apply List.ext_getElem?
    intro j
    by_cases hj : j = i
    ·subst hj
     rw [e1,List.getElem?_set_self (List.getElem?_eq_some_iff.mp e1).1]
    ·rw [List.getElem?_set_ne (Ne.symm hj)]
   rw [eσ] at S2
   have sub : ∀ b ∈ P,b ∈ O := fun b hb => hs.subset hb
   have a1 : StE fa O H fa P H := ⟨sub,.inl rfl,fun _ _ z _ => z,fun _ z => z⟩
   have c2 : Car X.K N1 fa H (NN g.F fa P) fa H := ⟨fun b ys n z => ⟨z,fun y => n ⟨by
     rcases y with y | y | y
     ·exact .inl y
     ·exact .inr (.inl (sub b y))
     ·exact .inr (.inr y),fun w => by
     subst w
     rcases y with y | y | y
     ·exact I.tr b y (I.fr b m)
     ·exact na y
     ·exact I.nf b y m⟩⟩,fun _ _ z => z,fun _ _ z => z,fun _ z => z⟩
   refine ⟨_,e1,k _ H fa P a1 ⟨hs.nodup I.nd,SlR.go c2 (fun _ _ _ z => z) S2,fun b hb => I.fr b (sub b hb),I.st,I.tr,I.ff,(I.fd.car c1 fun _ _ => rfl).car c2 fun _ _ => rfl,fun b z y => I.nf b z (sub b y)⟩ (Rep.go c2 _ _ R1)⟩
theorem a0z {e : Expr} {v : V} {d : D} (h : PE X e (tC v)) (r : ∀ K N fa H,Rep K N fa H d v) : EO X g e (dC d) := EO.w h fun σ H Q hQ => by
 refine hQ.elim fun fa O s d' s' I q k => ?_
 simp only [dC,Option.some.injEq,Prod.mk.injEq] at q
 obtain ⟨q1,q2⟩ := q
 subst q1; subst q2
 exact k v H fa O StE.refl I (r _ _ _ _)
theorem a7 {i j pos} : EO X g (.Constant (.int i) j pos) (dC (.int i)) := a0z X2 fun _ _ _ _ => by simp only [Rep]
theorem a1h {i j pos} : EO X g (.Constant (.bool i) j pos) (dC (.bl i)) := a0z a99 fun _ _ _ _ => by simp only [Rep]
theorem M5 {j pos} : EO X g (.Constant .none j pos) (dC .non) := a0z a7M fun _ _ _ _ => by simp only [Rep]
theorem M9 {x j pos} (hx : x.length ≤ sizeLine) : EO X g (.Constant (.str x) j pos) (dC (.str x)) := a0z a8N fun _ _ _ _ => by simp only [Rep]; exact ⟨trivial,hx⟩
end
def R2D (K : PySem.W.Frag) (r : R2) (p : D → D → Option D) : Prop:=
 ∀ (g : Gh) (σ : L2.St) (H : Hp) (fa : Option Addr) (O : List Addr) (s : DS) (x y : V) (d1 d2 d : D) (Q : VK),GI K g σ H fa O s → RepB K (NN g.F fa O) fa H d1 x → RepB K (NN g.F fa O) fa H d2 y → p d1 d2 = some d →
  (∀ v H',StE fa O H fa O H' → GI K g σ H' fa O s → Rep K (NN g.F fa O) fa H' d v → Q v H') → r x y H Q
def R1D (K : PySem.W.Frag) (r : V → Hp → VK → Prop) (p : D → Option D) : Prop:=
 ∀ (g : Gh) (σ : L2.St) (H : Hp) (fa : Option Addr) (O : List Addr) (s : DS) (x : V) (d1 d : D) (Q : VK),GI K g σ H fa O s → RepB K (NN g.F fa O) fa H d1 x → p d1 = some d →
  (∀ v H',StE fa O H fa O H' → GI K g σ H' fa O s → Rep K (NN g.F fa O) fa H' d v → Q v H') → r x H Q
def R2F (K : PySem.W.Frag) (r : R2) (p : D → D → Option (List D)) : Prop:=
 ∀ (g : Gh) (σ : L2.St) (H : Hp) (fa : Option Addr) (O : List Addr) (s : DS) (x y : V) (d1 d2 : D) (ds : List D) (Q : VK),GI K g σ H fa O s → RepB K (NN g.F fa O) fa H d1 x → RepB K (NN g.F fa O) fa H d2 y → p d1 d2 = some ds →
  (∀ q xs H',StE fa O H fa O H' → NewL K g σ H' fa O s q xs ds → H q = none → Q (.ref q) H') → r x y H Q
def RCD (K : PySem.W.Frag) (r : List V → Hp → VK → Prop) (p : List D → Option D) : Prop:=
 ∀ (g : Gh) (σ : L2.St) (H : Hp) (fa : Option Addr) (O : List Addr) (s : DS) (xs : List V) (ds : List D) (d : D) (Q : VK),GI K g σ H fa O s → P2 K (NN g.F fa O) fa H ds xs → p ds = some d →
  (∀ v H',StE fa O H fa O H' → GI K g σ H' fa O s → Rep K (NN g.F fa O) fa H' d v → Q v H') → r xs H Q
def RCF (K : PySem.W.Frag) (r : List V → Hp → VK → Prop) (p : List D → Option (List D)) : Prop:=
 ∀ (g : Gh) (σ : L2.St) (H : Hp) (fa : Option Addr) (O : List Addr) (s : DS) (xs : List V) (ds es : List D) (Q : VK),GI K g σ H fa O s → P2 K (NN g.F fa O) fa H ds xs → p ds = some es →
  (∀ q ys H',StE fa O H fa O H' → NewL K g σ H' fa O s q ys es → H q = none → Q (.ref q) H') → r xs H Q
def dOp (p : D → D → Option D) (a b : DE) : DE := fun s => (a s).bind fun x => (b x.2).bind fun y => (p x.1 y.1).map fun d => (d,y.2)
def E4 (p : D → D → Option (List D)) (a b : DE) : DA := fun s => (a s).bind fun x => (b x.2).bind fun y => (p x.1 y.1).map fun d => (d,y.2)
def dUn (p : D → Option D) (a : DE) : DE := fun s => (a s).bind fun x => (p x.1).map fun d => (d,x.2)
theorem a65 {α : Type} {p : D → D → Option α} {a b : DE} {s s' : DS} {d : α} (h : ((a s).bind fun x => (b x.2).bind fun y => (p x.1 y.1).map fun d => (d,y.2)) = some (d,s')) : ∃ x s1 y,a s = some (x,s1) ∧ b s1 = some (y,s') ∧ p x y = some d:= by
 refine p8 h fun x s1 h1 h => ?_
 refine p8 h fun y s2 h2 h => ?_
 refine J8 h fun d' h3 h => ?_
 simp only [Prod.mk.injEq] at h
 obtain ⟨e1,e2⟩ := h
 subst e1; subst e2
 exact ⟨x,s1,y,h1,h2,h3⟩
section
variable {X : Cx} {g : Gh} {a b : Expr} {fa fb : DE} {pos : Pos} {r : R2} {p : D → D → Option D}
theorem a0w {r : R2} {p : D → D → Option D} (hr : R2D X.K r p) (σ : L2.St) (H : Hp) (Q : VK) (h : liftE X.K g (dOp p fa fb) σ H Q) : tOp r (liftB X.K g fa) (liftB X.K g fb) σ H Q:= by
 obtain ⟨f0,O,s,d,s',I,e,k⟩ := h
 obtain ⟨x,s1,y,h1,h2,h3⟩ := a65 e
 refine ⟨f0,O,s,x,s1,I,h1,fun v H1 f1 O1 a1 I1 r1 => ⟨f1,O1,s1,y,s',I1,h2,fun u H2 f2 O2 a2 I2 r2 => ?_⟩⟩
 exact hr g σ H2 f2 O2 s' v u x y d Q I2 (RepB.stp I1 a2 r1) r2 h3 fun z H3 a3 I3 r3 => k z H3 f2 O2 (a1.trans (a2.trans a3)) I3 r3
theorem b3l {r : R2} {p : D → D → Option (List D)} (hr : R2F X.K r p) (σ : L2.St) (H : Hp) (Q : VK) (h : liftF X.K g (E4 p fa fb) σ H Q) : tOp r (liftB X.K g fa) (liftB X.K g fb) σ H Q:= by
 obtain ⟨f0,O,s,d,s',I,e,k⟩ := h
 obtain ⟨x,s1,y,h1,h2,h3⟩ := a65 e
 refine ⟨f0,O,s,x,s1,I,h1,fun v H1 f1 O1 a1 I1 r1 => ⟨f1,O1,s1,y,s',I1,h2,fun u H2 f2 O2 a2 I2 r2 => ?_⟩⟩
 exact hr g σ H2 f2 O2 s' v u x y d Q I2 (RepB.stp I1 a2 r1) r2 h3 fun q xs H3 a3 L e1 => k q xs H3 f2 O2 (a1.trans (a2.trans a3)) L (a1.mon _ (a2.mon _ e1))
theorem j5 {op : Operator} (ho : OpR X (binaryOp op) r) (hr : R2D X.K r p) (ha : BO X g a fa) (hb : BO X g b fb) : EO X g (.BinOp a op b pos) (dOp p fa fb) := EO.w (a4o ho ha.pe hb.pe) (a0w hr)
theorem M7 {op : Operator} {p : D → D → Option (List D)} (ho : OpR X (binaryOp op) r) (hr : R2F X.K r p) (ha : BO X g a fa) (hb : BO X g b fb) : FO X g (.BinOp a op b pos) (E4 p fa fb) := FO.w (a4o ho ha.pe hb.pe) (b3l hr)
theorem D4 {op : CmpOp} (ho : OpR X (compareOp op) r) (hr : R2D X.K r p) (ha : BO X g a fa) (hb : BO X g b fb) (hm : behindInMarks op b = false) : EO X g (.Compare a [op] [b] pos) (dOp p fa fb) := EO.w (b3S ho ha.pe hb.pe hm) (a0w hr)
theorem d0 {r : R2} (ho : IxR X r) (hr : R2D X.K r p) (ha : BO X g a fa) (hb : BO X g b fb) (hs : a50 b) : EO X g (.Subscript a b pos) (dOp p fa fb) := EO.w (a7H ho ha.pe hb.pe hs) (a0w hr)
theorem A2 {op : UnaryOp} {r : V → Hp → VK → Prop} {p : D → Option D} (ho : UnR X (unaryOp op) r) (hr : R1D X.K r p) (ha : BO X g a fa) : EO X g (.UnaryOp op a pos) (dUn p fa) := EO.w (a78 ho ha.pe) fun σ H Q hQ => by
 refine hQ.elim fun f0 O s d s' I e k => ?_
 refine p8 e fun x s1 h1 h => ?_
 refine J8 h fun d' h3 h => ?_
 simp only [Prod.mk.injEq] at h
 obtain ⟨e1,e2⟩ := h
 subst e1; subst e2
 exact ⟨f0,O,s,x,s1,I,h1,fun v H1 f1 O1 a1 I1 r1 => hr g σ H1 f1 O1 s1 v x d' Q I1 r1 h3 fun z H3 a3 I3 r3 => k z H3 f1 O1 (a1.trans a3) I3 r3⟩
def dB (f : DE) : DT := fun s => (f s).bind fun x => match x.1 with | .bl b => some (b,x.2) | _ => none
theorem a0Q {f : DE} {s s' : DS} {b : Bool} (h : dB f s = some (b,s')) : f s = some (.bl b,s'):= by
 refine p8 h fun x s1 h1 h => ?_
 cases x with
 | bl c => simp only [Option.some.injEq,Prod.mk.injEq] at h; rw [h1,h.1,h.2]
 | _ => cases h
theorem v4 {op : CmpOp} (ho : OpR X (compareOp op) r) (hr : R2D X.K r p) (ha : BO X g a fa) (hb : BO X g b fb) (hm : behindInMarks op b = false) : TO X g (.Compare a [op] [b] pos) (dB (dOp p fa fb)):=
 TO.w (a9v ho ha.pe hb.pe hm) fun σ H Q ⟨f0,O,s,d,s',I,e,k⟩ => a0w hr σ H _ ⟨f0,O,s,.bl d,s',I,a0Q e,fun v H' f1 O1 a I1 r => by
  simp only [Rep] at r
  exact ⟨d,r,k H' f1 O1 a I1⟩⟩
def D9 : D → Option Bool
 | .non => some false
 | .bl b => some b
 | .int i => some (i != 0)
 | .str x => some ((x.length : Int) != 0)
 | .tup ds => some (!ds.isEmpty)
 | .lst ds => some (!ds.isEmpty)
 | _ => none
def dTr (f : DE) : DT := fun s => (f s).bind fun x => (D9 x.1).map fun b => (b,x.2)
theorem a5G {α β : Type} {xs : List α} {ys : List β} (h : xs.length = ys.length) : xs.isEmpty = ys.isEmpty := by cases xs <;> cases ys <;> simp_all
theorem F9 {e : Expr} {f : DE} (h : BO X g e f) (he : ∀ whole,isTrue e X.env whole = (do let v ← whole; standAt e.pos; holding [v] (truthy v)) := by intro _; rfl) : TO X g e (dTr f):=
 TO.w (b1T h.pe he) fun σ H Q hQ => by
  refine hQ.elim fun f0 O s d s' I e k => ?_
  obtain ⟨⟨x,s1⟩,h1,h.pe⟩ := Option.bind_eq_some_iff.mp e
  obtain ⟨d',h3,h.pe⟩ := Option.map_eq_some_iff.mp h.pe
  simp only [Prod.mk.injEq] at h.pe
  obtain ⟨e1,e2⟩ := h.pe
  subst e1; subst e2
  refine ⟨f0,O,s,x,s1,I,h1,fun v H' f1 O1 a I1 r => ⟨d',?_,k H' f1 O1 a I1⟩⟩
  cases x with
  | non => simp only [RepB,Rep] at r; subst r; cases h3; rfl
  | bl b => simp only [RepB,Rep] at r; subst r; cases h3; rfl
  | int i => simp only [RepB,Rep] at r; subst r; cases h3; rfl
  | str x => simp only [RepB,Rep] at r; obtain ⟨r,l⟩ := r; subst r; cases h3; exact ⟨l,rfl⟩
  | tup ds=>
   simp only [RepB,Rep] at r
   obtain ⟨c,xs,r,q,w⟩ := r
   subst r; cases h3
   exact .inr (.inl ⟨xs,q,by rw [a5G w.length]⟩)
  | lst ds=>
   obtain ⟨c,xs,r,_,q,w⟩ := r
   subst r; cases h3
   exact .inl ⟨xs,SqL.of q,by rw [a5G w.length]⟩
  | feed => cases h3
  | scr _ => cases h3
def v8 (a b : DT) : DT := fun s => (a s).bind fun x => if x.1 = true then b x.2 else some (false,x.2)
def dOr (a b : DT) : DT := fun s => (a s).bind fun x => if x.1 = true then some (true,x.2) else b x.2
def y0 (a : DT) : DT := fun s => (a s).map fun x => (!x.1,x.2)
def o6 (a b : DE) : DE := fun s => (dB a s).bind fun x => if x.1 = true then b x.2 else some (.bl false,x.2)
def A3 (a b : DE) : DE := fun s => (dB a s).bind fun x => if x.1 = true then some (.bl true,x.2) else b x.2
def y8 (a : DE) : DE := fun s => (dB a s).map fun x => (.bl (!x.1),x.2)
variable {ta tb : DT} {rest : List Expr}
theorem a1j (h : TO X g a ta) : WO X g (.BoolOp .And [a] pos) ta := ⟨a8f h.pe⟩
theorem a3o (h : TO X g a ta) : WO X g (.BoolOp .Or [a] pos) ta := ⟨a9e h.pe⟩
theorem Y6 (ha : TO X g a ta) (hb : WO X g (.BoolOp .And (b :: rest) pos) tb) : WO X g (.BoolOp .And (a :: b :: rest) pos) (v8 ta tb) := WO.w (b4b ha.pe hb.pe) fun σ H Q hQ => by
 refine hQ.elim fun f0 O s d s' I e k => ?_
 refine p8 e fun x s1 h1 h => ?_
 refine ⟨f0,O,s,x,s1,I,h1,fun H1 f1 O1 a1 I1 => ?_⟩
 cases x with
 | true => rw [if_pos rfl] at h ⊢; exact ⟨f1,O1,s1,d,s',I1,h,fun H2 f2 O2 a2 I2 => k H2 f2 O2 (a1.trans a2) I2⟩
 | false=>
  rw [if_neg Bool.false_ne_true] at h ⊢
  simp only [Option.some.injEq,Prod.mk.injEq] at h
  obtain ⟨e1,e2⟩ := h
  subst e1; subst e2
  exact k H1 f1 O1 a1 I1
theorem a2b (ha : TO X g a ta) (hb : WO X g (.BoolOp .Or (b :: rest) pos) tb) : WO X g (.BoolOp .Or (a :: b :: rest) pos) (dOr ta tb) := WO.w (b1z ha.pe hb.pe) fun σ H Q hQ => by
 refine hQ.elim fun f0 O s d s' I e k => ?_
 refine p8 e fun x s1 h1 h => ?_
 refine ⟨f0,O,s,x,s1,I,h1,fun H1 f1 O1 a1 I1 => ?_⟩
 cases x with
 | false => rw [if_neg Bool.false_ne_true] at h ⊢; exact ⟨f1,O1,s1,d,s',I1,h,fun H2 f2 O2 a2 I2 => k H2 f2 O2 (a1.trans a2) I2⟩
 | true=>
  rw [if_pos rfl] at h ⊢
  simp only [Option.some.injEq,Prod.mk.injEq] at h
  obtain ⟨e1,e2⟩ := h
  subst e1; subst e2
  exact k H1 f1 O1 a1 I1
theorem WO.t {e : Expr} {f : DT} (h : WO X g e f) : TO X g e f := ⟨h.pe.pt⟩
theorem a0M (ha : TO X g a ta) : TO X g (.UnaryOp .Not a pos) (y0 ta) := TO.w (b3v ha.pe) fun σ H Q hQ => by
 refine hQ.elim fun f0 O s d s' I e k => ?_
 refine mapP e fun x s1 h1 h => ?_
 simp only [Prod.mk.injEq] at h
 obtain ⟨e1,e2⟩ := h
 subst e1; subst e2
 exact ⟨f0,O,s,x,s1,I,h1,fun H1 f1 O1 a1 I1 => k H1 f1 O1 a1 I1⟩
theorem J2 {op} {f : DE} (h : EO X g a f) : EO X g (.BoolOp op [a] pos) f := ⟨a9s h.pe⟩
theorem G7 (ha : EO X g a fa) (hb : EO X g (.BoolOp .And (b :: rest) pos) fb) : EO X g (.BoolOp .And (a :: b :: rest) pos) (o6 fa fb) := EO.w (b1h ha.pe hb.pe) fun σ H Q hQ => by
 refine hQ.elim fun f0 O s d s' I e k => ?_
 refine p8 e fun x s1 h1 h => ?_
 refine ⟨f0,O,s,_,s1,I,a0Q h1,fun v H1 f1 O1 a1 I1 r => ⟨x,by simpa only [Rep] using r,?_⟩⟩
 cases x with
 | true => rw [if_pos rfl] at h ⊢; exact ⟨f1,O1,s1,d,s',I1,h,fun v H2 f2 O2 a2 I2 => k v H2 f2 O2 (a1.trans a2) I2⟩
 | false=>
  rw [if_neg Bool.false_ne_true] at h ⊢
  simp only [Option.some.injEq,Prod.mk.injEq] at h
  obtain ⟨e1,e2⟩ := h
  subst e1; subst e2
  exact k _ H1 f1 O1 a1 I1 (by simp only [Rep])
theorem a5l (ha : EO X g a fa) (hb : EO X g (.BoolOp .Or (b :: rest) pos) fb) : EO X g (.BoolOp .Or (a :: b :: rest) pos) (A3 fa fb) := EO.w (b2q ha.pe hb.pe) fun σ H Q hQ => by
 refine hQ.elim fun f0 O s d s' I e k => ?_
 refine p8 e fun x s1 h1 h => ?_
 refine ⟨f0,O,s,_,s1,I,a0Q h1,fun v H1 f1 O1 a1 I1 r => ⟨x,by simpa only [Rep] using r,?_⟩⟩
 cases x with
 | false => rw [if_neg Bool.false_ne_true] at h ⊢; exact ⟨f1,O1,s1,d,s',I1,h,fun v H2 f2 O2 a2 I2 => k v H2 f2 O2 (a1.trans a2) I2⟩
 | true=>
  rw [if_pos rfl] at h ⊢
  simp only [Option.some.injEq,Prod.mk.injEq] at h
  obtain ⟨e1,e2⟩ := h
  subst e1; subst e2
  exact k _ H1 f1 O1 a1 I1 (by simp only [Rep])
theorem a2U (ha : EO X g a fa) : EO X g (.UnaryOp .Not a pos) (y8 fa) := EO.w (b0g ha.pe) fun σ H Q hQ => by
 refine hQ.elim fun f0 O s d s' I e k => ?_
 refine mapP e fun x s1 h1 h => ?_
 simp only [Prod.mk.injEq] at h
 obtain ⟨e1,e2⟩ := h
 subst e1; subst e2
 exact ⟨f0,O,s,_,s1,I,a0Q h1,fun v H1 f1 O1 a1 I1 r => ⟨x,by simpa only [Rep] using r,k _ H1 f1 O1 a1 I1 (by simp only [Rep])⟩⟩
def dIf (c : DT) (a b : DE) : DE := fun s => (c s).bind fun x => if x.1 = true then a x.2 else b x.2
theorem L8 {c : Expr} {fc : DT} (hc : TO X g c fc) (ha : EO X g a fa) (hb : EO X g b fb) : EO X g (.IfExp c a b pos) (dIf fc fa fb) := EO.w (b2X hc.pe ha.pe hb.pe) fun σ H Q hQ => by
 refine hQ.elim fun f0 O s d s' I e k => ?_
 refine p8 e fun x s1 h1 h => ?_
 refine ⟨f0,O,s,x,s1,I,h1,fun H1 f1 O1 a1 I1 => ?_⟩
 cases x with
 | false => rw [if_neg Bool.false_ne_true] at h ⊢; exact ⟨f1,O1,s1,d,s',I1,h,fun v H2 f2 O2 a2 I2 => k v H2 f2 O2 (a1.trans a2) I2⟩
 | true => rw [if_pos rfl] at h ⊢; exact ⟨f1,O1,s1,d,s',I1,h,fun v H2 f2 O2 a2 I2 => k v H2 f2 O2 (a1.trans a2) I2⟩
def a6 : DA := fun s => some ([],s)
def a0 (a : DE) (r : DA) : DA := fun s => (a s).bind fun x => (r x.2).map fun y => (x.1 :: y.1,y.2)
theorem S4 {a : DE} {r : DA} {s s' : DS} {ds : List D} (h : a0 a r s = some (ds,s')) : ∃ d s1 es,a s = some (d,s1) ∧ r s1 = some (es,s') ∧ ds = d :: es:= by
 refine p8 h fun x s1 h1 h => ?_
 refine mapP h fun y s2 h2 h => ?_
 simp only [Prod.mk.injEq] at h
 exact ⟨x,s1,y,h1,by rw [h2,h.2],h.1.symm⟩
variable {es : List Expr} {fr : DA}
theorem b6 : AO X g [] a6 := AO.w a09 fun σ H Q hQ => by
 refine hQ.elim fun f0 O s d s' I e k => ?_
 simp only [a6,Option.some.injEq,Prod.mk.injEq] at e
 obtain ⟨e1,e2⟩ := e
 subst e1; subst e2
 exact k [] H f0 O StE.refl I (by simp only [Reps])
theorem Y5 (ha : EO X g a fa) (hr : AO X g es fr) (hs : starEach (a :: es) X.env = (false,eval a X.env) :: starEach es X.env := by rfl) : AO X g (a :: es) (a0 fa fr) := AO.w (W3 ha.pe hr.pe hs) fun σ H Q hQ => by
 refine hQ.elim fun f0 O s ds s' I e k => ?_
 obtain ⟨d,s1,es,h1,h2,h3⟩ := S4 e
 subst h3
 refine ⟨f0,O,s,d,s1,I,h1,fun v H1 f1 O1 a1 I1 r1 => ⟨f1,O1,s1,es,s',I1,h2,fun vs H2 f2 O2 a2 I2 r2 => ?_⟩⟩
 refine k (v :: vs) H2 f2 O2 (a1.trans a2) I2 ?_
 simp only [Reps]
 exact ⟨v,vs,rfl,Rep.stp I1 a2.stp r1,r2⟩
theorem u8 : BAO X g [] a6 := BAO.w a09 fun σ H Q hQ => by
 refine hQ.elim fun f0 O s d s' I e k => ?_
 simp only [a6,Option.some.injEq,Prod.mk.injEq] at e
 obtain ⟨e1,e2⟩ := e
 subst e1; subst e2
 exact k [] H f0 O StE.refl I (by simp only [P2])
theorem b1U (ha : BO X g a fa) (hr : BAO X g es fr) (hs : starEach (a :: es) X.env = (false,eval a X.env) :: starEach es X.env := by rfl) : BAO X g (a :: es) (a0 fa fr) := BAO.w (W3 ha.pe hr.pe hs) fun σ H Q hQ => by
 refine hQ.elim fun f0 O s ds s' I e k => ?_
 obtain ⟨d,s1,es,h1,h2,h3⟩ := S4 e
 subst h3
 refine ⟨f0,O,s,d,s1,I,h1,fun v H1 f1 O1 a1 I1 r1 => ⟨f1,O1,s1,es,s',I1,h2,fun vs H2 f2 O2 a2 I2 r2 => ?_⟩⟩
 exact k (v :: vs) H2 f2 O2 (a1.trans a2) I2 ⟨v,vs,rfl,RepB.stp I1 a2 r1,r2⟩
def i3 (f : DA) : DE := fun s => (f s).bind fun x => if x.1.length ≤ sizeLine then some (.tup x.1,x.2) else none
def m9 (f : DA) : DA := fun s => (f s).bind fun x => if x.1.length ≤ sizeLine then some (x.1,x.2) else none
theorem j3 {x1} (h : AO X g es fr) : EO X g (.Tuple es x1 pos) (i3 fr) := EO.w (b3x h.pe) fun σ H Q hQ => by
 refine hQ.elim fun f0 O s d s' I e k => ?_
 obtain ⟨⟨ds,s1⟩,h1,h.pe⟩ := Option.bind_eq_some_iff.mp e
 by_cases hl : ds.length ≤ sizeLine
 ·rw [if_pos hl] at h.pe
  simp only [Option.some.injEq,Prod.mk.injEq] at h.pe
  obtain ⟨e1,e2⟩ := h.pe
  subst e1; subst e2
  refine ⟨f0,O,s,ds,s1,I,h1,fun vs H1 f1 O1 a1 I1 r1 => ⟨by rw [r1.length]; exact hl,fun p hp => ?_⟩⟩
  have a2 : StE f1 O1 H1 f1 O1 (upd H1 p (.tup vs)) := C2 hp
  refine k _ _ f1 O1 (a1.trans a2) (I1.new hp) ?_
  simp only [Rep]
  exact ⟨p,vs,rfl,SqT.of A9,Reps.stp I1 a2.stp r1⟩
 ·rw [if_neg hl] at h.pe; cases h.pe
theorem w9 (h : AO X g es fr) : FO X g (.List es pos) (m9 fr) := FO.w (a7F h.pe) fun σ H Q hQ => by
 refine hQ.elim fun f0 O s d s' I e k => ?_
 obtain ⟨⟨ds,s1⟩,h1,h.pe⟩ := Option.bind_eq_some_iff.mp e
 by_cases hl : ds.length ≤ sizeLine
 ·rw [if_pos hl] at h.pe
  simp only [Option.some.injEq,Prod.mk.injEq] at h.pe
  obtain ⟨e1,e2⟩ := h.pe
  subst e1; subst e2
  refine ⟨f0,O,s,ds,s1,I,h1,fun vs H1 f1 O1 a1 I1 r1 => ⟨by rw [r1.length]; exact hl,fun p hp => ?_⟩⟩
  have a2 : StE f1 O1 H1 f1 O1 (upd H1 p (.lst vs)) := C2 hp
  exact k p vs _ f1 O1 (a1.trans a2) (O8 I1 hp r1) (a1.mon _ hp)
 ·rw [if_neg hl] at h.pe; cases h.pe
end
section
variable {K : PySem.W.Frag} {g : Gh} {σ : L2.St} {H H' : Hp} {fa fa' : Option Addr} {O O' : List Addr} {s s' : DS}
theorem NN.mono {F : Addr → Prop} {P : List Addr} (h : ∀ b ∈ P,b ∈ O) {b : Addr} (z : NN F fa P b) : NN F fa O b:= by
 rcases z with z | z | z
 ·exact .inl z
 ·exact .inr (.inl (h b z))
 ·exact .inr (.inr z)
theorem a61 {F : Addr → Prop} {N : Addr → Prop} (h : ∀ b,NN F fa O b → N b) : Car K N fa H (NN F fa O) fa H := ⟨fun b xs n q => ⟨q,fun z => n (h b z)⟩,fun _ _ q => q,fun _ _ q => q,fun _ q => q⟩
theorem DI.put (I : GI K g σ H fa O s) (i : Nat) {d : D} {v : V} (r : Rep K (NN g.F fa O) fa H d v) : ∃ P,(∀ b ∈ P,b ∈ O) ∧ GI K g (σ.set i (some v)) H fa P { s with sl := s.sl.set i (.val d) }:= by
 obtain ⟨P,hs,S,_⟩ := SlR.put i I.sl r
 have sub : ∀ b ∈ P,b ∈ O := fun b hb => hs.subset hb
 have c : Car K (NN g.F fa O) fa H (NN g.F fa P) fa H := a61 fun b => NN.mono sub
 exact ⟨P,sub,hs.nodup I.nd,SlR.go c (fun _ _ _ z => z) S,fun b hb => I.fr b (sub b hb),I.st,I.tr,I.ff,I.fd.car c fun _ _ => rfl,fun b z y => I.nf b z (sub b y)⟩
theorem a01 {P : List Addr} (h : ∀ b ∈ P,b ∈ O) : StE fa O H fa P H := ⟨h,.inl rfl,fun _ _ e _ => e,fun _ e => e⟩
theorem NewL.put {p : Addr} {xs : List V} {ds : List D} (L : NewL K g σ H fa O s p xs ds) (i : Nat) (hi : i < s.sl.length) (h0 : g.H0 p = none) (hp : p ∉ O) : ∃ P,(∀ b ∈ P,b = p ∨ b ∈ O) ∧ GI K g (σ.set i (some (.ref p))) H fa P { s with sl := s.sl.set i (.own ds) }:= by
 obtain ⟨P,h1,h2,S⟩ := SlR.putN i L.sl hi hp L.gi.nd L.ls L.rs
 have c : Car K (fun b => NN g.F fa O b ∨ b = p) fa H (NN g.F fa P) fa H := a61 fun b z => by
  rcases z with z | z | z
  ·exact .inl (.inl z)
  ·rcases h1 b z with y | y
   ·exact .inr y
   ·exact .inl (.inr (.inl y))
  ·exact .inl (.inr (.inr z))
 refine ⟨P,h1,h2,SlR.go c (fun _ _ _ z => z) S,fun b hb => ?_,L.gi.st,L.gi.tr,L.gi.ff,L.fd.car c fun _ _ => rfl,fun b z hb => ?_⟩
 ·rcases h1 b hb with y | y
  ·rw [y]; exact h0
  ·exact L.gi.fr b y
 ·rcases h1 b hb with y | y
  ·rw [y] at z; exact L.nf z
  ·exact L.gi.nf b z y
theorem DI.rew (I : GI K g σ H fa O s) {i : Nat} {ds es : List D} {a : Addr} {xs ys : List V} (e1 : s.sl[i]? = some (.own ds)) (e2 : σ[i]? = some (some (.ref a))) (m : a ∈ O) (e3 : H a = some (.lst xs)) (r : Reps K (NN g.F fa O) fa H es ys) :
  GI K g σ (upd H a (.lst ys)) fa O { s with sl := s.sl.set i (.own es) } ∧ Stp fa O H fa O (upd H a (.lst ys)):= by
 have a1 : Stp fa O H fa O (upd H a (.lst ys)) := ⟨fun b hb => .inl hb,.inl rfl,fun b u e n _ => by
  rw [o9 (show b ≠ a from fun z => n (by rw [z]; exact m))]; exact e,fun b z => by
  by_cases hb : b = a
  ·subst hb; rw [A9] at z; cases z
  ·rw [o9 hb] at z; exact z⟩
 have c := I.car a1
 have k : ∀ b u,b ≠ a → H b = some u → upd H a (.lst ys) b = some u := fun b u n e => by rw [o9 n]; exact e
 refine ⟨⟨I.nd,SlR.rew I.sl I.nd (fun b hb => .inr (.inl hb)) e1 e2 A9 c k (Reps.go c es ys r),I.fr,?_,I.tr,I.ff,I.fd.car c fun b hb => ?_,I.nf⟩,a1⟩
 ·refine ⟨fun b hb => (by cases hb),I.st.fe,fun b u e n f => ?_,fun b z => I.st.mon b (a1.mon b z)⟩
  refine k b u (fun z => ?_) (I.st.same b u e n f)
  rw [z,I.fr a m] at e; cases e
 ·refine o9 fun z => ?_
  subst z
  exact I.nf _ hb m
end
theorem FlK.shift {K : PySem.W.Frag} {g : Gh} {E : Ends} {fa fa' : Option Addr} {O O' : List Addr} {H H' : Hp} {fl : Fl} {s : DS} (a : Stp fa O H fa' O' H') (h : FlK K g E fa O H fl s) : FlK K g E fa' O' H' fl s:= by
 cases fl with
 | next => exact fun σ' H2 f2 O2 a2 I2 => h σ' H2 f2 O2 (a.trans a2) I2
 | brk => exact fun σ' H2 f2 O2 a2 I2 => h σ' H2 f2 O2 (a.trans a2) I2
 | cont => exact fun σ' H2 f2 O2 a2 I2 => h σ' H2 f2 O2 (a.trans a2) I2
 | ret d => exact fun σ' v H2 f2 O2 a2 I2 => h σ' v H2 f2 O2 (a.trans a2) I2
def m7 : DM := fun s => some (.next,s)
def C5 (b : DM) (x : Fl × DS) : Option (Fl × DS) := match x.1 with
 | .next => b x.2
 | .brk => some (.brk,x.2)
 | .cont => some (.cont,x.2)
 | .ret d => some (.ret d,x.2)
def e7 (a b : DM) : DM := fun s => (a s).bind (C5 b)
section
variable {X : Cx} {g : Gh} {st : Stmt} {rest : List Stmt} {e : Expr} {pos : Pos} {a b : DM} {f : DE}
theorem B0 : SSO X g [] m7 := SSO.w b2S fun E σ H hQ => by
 refine hQ.elim fun fa O s fl s' I e k => ?_
 cases e
 exact k σ H fa O Stp.refl I
theorem j9 (h : SO X g st a) : SSO X g [st] a := ⟨b4p h.pe⟩
theorem i8 (h : SO X g st a) (hr : SSO X g rest b) : SSO X g (st :: rest) (e7 a b) := SSO.w (b0s h.pe hr.pe) fun E σ H hQ => by
 refine hQ.elim fun fa O s fl s' I e k => ?_
 refine p8 e fun f1 s1 h1 h2 => ?_
 refine ⟨fa,O,s,f1,s1,I,h1,?_⟩
 cases f1 with
 | next => exact fun σ' H' f1 O1 a1 I1 => ⟨f1,O1,s1,fl,s',I1,h2,k.shift a1⟩
 | brk => cases h2; exact k
 | cont => cases h2; exact k
 | ret d => cases h2; exact k
def j7 (f : DE) : DM := fun s => (f s).map fun x => (.ret x.1,x.2)
theorem l4 (he : EO X g e f) : SO X g (.Return (some e) pos) (j7 f) := SO.w (a8g he.pe) fun E σ H hQ => by
 refine hQ.elim fun fa O s fl s' I q k => ?_
 refine mapP q fun d s1 h1 h2 => ?_
 cases h2
 exact ⟨fa,O,s,d,s1,I,h1,fun v H' f1 O1 a1 I1 r => k σ v H' f1 O1 a1.stp I1 r⟩
def l7 (c : DT) (a b : DM) : DM := fun s => (c s).bind fun x => if x.1 = true then a x.2 else b x.2
theorem A8 {c : Expr} {fc : DT} {la lb : List Stmt} (hc : TO X g c fc) (ha : SSO X g la a) (hb : SSO X g lb b) : SO X g (.If c la lb pos) (l7 fc a b) := SO.w (b1W hc.pe ha.pe hb.pe) fun E σ H hQ => by
 refine hQ.elim fun fa O s fl s' I e k => ?_
 refine p8 e fun x s1 h1 h => ?_
 refine ⟨fa,O,s,x,s1,I,h1,fun H1 f1 O1 a1 I1 => ?_⟩
 cases x with
 | false => rw [if_neg Bool.false_ne_true] at h ⊢; exact ⟨f1,O1,s1,fl,s',I1,h,k.shift a1.stp⟩
 | true => rw [if_pos rfl] at h ⊢; exact ⟨f1,O1,s1,fl,s',I1,h,k.shift a1.stp⟩
def liftG (K : PySem.W.Frag) (g : Gh) (t : D → DS → Option DS) : TG := fun v σ H Q => ∃ fa O s d s',GI K g σ H fa O s ∧ Rep K (NN g.F fa O) fa H d v ∧ t d s = some s' ∧ ∀ σ' H' fa' O',Stp fa O H fa' O' H' → GI K g σ' H' fa' O' s' → Q σ' H'
def liftGs (K : PySem.W.Frag) (g : Gh) (t : List D → DS → Option DS) : TGs := fun vs σ H Q => ∃ fa O s ds s',GI K g σ H fa O s ∧ Reps K (NN g.F fa O) fa H ds vs ∧ t ds s = some s' ∧ ∀ σ' H' fa' O',Stp fa O H fa' O' H' → GI K g σ' H' fa' O' s' → Q σ' H'
section
variable {K : PySem.W.Frag} {g : Gh} {σ : L2.St} {Q : L2.St → Hp → Prop} {H : Hp} {G : Prop}
theorem liftG.elim {t : D → DS → Option DS} {v : V} (h : liftG K g t v σ H Q) (k : ∀ fa O s d s',GI K g σ H fa O s → Rep K (NN g.F fa O) fa H d v → t d s = some s' → (∀ σ' H' fa' O',Stp fa O H fa' O' H' → GI K g σ' H' fa' O' s' → Q σ' H') → G) : G:= by
 obtain ⟨fa,O,s,d,s',a,r,b,c⟩ := h
 exact k fa O s d s' a r b c
theorem liftGs.elim {t : List D → DS → Option DS} {v : List V} (h : liftGs K g t v σ H Q) (k : ∀ fa O s d s',GI K g σ H fa O s → Reps K (NN g.F fa O) fa H d v → t d s = some s' → (∀ σ' H' fa' O',Stp fa O H fa' O' H' → GI K g σ' H' fa' O' s' → Q σ' H') → G) : G:= by
 obtain ⟨fa,O,s,d,s',a,r,b,c⟩ := h
 exact k fa O s d s' a r b c
end
structure GO (X : Cx) (g : Gh) (e : Expr) (t : D → DS → Option DS) : Prop where
 pe : PG X e (liftG X.K g t)
structure GsO (X : Cx) (g : Gh) (es : List Expr) (t : List D → DS → Option DS) : Prop where
 pe : PGs X es (liftGs X.K g t)
def i4 (i : Nat) (d : D) : DS → Option DS := fun s => some { s with sl := s.sl.set i (.val d) }
theorem PGw {t t' : TG} (h : PG X e t) (w : ∀ v σ H Q,t' v σ H Q → t v σ H Q) : PG X e t' := fun pins s σ H v u Q I r q => h pins s σ H v u Q I r (w v σ H Q q)
theorem b3a {es : List Expr} {t t' : TGs} (h : PGs X es t) (w : ∀ v σ H Q,t' v σ H Q → t v σ H Q) : PGs X es t' := fun pins s σ H v u Q I r q => h pins s σ H v u Q I r (w v σ H Q q)
theorem GO.w {f : D → DS → Option DS} {t : TG} (h : PG X e t) (w : ∀ v σ H Q,liftG X.K g f v σ H Q → t v σ H Q) : GO X g e f := ⟨PGw h w⟩
theorem GsO.w {es : List Expr} {f : List D → DS → Option DS} {t : TGs} (h : PGs X es t) (w : ∀ v σ H Q,liftGs X.K g f v σ H Q → t v σ H Q) : GsO X g es f := ⟨b3a h w⟩
theorem u4 {i : Nat} {x : Str} (h : PG X (.Name x pos) (K7 i)) : GO X g (.Name x pos) (i4 i) := GO.w h fun v σ H Q hQ => by
 refine hQ.elim fun fa O s d s' I r e k => ?_
 cases e
 obtain ⟨P,sub,I'⟩ := I.put i r
 exact k _ H fa P (a01 sub).stp I'
def u5 : List D → DS → Option DS
 | [],s => some s
 | _ :: _,_ => none
def m5 (t : D → DS → Option DS) (u : List D → DS → Option DS) : List D → DS → Option DS
 | [],_ => none
 | d :: r,s => (t d s).bind (u r)
theorem F0 : GsO X g [] u5 := GsO.w a60 fun v σ H Q hQ => by
 refine hQ.elim fun fa O s ds s' I r e k => ?_
 cases ds with
 | nil => cases e; simp only [Reps] at r; exact ⟨r,k σ H fa O Stp.refl I⟩
 | cons d r' => cases e
theorem v5 {es : List Expr} {t : D → DS → Option DS} {u : List D → DS → Option DS} (h : GO X g e t) (hr : GsO X g es u) (hs : (assignEach (e :: es) X.env).map (·.2) = assign e X.env :: (assignEach es X.env).map (·.2) := by rfl) : GsO X g (e :: es) (m5 t u):=
 GsO.w (a3e h.pe hr.pe hs) fun v σ H Q hQ => by
  refine hQ.elim fun fa O s ds s' I r e k => ?_
  cases ds with
  | nil => cases e
  | cons d r'=>
   refine L6 e fun s1 h1 h2 => ?_
   simp only [Reps] at r
   obtain ⟨x,ys,rfl,rx,ry⟩ := r
   exact ⟨x,ys,rfl,fa,O,s,d,s1,I,rx,h1,fun σ1 H1 f1 O1 a1 I1 => ⟨f1,O1,s1,r',s',I1,Reps.stp I a1 ry,h2,fun σ2 H2 f2 O2 a2 I2 => k σ2 H2 f2 O2 (a1.trans a2) I2⟩⟩
def u3 (n : Nat) (u : List D → DS → Option DS) (d : D) (s : DS) : Option DS := match d with
 | .tup ds => if ds.length = n then u ds s else none
 | _ => none
theorem E9 {es : List Expr} {k : Nat} {n : Nat} {u : List D → DS → Option DS} (hc : X.calm = true) (h : GsO X g es u) (hn : (assignEach es X.env).length = n := by rfl) (hst : (assignEach es X.env).findIdx? (·.1) = none := by rfl) : GO X g (.Tuple es k pos) (u3 n u):=
 GO.w (a4M hc h.pe hn hst) fun v σ H Q hQ => by
  refine hQ.elim fun fa O s d s' I r e k => ?_
  cases d with
  | tup ds=>
   simp only [u3] at e
   by_cases hl : ds.length = n
   ·rw [if_pos hl] at e
    simp only [Rep] at r
    obtain ⟨a,xs,rfl,q,w⟩ := r
    exact ⟨a,xs,rfl,q,by rw [w.length]; exact hl,fa,O,s,ds,s',I,w,e,k⟩
   ·rw [if_neg hl] at e; cases e
  | _ => cases e
def j4 (f : DE) (t : D → DS → Option DS) : DM := fun s => (f s).bind fun x => (t x.1 x.2).map fun s' => (.next,s')
theorem a7w {f : DE} {t : D → DS → Option DS} (E : Ends) (σ : L2.St) (H : Hp) (h : liftS X.K g (j4 f t) E σ H) : Z9 (liftE X.K g f) (liftG X.K g t) E σ H:= by
 obtain ⟨fa,O,s,fl,s',I,q,k⟩ := h
 refine p8 q fun d s1 h1 h2 => ?_
 refine J8 h2 fun s2 h3 h4 => ?_
 cases h4
 exact ⟨fa,O,s,d,s1,I,h1,fun v H1 f1 O1 a1 I1 r => ⟨f1,O1,s1,d,_,I1,r,h3,fun σ2 H2 f2 O2 a2 I2 => k σ2 H2 f2 O2 (a1.stp.trans a2) I2⟩⟩
theorem K5 {tg : Expr} {t : D → DS → Option DS} (he : EO X g e f) (hg : GO X g tg t) (hs : swapsWithSole [tg] e pos.line X.env = pure false := by rfl) (hw : swappedStores [tg] e X.env = pure none := by rfl)
  (h1 : (assignEach [tg] X.env).map (·.2) = [assign tg X.env] := by rfl) : SO X g (.Assign [tg] e pos) (j4 f t) := SO.w (a5F he.pe hg.pe hs hw h1) a7w
theorem l8 {i : Nat} {x : Str} {pos' : Pos} (hN : X.N.Nodup) (hi : X.N[i]? = some x) (hx : Loc X.env.scope x) (he : EO X g e f) (hs : swapsWith e (some (.Name x pos')) pos.line X.env = pure false := by rfl) (hf : X.fn x = true ∨ X.env.scope.names.lookup x = some .local := by first | exact .inl rfl | exact .inr rfl | assumption) :
  SO X g (.Assign [.Name x pos'] e pos) (j4 f (i4 i)) := SO.w (a42 hN hi hx he.pe hs hf) fun E σ H h => by
 obtain ⟨fa,O,s,d,s1,I,h1,k⟩ := a7w E σ H h
 refine ⟨fa,O,s,d,s1,I,h1,fun v H1 f1 O1 a1 I1 r => ?_⟩
 obtain ⟨f2,O2,s2,d2,s3,I2,r2,e2,k2⟩ := k v H1 f1 O1 a1 I1 r
 cases e2
 obtain ⟨P,sub,I'⟩ := I2.put i r2
 exact k2 _ H1 f2 P (a01 sub).stp I'
def u9 (i : Nat) (f : DA) : DM := fun s => (f s).bind fun x => if i < x.2.sl.length then some (.next,{ x.2 with sl := x.2.sl.set i (.own x.1) }) else none
theorem D2 {i : Nat} {x : Str} {f : DA} {pos' : Pos} (hN : X.N.Nodup) (hi : X.N[i]? = some x) (hx : Loc X.env.scope x) (he : FO X g e f) (hs : swapsWith e (some (.Name x pos')) pos.line X.env = pure false := by rfl) (hf : X.fn x = true ∨ X.env.scope.names.lookup x = some .local := by first | exact .inl rfl | exact .inr rfl | assumption) :
  SO X g (.Assign [.Name x pos'] e pos) (u9 i f) := SO.w (a42 hN hi hx he.pe hs hf) fun E σ H hQ => by
 refine hQ.elim fun fa O s fl s' I q k => ?_
 refine p8 q fun ds s1 h1 h2 => ?_
 by_cases hl : i < s1.sl.length
 ·simp only [] at h2
  rw [if_pos hl] at h2
  cases h2
  refine ⟨fa,O,s,ds,s1,I,h1,fun p xs H1 f1 O1 a1 L hp => ?_⟩
  have np : p ∉ O1 := fun z => by
   obtain ⟨ys,e⟩ := I.owned (a1.sub p z)
   rw [hp] at e; cases e
  obtain ⟨P,sub,I'⟩ := L.put i hl (I.st.mon p hp) np
  refine k _ H1 f1 P ⟨fun b hb => ?_,a1.fe,fun b u e _ n => a1.same b u e n,a1.mon⟩ I'
  rcases sub b hb with y | y
  ·exact .inr (by rw [y]; exact hp)
  ·exact .inl (a1.sub b y)
 ·simp only [] at h2
  rw [if_neg hl] at h2; cases h2
def F2 (i : Nat) (f : DE) : DM := fun s => match s.sl[i]? with
 | some (.own _) => (f s).bind fun x => match x.2.sl[i]? with
  | some (.own ds) => if ds.length < sizeLine then some (.next,{ x.2 with sl := x.2.sl.set i (.own (ds ++ [x.1])) }) else none
  | _ => none
 | _ => none
theorem U3 {i : Nat} {x : Str} {p1 p2 p3 p4 : Pos} (hv : PE X (.Name x p1) (P6 i)) (he : EO X g e f) (hbase : attributeBase (.Name x p1) ("append" : Str) X.env (eval (.Name x p1) X.env) = eval (.Name x p1) X.env := by rfl)
  (hfew : ((backTo p3 (starEach [e] X.env)).all (fun x => !x.1) && (backToKw p3 (keywordEach [] X.env)).all (fun x => x.1.isSome)
   && decide ([e].length + ([] : List Keyword).length + (if ([] : List Keyword).isEmpty then 0 else 1) < 30)) = true := by rfl)
  (hline : (p2.endLine == p3.line) = true := by rfl) (hs : starEach [e] X.env = (false,eval e X.env) :: starEach [] X.env := by rfl) (hplain : (backTo p3 (starEach [] X.env)).any (·.1) = false := by rfl)
  (hsw : swapsWith (.Call (.Attribute (.Name x p1) ("append" : Str) p2) [e] [] p3) none p4.line X.env = pure false := by rfl) :
  SO X g (.Expr (.Call (.Attribute (.Name x p1) ("append" : Str) p2) [e] [] p3) p4) (F2 i f):=
 SO.w (a4n (b1o PySem.F.plainAttrs_list PySem.F.slot_list_append PySem.F.type_list_append a59 hv (W3 he.pe a09 hs) hbase hfew hline hs hplain) hsw) fun E σ H hQ => by
  refine hQ.elim fun fa O s fl s' I q k => ?_
  cases q0 : s.sl[i]? with
  | none => simp only [F2,q0] at q; cases q
  | some z=>
  cases z with
  | no => simp only [F2,q0] at q; cases q
  | val _ => simp only [F2,q0] at q; cases q
  | own ds0=>
  simp only [F2,q0] at q
  obtain ⟨a,xs0,e1,m,e2,_⟩ := SlR.own I.sl q0
  refine p8 q fun d s1 h1 h2 => ?_
  cases q2 : s1.sl[i]? with
  | none => simp only [q2] at h2; cases h2
  | some z=>
   cases z with
   | no => simp only [q2] at h2; cases h2
   | val _ => simp only [q2] at h2; cases h2
   | own ds=>
    simp only [q2] at h2
    by_cases hl : ds.length < sizeLine
    ·rw [if_pos hl] at h2
     cases h2
     refine ⟨_,e1,.inl ⟨rfl,xs0,SqL.of e2⟩,fa,O,s,d,s1,I,h1,fun v H1 f1 O1 a1 I1 r => ?_⟩
     obtain ⟨b,xs,e3,m1,e4,r1⟩ := SlR.own I1.sl q2
     rw [e1] at e3; cases e3
     obtain ⟨I2,a2⟩ := I1.rew q2 e1 m1 e4 (Reps.append r1 (Reps.one r))
     exact ⟨a,xs,v,rfl,rfl,e4,by rw [r1.length]; exact hl,k σ _ f1 O1 (a1.stp.trans a2) I2⟩
    ·rw [if_neg hl] at h2; cases h2
end
def A6 (t : D → DS → Option DS) (b : DM) : List D → DS → Option (Fl × DS)
 | [],s => some (.next,s)
 | d :: r,s => (t d s).bind fun s1 => (b s1).bind fun x => match x.1 with
  | .next => A6 t b r x.2
  | .cont => A6 t b r x.2
  | .brk => some (.next,x.2)
  | .ret v => some (.ret v,x.2)
def PvD (K : PySem.W.Frag) (g : Gh) (f1 : Option Addr) (O1 : List Addr) (H1 : Hp) (t : D → DS → Option DS) (b : DM) (ds : List D) (fl : Fl) (sf : DS) (i : Nat) : L2.St → Hp → Prop := fun σ' H'=>
 ∃ fa' O' s',Stp f1 O1 H1 fa' O' H' ∧ GI K g σ' H' fa' O' s' ∧ A6 t b (ds.drop i) s' = some (fl,sf)
section
variable {K : PySem.W.Frag} {g : Gh} {f1 : Option Addr} {O1 : List Addr} {H1 H' : Hp} {t : D → DS → Option DS} {b : DM} {ds : List D} {fl : Fl} {sf : DS} {i : Nat} {E : Ends} {σ' : L2.St}
theorem a4U {α : Type} {l : List α} {i : Nat} {d : α} (h : l[i]? = some d) : l.drop i = d :: l.drop (i + 1):= by
 obtain ⟨hi,e⟩ := List.getElem?_eq_some_iff.mp h
 rw [List.drop_eq_getElem_cons hi,e]
theorem a0c (hk : FlK K g E f1 O1 H1 fl sf) {d : D} {x : V} (hd : ds[i]? = some d) (hr : ∀ fa' O',Stp f1 O1 H1 fa' O' H' → Rep K (NN g.F fa' O') fa' H' d x) (h : PvD K g f1 O1 H1 t b ds fl sf i σ' H') :
  liftG K g t x σ' H' fun σ2 H2 => liftS K g b { E with nx := PvD K g f1 O1 H1 t b ds fl sf (i + 1),ct := PvD K g f1 O1 H1 t b ds fl sf (i + 1),bk := E.nx } σ2 H2:= by
 obtain ⟨fa',O',s',st,I,e⟩ := h
 rw [a4U hd,A6] at e
 refine L6 e fun s1 h1 h2 => ?_
 refine p8 h2 fun fb s2 h3 h4 => ?_
 refine ⟨fa',O',s',d,s1,I,hr fa' O' st,h1,fun σ2 H2 f2 O2 a2 I2 => ⟨f2,O2,s1,fb,s2,I2,h3,?_⟩⟩
 cases fb with
 | next => exact fun σ3 H3 f3 O3 a3 I3 => ⟨f3,O3,s2,st.trans (a2.trans a3),I3,h4⟩
 | cont => exact fun σ3 H3 f3 O3 a3 I3 => ⟨f3,O3,s2,st.trans (a2.trans a3),I3,h4⟩
 | brk => cases h4; exact fun σ3 H3 f3 O3 a3 I3 => hk σ3 H3 f3 O3 (st.trans (a2.trans a3)) I3
 | ret v => cases h4; exact fun σ3 v H3 f3 O3 a3 I3 r => hk σ3 v H3 f3 O3 (st.trans (a2.trans a3)) I3 r
theorem Z4 (hk : FlK K g E f1 O1 H1 fl sf) {n : Nat} (hn : ds.length ≤ n) (h : PvD K g f1 O1 H1 t b ds fl sf n σ' H') : E.nx σ' H':= by
 obtain ⟨fa',O',s',st,I,e⟩ := h
 rw [List.drop_eq_nil_of_le hn,A6] at e
 cases e
 exact hk σ' H' fa' O' st I
end
def P8 (f : DE) (t : D → DS → Option DS) (b : DM) : DM := fun s => (f s).bind fun x => match x.1 with
 | .lst ds => A6 t b ds x.2
 | .tup ds => A6 t b ds x.2
 | _ => none
section
variable {X : Cx} {g : Gh} {tg iter : Expr} {body : List Stmt} {f : DE} {t : D → DS → Option DS} {b : DM} {pos : Pos}
def b1A (K : PySem.W.Frag) (tl : TE) : TI := fun σ H R => tl σ H fun x H1 => ∃ a,x = .ref a ∧ (((∃ xs,SqL K H1 a xs) ∧ R (Itl K a) H1) ∨ ((∃ xs,SqT K H1 a xs) ∧ R (Itt K a) H1))
theorem a7f {l : Expr} {tl : TE} (hl : PE X l tl) : PI X tg l (b1A X.K tl):= by
 intro pins s σ H R I h
 refine thn (hl pins s σ H _ I h) fun v s1 ⟨x,H1,I1,r1,q1⟩ => ?_
 obtain ⟨a,e,q⟩ := q1
 subst e
 cases r1
 rcases q with ⟨⟨xs,hq⟩,q⟩ | ⟨⟨xs,hq⟩,q⟩
 ·obtain ⟨its,rv,p,hz⟩ := I1.list hq
  refine wpAny_pyIter_list p.isList ?_
  refine ⟨s1.heap.objs.size,[s1.heap.objs.size],_,_,H1,rfl,I1.kept (t' := s1.toks) fun b o e => Heap.get?_push_of_some _ e,b3D a _,⟨_,Heap.get?_push_size _ rfl,rfl,rfl⟩,fun b hb => ?_,q⟩
  have e : b = s1.heap.objs.size := by simpa using hb
  subst e
  exact I1.fpOk (Nat.le_refl _) (I1.hok.fresh (Nat.le_refl _))
 ·obtain ⟨its,rv,p,hz⟩ := I1.tuple hq
  refine wpAny_pyIter_tuple (show s1.heap.IsTuple a its.toArray from p) ?_
  refine ⟨s1.heap.objs.size,[s1.heap.objs.size],_,_,H1,rfl,I1.kept (t' := s1.toks) fun b o e => Heap.get?_push_of_some _ e,b1F a _,⟨_,Heap.get?_push_size _ rfl,rfl,rfl⟩,fun b hb => ?_,q⟩
  have e : b = s1.heap.objs.size := by simpa using hb
  subst e
  exact I1.fpOk (Nat.le_refl _) (I1.hok.fresh (Nat.le_refl _))
theorem a4e (hp : PassesOwn (model X.prog X.w) X.A X.env X.xe) (hc : X.calm = true) (he : EO X g iter f) (hg : GO X g tg t) (hb : SSO X g body b) (hs : ∀ x,foldedSetIterable iter X.env x = pure x := by intro _; rfl) :
  SO X g (.For tg iter body [] pos) (P8 f t b) := SO.w (a0W hp hc (a7f he.pe) hg.pe hb.pe hs) fun E σ H hQ => by
 refine hQ.elim fun fa O s fl sf I q k => ?_
 refine p8 q fun d s1 h1 h2 => ?_
 refine ⟨fa,O,s,d,s1,I,h1,fun v H1 f1 O1 a1 I1 r => ?_⟩
 have k1 := k.shift a1.stp
 cases d with
 | lst ds=>
  simp only [Rep] at r
  obtain ⟨a,xs,rfl,na,q,w⟩ := r
  refine ⟨a,rfl,.inl ⟨⟨xs,SqL.of q⟩,b1q (xs := xs) (PvD X.K g f1 O1 H1 t b ds fl sf) ⟨f1,O1,s1,Stp.refl,I1,h2⟩ ?_ ?_ ?_⟩⟩
  ·rintro i σ' H' _ ⟨fa',O',s',st,I',e⟩
   exact SqL.of ((I1.car st).ls a xs na q).1
  ·intro i x σ' H' hx h
   obtain ⟨d,hd,rd⟩ := Reps.get' w hx
   exact a0c k1 hd (fun fa' O' st => Rep.stp I1 st rd) h
  ·intro σ' H' h
   exact Z4 k1 (Nat.le_of_eq w.length.symm) h
 | tup ds=>
  simp only [Rep] at r
  obtain ⟨a,xs,rfl,q,w⟩ := r
  refine ⟨a,rfl,.inr ⟨⟨xs,q⟩,a1K (xs := xs) (PvD X.K g f1 O1 H1 t b ds fl sf) ⟨f1,O1,s1,Stp.refl,I1,h2⟩ ?_ ?_ ?_⟩⟩
  ·rintro i σ' H' _ ⟨fa',O',s',st,I',e⟩
   exact (I1.car st).tp a xs q
  ·intro i x σ' H' hx h
   obtain ⟨d,hd,rd⟩ := Reps.get' w hx
   exact a0c k1 hd (fun fa' O' st => Rep.stp I1 st rd) h
  ·intro σ' H' h
   exact Z4 k1 (Nat.le_of_eq w.length.symm) h
 | _ => cases h2
def ups (lo : Int) (n : Nat) : List D := (List.range n).map fun (i : Nat) => D.int (lo + (i : Int))
theorem a1p {lo : Int} {n i : Nat} (h : i < n) : (ups lo n)[i]? = some (.int (lo + (i : Int))) := by simp [ups,h]
theorem J3 (lo : Int) (n : Nat) : (ups lo n).length = n := by simp [ups]
def L4 : List D → Option (List D)
 | [.int j] => if -(2 ^ 62) ≤ j ∧ j < 2 ^ 62 then some (ups 0 j.toNat) else none
 | [.int i,.int j] => if -(2 ^ 62) ≤ i ∧ i < 2 ^ 62 ∧ -(2 ^ 62) ≤ j ∧ j < 2 ^ 62 then some (ups i (j - i).toNat) else none
 | _ => none
def J7 (f : DA) (t : D → DS → Option DS) (b : DM) : DM := fun s => (f s).bind fun x => (L4 x.1).bind fun ds => A6 t b ds x.2
theorem a4P {ds es : List D} {a : D} (h : L4 ds = some es) (l : ds = [a]) : ∃ j : Int,a = .int j ∧ -(2 ^ 62) ≤ j ∧ j < 2 ^ 62 ∧ es = ups 0 j.toNat:= by
 subst l
 cases a with
 | int j=>
  have h : (if -(2 ^ 62) ≤ j ∧ j < 2 ^ 62 then some (ups 0 j.toNat) else none) = some es := h
  by_cases hj : -(2 ^ 62) ≤ j ∧ j < 2 ^ 62
  ·rw [if_pos hj] at h; cases h; exact ⟨j,rfl,hj.1,hj.2,rfl⟩
  ·rw [if_neg hj] at h; cases h
 | _ => cases h
theorem b1J {ds es : List D} {a c : D} (h : L4 ds = some es) (l : ds = [a,c]) : ∃ i j : Int,a = .int i ∧ c = .int j ∧ (-(2 ^ 62) ≤ i ∧ i < 2 ^ 62 ∧ -(2 ^ 62) ≤ j ∧ j < 2 ^ 62) ∧ es = ups i (j - i).toNat:= by
 subst l
 cases a with
 | int i=>
  cases c with
  | int j=>
   have h : (if -(2 ^ 62) ≤ i ∧ i < 2 ^ 62 ∧ -(2 ^ 62) ≤ j ∧ j < 2 ^ 62 then some (ups i (j - i).toNat) else none) = some es := h
   by_cases hj : -(2 ^ 62) ≤ i ∧ i < 2 ^ 62 ∧ -(2 ^ 62) ≤ j ∧ j < 2 ^ 62
   ·rw [if_pos hj] at h; cases h; exact ⟨i,j,rfl,rfl,hj,rfl⟩
   ·rw [if_neg hj] at h; cases h
  | _ => cases h
 | _ => cases h
theorem Z5 {a : Expr} {fa : DE} {p cpos : Pos} (hp : PassesOwn (model X.prog X.w) X.A X.env X.xe) (hc : X.calm = true) (hgl : Gl X "range") (hm : X.mg "range" = none) (ha : EO X g a fa) (hg : GO X g tg t) (hb : SSO X g body b)
  (hs1 : starEach [a] X.env = [(false,eval a X.env)] := by rfl) (hs : ∀ x,foldedSetIterable (.Call (.Name "range" p) [a] [] cpos) X.env x = pure x := by intro _; rfl) :
  SO X g (.For tg (.Call (.Name "range" p) [a] [] cpos) body [] pos) (J7 (a0 fa a6) t b):=
 SO.w (a0W hp hc (a5P hgl hm (Y5 ha b6 hs1).pe hs1) hg.pe hb.pe hs) fun E σ H hQ => by
  refine hQ.elim fun fa O s fl sf I q k => ?_
  refine p8 q fun ds s1 h1 h2 => ?_
  refine L6 h2 fun es h3 h4 => ?_
  obtain ⟨d,s2,rs,e1,e2,e3⟩ := S4 h1
  cases e2
  obtain ⟨j,rfl,j1,j2,rfl⟩ := a4P h3 e3
  refine ⟨fa,O,s,ds,s1,I,h1,fun vs H1 f1 O1 a1 I1 r => ?_⟩
  have k1 := k.shift a1.stp
  rw [e3] at r
  simp only [Reps,Rep] at r
  obtain ⟨x,ys,rfl,rfl,rfl⟩ := r
  refine ⟨j,rfl,j1,j2,a6A (lo := 0) (n := j.toNat) (PvD X.K g f1 O1 H1 t b (ups 0 j.toNat) fl sf) ⟨f1,O1,s1,Stp.refl,I1,h4⟩ ?_ ?_⟩
  ·intro i σ' H' hi h
   exact a0c k1 (a1p hi) (fun fa' O' st => by simp only [Rep]) h
  ·intro σ' H' h
   exact Z4 k1 (by rw [J3]; exact Nat.le_refl _) h
theorem a68 {a c : Expr} {fa fc : DE} {p cpos : Pos} (hp : PassesOwn (model X.prog X.w) X.A X.env X.xe) (hc : X.calm = true) (hgl : Gl X "range") (hm : X.mg "range" = none) (ha : EO X g a fa) (hc2 : EO X g c fc) (hg : GO X g tg t) (hb : SSO X g body b)
  (hs1 : starEach [a,c] X.env = [(false,eval a X.env),(false,eval c X.env)] := by rfl) (hs2 : starEach [c] X.env = [(false,eval c X.env)] := by rfl) (hs : ∀ x,foldedSetIterable (.Call (.Name "range" p) [a,c] [] cpos) X.env x = pure x := by intro _; rfl) :
  SO X g (.For tg (.Call (.Name "range" p) [a,c] [] cpos) body [] pos) (J7 (a0 fa (a0 fc a6)) t b):=
 SO.w (a0W hp hc (b2z hgl hm (Y5 ha (Y5 hc2 b6 hs2) (by rw [hs1,hs2])).pe hs1 hs2) hg.pe hb.pe hs) fun E σ H hQ => by
  refine hQ.elim fun fa O s fl sf I q k => ?_
  refine p8 q fun ds s1 h1 h2 => ?_
  refine L6 h2 fun es h3 h4 => ?_
  obtain ⟨d,s2,rs,e1,e2,e3⟩ := S4 h1
  obtain ⟨d',s3,rs',e4,e5,e6⟩ := S4 e2
  cases e5
  subst e6
  obtain ⟨i0,j,rfl,rfl,jj,rfl⟩ := b1J h3 e3
  refine ⟨fa,O,s,ds,s1,I,h1,fun vs H1 f1 O1 a1 I1 r => ?_⟩
  have k1 := k.shift a1.stp
  rw [e3] at r
  simp only [Reps,Rep] at r
  obtain ⟨x,ys,rfl,rfl,y,zs,rfl,rfl,rfl⟩ := r
  refine ⟨i0,j,rfl,jj,a6A (lo := i0) (n := (j - i0).toNat) (PvD X.K g f1 O1 H1 t b (ups i0 (j - i0).toNat) fl sf) ⟨f1,O1,s1,Stp.refl,I1,h4⟩ ?_ ?_⟩
  ·intro i σ' H' hi h
   exact a0c k1 (a1p hi) (fun fa' O' st => by simp only [Rep]) h
  ·intro σ' H' h
   exact Z4 k1 (by rw [J3]; exact Nat.le_refl _) h
def whN (c : DT) (b : DM) : Nat → DS → Option (Fl × DS)
 | 0,_ => none
 | n + 1,s => (c s).bind fun x => if x.1 = true then (b x.2).bind fun y => match y.1 with
   | .next => whN c b n y.2
   | .cont => whN c b n y.2
   | .brk => some (.next,y.2)
   | .ret v => some (.ret v,y.2)
  else some (.next,x.2)
open Classical in
def G4 (c : DT) (b : DM) : DM := fun s => if h : ∃ n r,whN c b n s = some r then whN c b h.choose s else none
theorem a3m {c : DT} {b : DM} : ∀ (n : Nat) {s : DS} {r : Fl × DS},whN c b n s = some r → whN c b (n + 1) s = some r
 | 0,s,r,h => by cases h
 | n + 1,s,r,h => by
  rw [whN] at h ⊢
  refine p8 h fun x s1 h1 h2 => ?_
  refine Option.bind_eq_some_iff.mpr ⟨(x,s1),h1,?_⟩
  cases x with
  | false => exact h2
  | true=>
   simp only [if_true] at h2 ⊢
   refine p8 h2 fun y s2 h3 h4 => ?_
   refine Option.bind_eq_some_iff.mpr ⟨(y,s2),h3,?_⟩
   cases y with
   | next => exact a3m n h4
   | cont => exact a3m n h4
   | brk => exact h4
   | ret v => exact h4
theorem a7k {c : DT} {b : DM} {n m : Nat} (hnm : n ≤ m) {s : DS} {r : Fl × DS} (h : whN c b n s = some r) : whN c b m s = some r:= by
 induction hnm with
 | refl => exact h
 | step _ ih => exact a3m _ ih
theorem a7B {c : DT} {b : DM} {n : Nat} {s : DS} {r : Fl × DS} (h : whN c b n s = some r) : G4 c b s = some r:= by
 have hx : ∃ n r,whN c b n s = some r := ⟨n,r,h⟩
 unfold G4
 rw [dif_pos hx]
 obtain ⟨r',h'⟩ := hx.choose_spec
 have e1 := a7k (Nat.le_max_left n hx.choose) h
 have e2 := a7k (Nat.le_max_right n hx.choose) h'
 rw [e1] at e2
 rw [h',e2]
theorem a6S {c : DT} {b : DM} {s : DS} {r : Fl × DS} (h : G4 c b s = some r) : ∃ n,whN c b n s = some r:= by
 unfold G4 at h
 by_cases hx : ∃ n r,whN c b n s = some r
 ·rw [dif_pos hx] at h; exact ⟨_,h⟩
 ·rw [dif_neg hx] at h; cases h
theorem a45 {c : DT} {b : DM} {s s1 s2 : DS} {r : Fl × DS} (h1 : c s = some (true,s1)) (h2 : b s1 = some (.next,s2)) (h3 : G4 c b s2 = some r) : G4 c b s = some r:= by
 obtain ⟨n,h⟩ := a6S h3
 refine a7B (n := n + 1) ?_
 rw [whN,h1]
 simp only [Option.bind_some,if_true,h2]
 exact h
theorem a46 {c : DT} {b : DM} {s s1 : DS} (h1 : c s = some (false,s1)) : G4 c b s = some (.next,s1):= by
 refine a7B (n := 1) ?_
 rw [whN,h1]
 simp
theorem a6t {c : Expr} {fc : DT} (hp : PassesOwn (model X.prog X.w) X.A X.env X.xe) (hc : TO X g c fc) (hb : SSO X g body b) : SO X g (.While c body [] pos) (G4 fc b) := SO.w (b3q hp hc.pe hb.pe) fun E σ H hQ => by
 refine hQ.elim fun fa O s fl sf I q k => ?_
 obtain ⟨n,h⟩ := a6S q
 refine ⟨fun m σ' H' => ∃ fa' O' s',Stp fa O H fa' O' H' ∧ GI X.K g σ' H' fa' O' s' ∧ whN fc b m s' = some (fl,sf),⟨n,fa,O,s,Stp.refl,I,h⟩,?_⟩
 rintro m σ1 H1 ⟨f1,O1,s1,a1,I1,h1⟩
 cases m with
 | zero => cases h1
 | succ m=>
  rw [whN] at h1
  refine p8 h1 fun x s2 h2 h3 => ?_
  refine ⟨f1,O1,s1,x,s2,I1,h2,fun H2 f2 O2 a2 I2 => ?_⟩
  cases x with
  | false => rw [if_neg Bool.false_ne_true] at h3 ⊢; cases h3; exact k σ1 H2 f2 O2 (a1.trans a2.stp) I2
  | true=>
   rw [if_pos rfl] at h3 ⊢
   refine p8 h3 fun y s3 h4 h5 => ?_
   refine ⟨fun σ' H' => ∃ fa' O' s',Stp fa O H fa' O' H' ∧ GI X.K g σ' H' fa' O' s' ∧ whN fc b m s' = some (fl,sf),fun σ' H' z => ⟨m,Nat.lt_succ_self m,z⟩,f2,O2,s2,y,s3,I2,h4,?_⟩
   have a12 := a1.trans a2.stp
   cases y with
   | next => exact fun σ3 H3 f3 O3 a3 I3 => ⟨f3,O3,s3,a12.trans a3,I3,h5⟩
   | cont => exact fun σ3 H3 f3 O3 a3 I3 => ⟨f3,O3,s3,a12.trans a3,I3,h5⟩
   | brk => cases h5; exact fun σ3 H3 f3 O3 a3 I3 => k σ3 H3 f3 O3 (a12.trans a3) I3
   | ret v => cases h5; exact fun σ3 v H3 f3 O3 a3 I3 r => k σ3 v H3 f3 O3 (a12.trans a3) I3 r
end
abbrev DFn := List D → Option FS → Option (D × Option FS)
def spD (K : PySem.W.Frag) (n : Nat) (m : DFn) : Sp := fun vs H Q _ => ∃ (F : Addr → Prop) (fa : Option Addr) (ds : List D) (fs : Option FS) (d : D) (fs' : Option FS),
 (∀ b,F b → H b ≠ none) ∧ (∀ a,fa = some a → F a) ∧ Reps K F fa H ds vs ∧ FeedR F H fa fs ∧ m ds fs = some (d,fs') ∧ ds.length = n ∧
  ∀ v H' fa',Stp fa [] H fa' [] H' → FeedR (fun b => F b ∨ fa' = some b) H' fa' fs' → Rep K (fun b => F b ∨ fa' = some b) fa' H' d v → Q v H'
abbrev FnD (P : Program) (w : World) (K : PySem.W.Frag) (mg : Str → Option Value) (base : Heap) (k : Nat) (f : Addr) (fd : FuncData) (ps : List Str) (m : DFn) : Prop := FnOk P w K mg base CX0 k f fd ps (spD K ps.length m)
def mFn (n : Nat) (b : DM) : DFn := fun ds fs => (b ⟨ds.map .val ++ List.replicate (n - ds.length) .no,fs⟩).bind fun x => match x.1 with
 | .ret d => some (d,x.2.fs)
 | .next => some (.non,x.2.fs)
 | _ => none
theorem a7y {K : PySem.W.Frag} {N : Addr → Prop} {fa : Option Addr} {H : Hp} : ∀ n : Nat,SlR K N fa H (List.replicate n .no) (List.replicate n none) []
 | 0 => by simp [SlR]
 | n + 1 => by
  simp only [List.replicate_succ,SlR]
  exact ⟨_,_,rfl,a7y n⟩
theorem a52 {K : PySem.W.Frag} {N : Addr → Prop} {fa : Option Addr} {H : Hp} {n : Nat} : ∀ {ds : List D} {vs : List V},Reps K N fa H ds vs → SlR K N fa H (ds.map .val ++ List.replicate n .no) (vs.map some ++ List.replicate n none) []
 | [],vs,h => by simp only [Reps] at h; subst h; simpa using a7y n
 | d :: r,vs,h => by
  simp only [Reps] at h
  obtain ⟨x,ys,rfl,h1,h2⟩ := h
  simp only [List.map_cons,List.cons_append,SlR]
  exact ⟨x,_,rfl,h1,a52 h2⟩
section
variable {P : Program} {w : World} {K : PySem.W.Frag} {mg : Str → Option Value} {base : Heap}
theorem a6j {x qual : Str} {st : Stmt} {f : Addr} {fd : FuncData} {N ps : List Str} {k : Nat} {b : DM} (F : Fun K x qual st f fd) (S : FnScope N ps (l3 st))
  (hbody : ∀ (cdv : Value) (A : Around) (outer : List Env) (s : Shared) (H : Hp) (E : XK) (g : Gh),Room k (A.deeper (PyProof.Rows.envOfC qual (l3 st) s.heap.objs.size f cdv)) → SSO (P5 CX0 P w K mg base N qual (l3 st) f cdv A outer s H E).nox g (G5 st) b) :
  FnD P w K mg base (k + 1) f fd ps (mFn N.length b):= by
 refine F.ok S (fun vs H Q E h => ?_) (fun cdv A outer s H vs Q E hr h => ?_)
 ·obtain ⟨F,fa,ds,fs,d,fs',_,_,r,_,_,hl,_⟩ := h
  rw [r.length]; exact hl
 obtain ⟨F,fa,ds,fs,d,fs',tr,ff,r,fd,e,hl,q⟩ := h
 refine ⟨_,(hbody cdv A outer s H E ⟨F,H,fa⟩ hr).pe,?_⟩
 refine p8 e fun fl s' h1 h2 => ?_
 have hN : ∀ b,NN F fa [] b → F b := fun b z => by
  rcases z with z | z | z
  ·exact z
  ·cases z
  ·exact ff b z
 have c : Car K F fa H (NN F fa []) fa H := ⟨fun b xs n q => ⟨q,fun z => n (hN b z)⟩,fun _ _ q => q,fun _ _ q => q,fun _ q => q⟩
 have el : (L2.start N vs) = vs.map some ++ List.replicate (N.length - ds.length) none := by rw [L2.start,r.length]
 have I : GI K ⟨F,H,fa⟩ (L2.start N vs) H fa [] ⟨ds.map .val ++ List.replicate (N.length - ds.length) .no,fs⟩:= by
  refine ⟨List.nodup_nil,?_,fun b hb => (by cases hb),Stp.refl,tr,ff,fd.car c fun _ _ => rfl,fun _ _ z => (by cases z)⟩
  rw [el]
  exact a52 (Reps.go c ds vs r)
 have fin : ∀ {fa' : Option Addr} {O' : List Addr} {H' : Hp} {σ' : L2.St} {v : V} {dd : D},Stp fa [] H fa' O' H' → GI K ⟨F,H,fa⟩ σ' H' fa' O' s' → Rep K (NN F fa' O') fa' H' dd v → dd = d → s'.fs = fs' → Q v H':= by
  intro fa' O' H' σ' v dd a1 I1 r1 e1 e2
  subst e1; subst e2
  have c1 : Car K (NN F fa' O') fa' H' (fun b => F b ∨ fa' = some b) fa' H' := ⟨fun b xs n q => ⟨q,fun z => n (by
   rcases z with z | z
   ·exact .inl z
   ·exact .inr (.inr z))⟩,fun _ _ q => q,fun _ _ q => q,fun _ q => q⟩
  exact q v H' fa' ⟨fun b hb => (by cases hb),a1.fe,a1.same,a1.mon⟩ (I1.fd.car c1 fun _ _ => rfl) (Rep.go c1 _ _ r1)
 refine ⟨fa,[],_,fl,s',I,h1,?_⟩
 cases fl with
 | next=>
  simp only [Option.some.injEq,Prod.mk.injEq] at h2
  exact fun σ' H' fa' O' a1 I1 => fin a1 I1 (v := .non) (dd := .non) (by simp only [Rep]) h2.1 h2.2
 | ret dd=>
  simp only [Option.some.injEq,Prod.mk.injEq] at h2
  exact fun σ' v H' fa' O' a1 I1 r1 => fin a1 I1 r1 h2.1 h2.2
 | brk => cases h2
 | cont => cases h2
end
def c6 (m : DFn) (f : DA) : DE := fun s => (f s).bind fun x => (m x.1 x.2.fs).map fun y => (y.1,{ x.2 with fs := y.2 })
section
variable {X : Cx} {g : Gh} {k : Nat} {f : Addr} {fd : FuncData} {ps : List Str} {m : DFn} {x : Str} {p pos : Pos} {e : Expr} {es : List Expr} {t : DA}
theorem a8e {n : Nat} (hn : ∀ s ds s',t s = some (ds,s') → ds.length = n) (σ : L2.St) (H : Hp) (Q : VK) (h : liftE X.K g (c6 m t) σ H Q) : a1O (spD X.K n m) [] E0 (liftA X.K g t) σ H Q:= by
 obtain ⟨fa,O,s,d,s',I,q,k⟩ := h
 refine p8 q fun ds s1 h1 h2 => ?_
 refine mapP h2 fun d1 fs1 h3 h4 => ?_
 simp only [Prod.mk.injEq] at h4
 obtain ⟨e1,e2⟩ := h4
 subst e1; subst e2
 refine ⟨fa,O,s,ds,s1,I,h1,fun vs H1 f1 O1 a1 I1 r => ?_⟩
 show spD X.K n m (vs ++ []) H1 Q E0
 rw [List.append_nil]
 refine ⟨NN g.F f1 O1,f1,ds,s1.fs,d1,fs1,fun b hb => I1.nn_tracked hb,fun a ha => .inr (.inr ha),r,I1.fd,h3,hn s ds s1 h1,fun v H2 f2 a2 fd2 r2 => ?_⟩
 have a3 : StE f1 O1 H1 f2 O1 H2 := ⟨fun b hb => hb,a2.fe,fun b u e n => a2.same b u e (by simp) n,a2.mon⟩
 have c := I1.car a3.stp
 have c2 : Car X.K (fun b => NN g.F f1 O1 b ∨ f2 = some b) f2 H2 (NN g.F f2 O1) f2 H2 := ⟨fun b xs n q => ⟨q,fun z => n (by
   rcases z with z | z | z
   ·exact .inl (.inl z)
   ·exact .inl (.inr (.inl z))
   ·exact .inr z)⟩,fun _ _ q => q,fun _ _ q => q,fun _ q => q⟩
 refine k v H2 f2 O1 (a1.trans a3) ⟨I1.nd,SlR.go c (fun b xs hb e => ?_) I1.sl,I1.fr,I1.st.trans ⟨fun b hb => (by cases hb),a2.fe,fun b u e n z => a2.same b u e n z,a2.mon⟩,I1.tr,I1.ff,fd2.car c2 fun _ _ => rfl,I1.nf_step a3.fe⟩ (Rep.go c2 _ _ r2)
 exact a3.same b _ e fun z => I1.nf b z hb
theorem b3O (F : FnD X.prog X.w X.K X.mg X.base k f fd ps m) (hr : Room k X.A) (hg : Gl X x) (hm : X.mg x = some (.ref f)) (hk : PySem.W.keepIn X.K (.ref f) = true) (hb : Binds X.K fd ps [])
  (ha : AO X g (e :: es) t) (hn : ∀ s ds s',t s = some (ds,s') → ds.length = ps.length) (hdb : (x == ("__debug__" : Str)) = false := by decide) (he : starEach (e :: es) X.env = (false,eval e X.env) :: starEach es X.env := by rfl) (hpl : (backTo pos (starEach es X.env)).any (·.1) = false := by rfl) :
  EO X g (.Call (.Name x p) (e :: es) [] pos) (c6 m t) := EO.w (a4s F hr hg hm hk hb .nil a6W ha.pe hdb he hpl) (a8e hn)
theorem i6 : ∀ s ds s',a6 s = some (ds,s') → ds.length = 0 := fun s ds s' h => by cases h; rfl
theorem c5 {a : DE} {r : DA} {n : Nat} (h : ∀ s ds s',r s = some (ds,s') → ds.length = n) : ∀ s ds s',a0 a r s = some (ds,s') → ds.length = n + 1 := fun s ds s' q => by
 obtain ⟨d,s1,es,h1,h2,h3⟩ := S4 q
 subst h3
 simp [h _ _ _ h2]
end
def ItD (K : PySem.W.Frag) (N : Addr → Prop) (fa : Option Addr) (H1 : Hp) (J : It) (ds : List D) : Prop := ∀ N' fa' H',Car K N fa H1 N' fa' H' → (∀ b u,H1 b = some u → fa ≠ some b → H' b = some u) → ∀ i : Nat,
 (∀ d,ds[i]? = some d → J.go i H' ∧ ∀ x H'',J.yld i H' x H'' → H'' = H' ∧ Rep K N' fa' H' d x) ∧ (ds.length ≤ i → J.stop i H')
def liftI (K : PySem.W.Frag) (g : Gh) (f : DA) : TI := fun σ H R => ∃ fa O s ds s',GI K g σ H fa O s ∧ f s = some (ds,s') ∧ ds.length ≤ sizeLine ∧
 ∀ J H' fa' O',StE fa O H fa' O' H' → GI K g σ H' fa' O' s' → ItD K (NN g.F fa' O') fa' H' J ds → R J H'
section
variable {K : PySem.W.Frag} {g : Gh} {σ : L2.St} {H : Hp} {G : Prop}
theorem liftI.elim {f : DA} {R : It → Hp → Prop} (h : liftI K g f σ H R) (k : ∀ fa O s ds s',GI K g σ H fa O s → f s = some (ds,s') → ds.length ≤ sizeLine → (∀ J H' fa' O',StE fa O H fa' O' H' → GI K g σ H' fa' O' s' → ItD K (NN g.F fa' O') fa' H' J ds → R J H') → G) : G:= by
 obtain ⟨fa,O,s,d,s',a,r,b,c⟩ := h
 exact k fa O s d s' a r b c
end
structure IO (X : Cx) (g : Gh) (tg iter : Expr) (f : DA) : Prop where
 pe : PI X tg iter (liftI X.K g f)
def E8 (f : DE) : DA := fun s => (f s).bind fun x => match x.1 with
 | .lst ds => some (ds,x.2)
 | .tup ds => some (ds,x.2)
 | _ => none
def a1g (f : DA) : DA := fun s => (f s).bind fun x => (L4 x.1).map fun ds => (ds,x.2)
section
variable {X : Cx} {g : Gh} {tg iter : Expr} {f : DE}
theorem PIw {t t' : TI} (h : PI X tg iter t) (w : ∀ σ H R,t' σ H R → t σ H R) : PI X tg iter t' := fun pins s σ H R I q => h pins s σ H R I (w σ H R q)
theorem IO.w {f : DA} {t : TI} (h : PI X tg iter t) (w : ∀ σ H R,liftI X.K g f σ H R → t σ H R) : IO X g tg iter f := ⟨PIw h w⟩
theorem M2 (h : EO X g iter f) : IO X g tg iter (E8 f) := IO.w (a7f h.pe) fun σ H R hQ => by
 refine hQ.elim fun fa O s ds s' I e hz k => ?_
 refine p8 e fun d s1 h1 h2 => ?_
 refine ⟨fa,O,s,d,s1,I,h1,fun v H1 f1 O1 a1 I1 r => ?_⟩
 cases d with
 | lst es=>
  cases h2
  simp only [Rep] at r
  obtain ⟨a,xs,rfl,na,q,w⟩ := r
  refine ⟨a,rfl,.inl ⟨⟨xs,SqL.of q⟩,k _ H1 f1 O1 a1 I1 fun N' fa' H' c _ i => ⟨fun d hd => ?_,fun hl => ?_⟩⟩⟩
  ·obtain ⟨x,hx,rx⟩ := Reps.get w hd
   have q' := (c.ls a xs na q).1
   refine ⟨⟨xs,x,SqL.of q',hx⟩,fun y H'' hy => ?_⟩
   obtain ⟨e1,e2⟩ := hy
   have := e2 xs (SqL.of q')
   rw [hx] at this; cases this
   exact ⟨e1,Rep.go c d x rx⟩
  ·exact ⟨xs,SqL.of (c.ls a xs na q).1,by rw [w.length]; exact hl⟩
 | tup es=>
  cases h2
  simp only [Rep] at r
  obtain ⟨a,xs,rfl,q,w⟩ := r
  refine ⟨a,rfl,.inr ⟨⟨xs,q⟩,k _ H1 f1 O1 a1 I1 fun N' fa' H' c _ i => ⟨fun d hd => ?_,fun hl => ?_⟩⟩⟩
  ·obtain ⟨x,hx,rx⟩ := Reps.get w hd
   have q' := c.tp a xs q
   refine ⟨⟨xs,x,q',hx⟩,fun y H'' hy => ?_⟩
   obtain ⟨e1,e2⟩ := hy
   have := e2 xs q'
   rw [hx] at this; cases this
   exact ⟨e1,Rep.go c d x rx⟩
  ·exact ⟨xs,c.tp a xs q,by rw [w.length]; exact hl⟩
 | _ => cases h2
theorem a9S {K : PySem.W.Frag} {N : Addr → Prop} {fa : Option Addr} {H1 : Hp} (lo : Int) (n : Nat) : ItD K N fa H1 (Itr lo n) (ups lo n) := fun N' fa' H' c _ i => ⟨fun d hd => by
 have hi : i < n := by have := (List.getElem?_eq_some_iff.mp hd).1; rwa [J3] at this
 rw [a1p hi] at hd
 cases hd
 refine ⟨hi,fun x H'' hy => ?_⟩
 obtain ⟨e1,e2⟩ := hy
 subst e2
 exact ⟨e1,by simp only [Rep]⟩,fun hl => by rw [J3] at hl; exact hl⟩
theorem b2b {a : Expr} {fa : DE} {p cpos : Pos} (hgl : Gl X "range") (hm : X.mg "range" = none) (ha : EO X g a fa) (hs1 : starEach [a] X.env = [(false,eval a X.env)] := by rfl) :
  IO X g tg (.Call (.Name "range" p) [a] [] cpos) (a1g (a0 fa a6)) := IO.w (a5P hgl hm (Y5 ha b6 hs1).pe hs1) fun σ H R hQ => by
 refine hQ.elim fun fa O s es s' I q hz k => ?_
 refine p8 q fun ds s1 h1 h2 => ?_
 refine J8 h2 fun es' h3 h4 => ?_
 cases h4
 obtain ⟨d,s2,rs,e1,e2,e3⟩ := S4 h1
 cases e2
 obtain ⟨j,rfl,j1,j2,rfl⟩ := a4P h3 e3
 refine ⟨fa,O,s,ds,_,I,h1,fun vs H1 f1 O1 a1 I1 r => ?_⟩
 rw [e3] at r
 simp only [Reps,Rep] at r
 obtain ⟨x,ys,rfl,rfl,rfl⟩ := r
 exact ⟨j,rfl,j1,j2,k _ H1 f1 O1 a1 I1 (a9S 0 j.toNat)⟩
end
def V5 (sl : List Sl) (i : Nat) : Sl := match sl[i]? with
 | some (Sl.val d) => Sl.val d
 | _ => Sl.no
def J9 (idx : List Nat) (sl : List Sl) : List Sl := idx.map (V5 sl)
def B9 (mk : D → Option (List Sl)) (fc : DT) (fe : DE) : List D → Option FS → Option (List D × Option FS)
 | [],fs => some ([],fs)
 | d :: r,fs => (mk d).bind fun sl => (fc ⟨sl,fs⟩).bind fun c => if c.1 = true then (fe c.2).bind fun y => (B9 mk fc fe r y.2.fs).map fun z => (y.1 :: z.1,z.2) else B9 mk fc fe r c.2.fs
def D7 (idx : List Nat) (fi : DA) (fc : DT) (fe : DE) : DA := fun s => (fi s).bind fun x => if x.1.length ≤ sizeLine then (B9 (fun d => some (.val d :: J9 idx x.2.sl)) fc fe x.1 x.2.fs).map fun y => (y.1,{ x.2 with fs := y.2 }) else none
def FF (g : Gh) (fa : Option Addr) (O : List Addr) (p : Addr) : Addr → Prop := fun b => NN g.F fa O b ∨ b = p
structure CI (K : PySem.W.Frag) (g : Gh) (f1 : Option Addr) (O1 : List Addr) (Hd : Hp) (p : Addr) (fa : Option Addr) (H : Hp) (ys : List V) (res : List D) (fs : Option FS) : Prop where
 st : Stp f1 [p] Hd fa [p] H
 ls : H p = some (.lst ys)
 rs : Reps K (FF g fa O1 p) fa H res ys
 fd : FeedR (FF g fa O1 p) H fa fs
 nf : fa ≠ some p
section
variable {K : PySem.W.Frag} {g : Gh} {f1 fa fa' : Option Addr} {O1 : List Addr} {Hd H H' : Hp} {p : Addr} {ys : List V} {res : List D} {fs : Option FS}
theorem CI.nofa (c : CI K g f1 O1 Hd p fa H ys res fs) : fa ≠ some p := c.nf
theorem b0T (h0 : ∀ xs,fa ≠ none → ∀ a,fa = some a → ¬ Rd H a (.tup xs)) (hfz : ∀ a,fa = some a → ∀ o u,¬ H a = some (.frz o u)) (a : StE fa [] H fa' [] H') : Car K (FF g fa O1 p) fa H (FF g fa' O1 p) fa' H':= by
 refine ⟨fun b xs n q => ⟨a.same b _ q fun z => n (.inl (.inr (.inr z))),fun z => ?_⟩,fun b xs q => ?_,fun b xs q => ?_,fun x e => a.stp.fa_keep e⟩
 ·rcases z with (z | z | z) | z
  ·exact n (.inl (.inl z))
  ·exact n (.inl (.inr (.inl z)))
  ·rcases a.fe with e | ⟨e,h⟩
   ·exact n (.inl (.inr (.inr (e ▸ z))))
   ·rw [h b z] at q; cases q
  ·exact n (.inr z)
 ·refine SqT.stp' a.stp (fun x e ys => h0 ys (by rw [e]; simp) x e) (fun x hx => by cases hx) q
 ·rcases q with ⟨o,q⟩ | q
  ·exact .inl ⟨o,a.same _ _ q fun z => hfz b z _ _ q⟩
  ·exact .inr q
theorem b17 {N : Addr → Prop} (h : FeedR N H fa fs) : ∀ xs,fa ≠ none → ∀ a,fa = some a → ¬ Rd H a (.tup xs) := fun xs _ a e z => h.no_tup e z
theorem CI.step (c : CI K g f1 O1 Hd p fa H ys res fs) (a : StE fa [] H fa' [] H') {g' : Gh} {σ : L2.St} {s' : DS} (hF : ∀ b,FF g fa' O1 p b → NN g'.F fa' [] b) (I : GI K g' σ H' fa' [] s') : CI K g f1 O1 Hd p fa' H' ys res s'.fs:= by
 have cr : Car K (FF g fa O1 p) fa H (FF g fa' O1 p) fa' H' := b0T (b17 c.fd) (fun x e o u => c.fd.no_frz e) a
 refine ⟨c.st.trans ⟨fun b hb => .inl hb,a.fe,fun b u e _ n => a.same b u e n,a.mon⟩,a.same p _ c.ls c.nofa,Reps.go cr _ _ c.rs,I.fd.car (K := K) ⟨fun b xs n q => ⟨q,fun z => n (hF b z)⟩,fun _ _ q => q,fun _ _ q => q,fun _ q => q⟩ fun _ _ => rfl,fun z => ?_⟩
 rcases a.fe with y | ⟨_,y⟩
 ·rw [y] at z; exact c.nf z
 ·have := c.ls; rw [y p z] at this; cases this
theorem CI.app (c : CI K g f1 O1 Hd p fa H ys res fs) {N : Addr → Prop} {d : D} {v : V} (hF : ∀ b,FF g fa O1 p b → N b) (r : Rep K N fa H d v) : CI K g f1 O1 Hd p fa (upd H p (.lst (ys ++ [v]))) (ys ++ [v]) (res ++ [d]) fs:= by
 have cr : Car K (FF g fa O1 p) fa H (FF g fa O1 p) fa (upd H p (.lst (ys ++ [v]))):= by
  refine ⟨fun b xs n q => ⟨by rw [o9 (fun z => n (.inr z))]; exact q,n⟩,fun b xs q => ?_,fun b xs q => ?_,fun _ q => q⟩
  ·rcases q with (q | ⟨o,q⟩) | q
   ·exact .inl (.inl (by rw [o9 (fun z => by rw [z,c.ls] at q; cases q)]; exact q))
   ·exact .inl (.inr ⟨o,by rw [o9 (fun z => by rw [z,c.ls] at q; cases q)]; exact q⟩)
   ·exact .inr q
  ·rcases q with ⟨o,q⟩ | q
   ·exact .inl ⟨o,by rw [o9 (fun z => by rw [z,c.ls] at q; cases q)]; exact q⟩
   ·exact .inr q
 have c0 : Car K N fa H (FF g fa O1 p) fa H := ⟨fun b xs n q => ⟨q,fun z => n (hF b z)⟩,fun _ _ q => q,fun _ _ q => q,fun _ q => q⟩
 refine ⟨c.st.trans ⟨fun b hb => .inl hb,.inl rfl,fun b u e n _ => by rw [o9 (fun z => n (by simp [z]))]; exact e,fun b z => ?_⟩,A9,?_,c.fd.car cr fun a e => o9 fun z => c.nofa (z ▸ e),c.nf⟩
 ·by_cases hb : b = p
  ·subst hb; rw [A9] at z; cases z
  ·rw [o9 hb] at z; exact z
 ·exact Reps.append (Reps.go cr _ _ c.rs) (Reps.one (Rep.go cr _ _ (Rep.go c0 _ _ r)))
end
section
variable {X : Cx} {g : Gh} {scope : Scope} {cl : List (Str × Addr)} {N' : List Str} {idx : List Nat} {iter elt tg : Expr} {ifs : List Expr} {pos : Pos} {fi : DA} {fc : DT} {fe : DE}
def U7 (X : Cx) (g : Gh) (ifs : List Expr) (f : DT) : Prop := V0 X ifs (liftT X.K g f)
def B4 : DT := fun s => some (true,s)
theorem L1 : U7 X g [] B4 := fun pins s σ H Q I ⟨fa,O,s0,d,s',G,e,k⟩ => a7U pins s σ H Q I (by cases e; exact k H fa O StE.refl G)
theorem b4l {c : Expr} {f : DT} (h : TO X g c f) : U7 X g [c] f := b3B h.pe
theorem a5v {K : PySem.W.Frag} {N : Addr → Prop} {fa : Option Addr} {H : Hp} {sl : List Sl} {σ : L2.St} {O : List Addr} (h : SlR K N fa H sl σ O) : ∀ idx : List Nat,SlR K N fa H (J9 idx sl) (idx.map fun i => (σ[i]?).join) []
 | [] => by simp [J9,SlR]
 | i :: r => by
  have ih := a5v h r
  have go : ∀ e : sl[i]? = none ∨ (∃ z,sl[i]? = some z ∧ ∀ d,z ≠ .val d),V5 sl i = .no := fun e => by
   unfold V5
   rcases e with e | ⟨z,e,n⟩
   ·rw [e]
   ·rw [e]
    cases z with
    | val d => exact absurd rfl (n d)
    | no => rfl
    | own ds => rfl
  show SlR K N fa H (V5 sl i :: J9 r sl) ((σ[i]?).join :: r.map fun i => (σ[i]?).join) []
  cases e : sl[i]? with
  | none=>
   rw [go (.inl e)]
   simp only [SlR]
   exact ⟨_,_,rfl,ih⟩
  | some z=>
   cases z with
   | no=>
    rw [go (.inr ⟨_,e,fun d z => by cases z⟩)]
    simp only [SlR]
    exact ⟨_,_,rfl,ih⟩
   | own ds=>
    rw [go (.inr ⟨_,e,fun d z => by cases z⟩)]
    simp only [SlR]
    exact ⟨_,_,rfl,ih⟩
   | val d=>
    obtain ⟨u,e1,q⟩ := SlR.val h e
    have ec : V5 sl i = .val d := by unfold V5; rw [e]
    rw [ec]
    simp only [SlR]
    exact ⟨u,_,by rw [e1]; rfl,q,ih⟩
def a74 (mk : List Sl → D → Option (List Sl)) (fi : DA) (fc : DT) (fe : DE) : DA := fun s => (fi s).bind fun x => if x.1.length ≤ sizeLine then (B9 (mk x.2.sl) fc fe x.1 x.2.fs).map fun y => (y.1,{ x.2 with fs := y.2 }) else none
theorem a6d {n : Nat} {G : TG} {mk : List Sl → D → Option (List Sl)} (hG : ∀ (N : Addr → Prop) (fa : Option Addr) (sl : List Sl) (d : D) (sl0 : List Sl) (x : V) (σ : L2.St) (H : Hp) (Q : L2.St → Hp → Prop),mk sl d = some sl0 → Rep X.K N fa H d x → SlR X.K N fa H (J9 idx sl) (idx.map fun i => (σ[i]?).join) [] →
  (∀ σ' : L2.St,(σ'.length = (B5 n idx σ).length ∧ ∀ (j : Nat) (v : V),(B5 n idx σ)[j]? = some (some v) → σ'[j]? = some (some v)) → SlR X.K N fa H sl0 σ' [] → Q σ' H) → G x (B5 n idx σ) H Q) : ∀ σ H Q,liftF X.K g (a74 mk fi fc fe) σ H Q → X7 n idx (liftI X.K g fi) G (fun σ H Q => ∃ g',liftT X.K g' fc σ H Q) (fun σ H Q => ∃ g',liftE X.K g' fe σ H Q) σ H Q:= by
 intro σ H Q ⟨fa,O,s,res,s',I,e,kk⟩
 refine p8 e fun ds s1 h1 h2 => ?_
 by_cases hz : ds.length ≤ sizeLine
 ·simp only [if_pos hz] at h2
  refine mapP h2 fun out fsf h3 h4 => ?_
  simp only [Prod.mk.injEq] at h4
  obtain ⟨e1,e2⟩ := h4
  subst e1; subst e2
  refine ⟨fa,O,s,ds,s1,I,h1,hz,fun J H1 f1 O1 a1 I1 J1 p hp => ?_⟩
  have stE : ∀ {fa' : Option Addr} {H' : Hp},Stp f1 [p] (upd H1 p (.lst [])) fa' [p] H' → StE f1 O1 H1 fa' O1 H' := fun {fa' H'} a => by
   refine ⟨fun _ h => h,?_,fun b u e n => ?_,fun b z => (C2 (fa := f1) (O := O1) hp).mon b (a.mon b z)⟩
   ·rcases a.fe with e | ⟨e,h⟩
    ·exact .inl e
    ·exact .inr ⟨e,fun x z => (C2 (fa := f1) (O := O1) hp).mon x (h x z)⟩
   ·have nb : b ≠ p := K0 e hp
    exact a.same b u (by rw [o9 nb]; exact e) (by simp [nb]) n
  have carP : ∀ {fa' : Option Addr} {H' : Hp},Stp f1 [p] (upd H1 p (.lst [])) fa' [p] H' → Car X.K (NN g.F f1 O1) f1 H1 (FF g fa' O1 p) fa' H' := fun {fa' H'} a => by
   have c := I1.car (stE a).stp
   refine ⟨fun b xs n q => ?_,c.tp,c.fz,c.fe⟩
   obtain ⟨q',n'⟩ := c.ls b xs n q
   refine ⟨q',?_⟩
   rintro (z | z)
   ·exact n' z
   ·subst z; rw [hp] at q; cases q
  refine ⟨fun i m H' => m = ds.length - i ∧ i ≤ ds.length ∧ ∃ fa' ys res' rest fs',CI X.K g f1 O1 (upd H1 p (.lst [])) p fa' H' ys res' fs' ∧ B9 (mk s1.sl) fc fe (ds.drop i) fs' = some (rest,fsf) ∧ res' ++ rest = out ∧ ys.length ≤ i,?_,?_⟩
  ·refine ⟨ds.length,by simp,Nat.zero_le _,f1,[],[],out,s1.fs,⟨Stp.refl,A9,Reps.nil,?_,fun z => I1.fd.tracked z hp⟩,by simpa using h3,rfl,Nat.le_refl _⟩
   exact I1.fd.car (a03 I1 hp) (I1.fd.same_new hp)
  ·rintro i m H' ⟨rfl,hil,fa',ys,res',rest,fs',c,hd,ho,hy⟩
   have Hcar := carP c.st
   obtain ⟨jgo,jstop⟩ := J1 _ _ _ Hcar (fun b u e n => (stE c.st).same b u e n) i
   by_cases hlt : i < ds.length
   ·have hdi : ds[i]? = some ds[i] := List.getElem?_eq_getElem hlt
    obtain ⟨go,yl⟩ := jgo _ hdi
    refine .inr ⟨go,fun x H'' hx => ?_⟩
    obtain ⟨e1,rx⟩ := yl x H'' hx
    subst e1
    rw [a4U hdi,B9] at hd
    refine L6 hd fun sl0 hm hd => ?_
    refine p8 hd fun b sb h5 h6 => ?_
    have hNN : ∀ b,NN (FF g fa' O1 p) fa' [] b → FF g fa' O1 p b := fun b z => by
     rcases z with z | z | z
     ·exact z
     ·cases z
     ·exact .inl (.inr (.inr z))
    have cN : Car X.K (FF g fa' O1 p) fa' H'' (NN (FF g fa' O1 p) fa' []) fa' H'' := ⟨fun b xs n q => ⟨q,fun z => n (hNN b z)⟩,fun _ _ q => q,fun _ _ q => q,fun _ q => q⟩
    have trk : ∀ b,FF g fa' O1 p b → H'' b ≠ none := fun b z => by
     rcases z with (z | z | z) | z
     ·exact fun w => I1.trF z ((stE c.st).mon b w)
     ·obtain ⟨xs,e⟩ := I1.owned z
      exact fun w => by have := (stE c.st).mon b w; rw [e] at this; cases this
     ·exact c.fd.tracked z
     ·rw [z,c.ls]; simp
    refine hG (NN (FF g fa' O1 p) fa' []) fa' s1.sl ds[i] sl0 x σ H'' _ hm (Rep.go cN _ _ rx) (SlR.go cN (fun a xs ha => by cases ha) (a5v (SlR.go Hcar (fun a xs ha e => (stE c.st).same a _ e fun z => I1.nf a z ha) I1.sl) idx)) fun σ1 hσ hsl => ⟨hσ,?_⟩
    have G0 : GI X.K ⟨FF g fa' O1 p,H'',fa'⟩ σ1 H'' fa' [] ⟨sl0,fs'⟩ := ⟨List.nodup_nil,hsl,fun b hb => (by cases hb),Stp.refl,trk,fun a ha => .inl (.inr (.inr ha)),c.fd.car cN fun _ _ => rfl,fun _ _ z => (by cases z)⟩
    refine ⟨⟨FF g fa' O1 p,H'',fa'⟩,fa',[],_,b,sb,G0,h5,fun H3 f3 O3 a3 I3 => ?_⟩
    have eO : O3 = [] := List.eq_nil_iff_forall_not_mem.mpr fun z hz => by have := a3.sub z hz; cases this
    subst eO
    have hF3 : ∀ b,FF g f3 O1 p b → NN (FF g fa' O1 p) f3 [] b := fun b z => by
     rcases z with (z | z | z) | z
     ·exact .inl (.inl (.inl z))
     ·exact .inl (.inl (.inr (.inl z)))
     ·exact .inr (.inr z)
     ·exact .inl (.inr z)
    have c3 := c.step a3 hF3 I3
    cases b with
    | false=>
     rw [if_neg Bool.false_ne_true] at h6
     refine a7J ?_
     exact ⟨ds.length - (i + 1),by omega,rfl,hlt,f3,ys,res',rest,sb.fs,c3,h6,ho,Nat.le_succ_of_le hy⟩
    | true=>
     rw [if_pos rfl] at h6
     refine a5f ?_
     refine p8 h6 fun dd sd h7 h8 => ?_
     refine mapP h8 fun rest2 fs2 h9 h10 => ?_
     simp only [Prod.mk.injEq] at h10
     refine ⟨⟨FF g fa' O1 p,H'',fa'⟩,f3,[],sb,dd,sd,I3,h7,fun v H4 f4 O4 a4 I4 r4 => ?_⟩
     have eO : O4 = [] := List.eq_nil_iff_forall_not_mem.mpr fun z hz => by have := a4.sub z hz; cases this
     subst eO
     have hF4 : ∀ b,FF g f4 O1 p b → NN (FF g fa' O1 p) f4 [] b := fun b z => by
      rcases z with (z | z | z) | z
      ·exact .inl (.inl (.inl z))
      ·exact .inl (.inl (.inr (.inl z)))
      ·exact .inr (.inr z)
      ·exact .inl (.inr z)
     have c4 := c3.step a4 hF4 I4
     refine ⟨ys,c4.ls,by omega,ds.length - (i + 1),by omega,rfl,hlt,f4,ys ++ [v],res' ++ [dd],rest2,sd.fs,c4.app hF4 r4,by rw [h9,h10.2],?_,by simp; omega⟩
     rw [← ho,← h10.1]; simp
   ·refine .inl ⟨jstop (Nat.le_of_not_lt hlt),?_⟩
    rw [List.drop_eq_nil_of_le (Nat.le_of_not_lt hlt),B9] at hd
    simp only [Option.some.injEq,Prod.mk.injEq] at hd
    obtain ⟨hd1,hd2⟩ := hd
    subst hd1; subst hd2
    rw [List.append_nil] at ho
    subst ho
    have aE := stE c.st
    have car1 := I1.car aE.stp
    have sameO : ∀ a xs,a ∈ O1 → H1 a = some (.lst xs) → H' a = some (.lst xs) := fun a xs ha e => aE.same a _ e fun z => I1.nf a z ha
    refine kk p ys H' fa' O1 (a1.trans aE) ⟨⟨I1.nd,SlR.go car1 sameO I1.sl,I1.fr,I1.st.trans ⟨fun b hb => (by cases hb),aE.fe,fun b u e _ n => aE.same b u e n,aE.mon⟩,I1.tr,I1.ff,?_,I1.nf_step aE.fe⟩,c.ls,SlR.go Hcar sameO I1.sl,c.fd,c.rs,c.nf⟩ (a1.mon p hp)
    exact c.fd.car (K := X.K) ⟨fun b xs n q => ⟨q,fun z => n (.inl z)⟩,fun _ _ q => q,fun _ _ q => q,fun _ q => q⟩ fun _ _ => rfl
 ·simp only [if_neg hz] at h2; cases h2
theorem a7G (k : CompOk X scope cl N' 1 idx) : ∀ σ H Q,liftF X.K g (D7 idx fi fc fe) σ H Q → X7 1 idx (liftI X.K g fi) (K7 0) (fun σ H Q => ∃ g',liftT X.K g' fc σ H Q) (fun σ H Q => ∃ g',liftE X.K g' fe σ H Q) σ H Q:=
 a6d (mk := fun sl d => some (.val d :: J9 idx sl)) fun N fa sl d sl0 x σ H Q hm rx hc kk => by
  cases hm
  refine kk _ ⟨by simp,fun j v hj => ?_⟩ ?_
  ·cases j with
   | zero => simp [B5] at hj
   | succ j => rw [List.getElem?_set_ne (by simp)]; exact hj
  ·have eb : (B5 1 idx σ).set 0 (some x) = some x :: idx.map fun i => (σ[i]?).join := by simp [B5]
   rw [eb]
   simp only [SlR]
   exact ⟨x,_,rfl,rx,hc⟩
theorem a3I (hc : X.calm = true) (k : CompOk X scope cl N' 1 idx) (hi : IO X g tg iter fi) (hg : ∀ C s0 H0 ex,PG (blk X N' scope cl C s0 H0 ex) tg (K7 0))
  (ht : ∀ C s0 H0 ex g',U7 (blk X N' scope cl C s0 H0 ex) g' ifs fc) (he : ∀ C s0 H0 ex g',EO (blk X N' scope cl C s0 H0 ex) g' elt fe) (hs : ∀ x,foldedSetIterable iter X.env x = pure x := by intro _; rfl) :
  FO X g (.ListComp elt [⟨tg,iter,ifs,0⟩] scope pos) (D7 idx fi fc fe):= by
 exact FO.w (a7h (tc := fun σ H Q => ∃ g',liftT X.K g' fc σ H Q) (te := fun σ H Q => ∃ g',liftE X.K g' fe σ H Q) hc k hi.pe hg (fun C s0 H0 ex pins s σ H Q I ⟨g',h⟩ => ht C s0 H0 ex g' pins s σ H Q I h) (fun C s0 H0 ex pins s σ H Q I ⟨g',h⟩ => (he C s0 H0 ex g').pe pins s σ H Q I h) hs) (a7G k)
end
end DL
namespace HT2
open PySem PyProof.Rows
theorem cat_tup0 {prog : Program} {w : World} {A : Around} {E : Value → Shared → Prop} {s : Shared} {t b : Addr} {ws : List Value} {Q : Value → Shared → Prop} (ht : IsTup s.heap t ([] : List Value).toArray) (hb : IsTup s.heap b ws.toArray)
  (h : Q (.ref b) s) : wpAny (model prog w) A (binaryOp .Add (.ref t) (.ref b)) Q E s:= by
 obtain ⟨⟨cls,dd,data,sl⟩,ho,hc,n,hd⟩ := id ht
 obtain ⟨⟨cls2,dd2,data2,sl2⟩,ho2,hc2,n2,hd2⟩ := id hb
 simp only at hc hd hc2 hd2
 subst hc hd hc2 hd2
 exact concat_meets ⟨_,ho,rfl⟩ ⟨_,ho2,rfl⟩ noFill_tuple_add seq_tuple_add PySem.F.slot_tuple_add PySem.F.entry_tuple_add (PySem.F.args_tuple_add_2 _ _)
  (tuple_addW0 t b _ ws.toArray n n2 dd dd2 sl sl2 (by simp)) ⟨ho,ho2,h⟩
end HT2
namespace DL
open PySem PySem.Spec L2
def v7 (i : Int) : Bool := decide (i.natAbs.log2 < 1000000)
theorem a5A {i : Int} (h : v7 i = true) : Builtin.Int.intBits i ≤ 2 ^ 20:= by
 have h1 : i.natAbs.log2 < 1000000 := of_decide_eq_true h
 unfold Builtin.Int.intBits
 split
 ·exact Nat.zero_le _
 ·have e : (2 : Nat) ^ 20 = 1048576 := by decide
  rw [e]; omega
def D8 (j : Int) : Bool := decide (j ≠ 0) && decide (j.natAbs.log2 < 9000)
section
variable {X : Cx}
theorem op_mulB : OpR X (binaryOp .Mult) (rI (fun i j => v7 i = true ∧ v7 j = true) fun i j => .int (i * j)) := opI fun _ _ _ _ _ _ _ hc q => PyProof.Rows.mul_int q (IntMulOk.of_bits (a5A hc.1) (a5A hc.2))
theorem T2 : OpR X (binaryOp .FloorDiv) (rI (fun _ j => D8 j = true) fun i j => .int (i.fdiv j)) := opI fun i j _ _ _ _ _ hc q => by
 have hc' : D8 j = true := hc
 unfold D8 at hc'
 rw [Bool.and_eq_true] at hc'
 exact PyProof.Rows.floordiv_int (of_decide_eq_true hc'.1) q (.inl (PyProof.noPylong_of_log2 (of_decide_eq_true hc'.2)))
def a5d (K : PySem.W.Frag) : R2 := fun x y H Q => ∃ a b ys,x = .ref a ∧ y = .ref b ∧ SqT K H a [] ∧ SqT K H b ys ∧ Q (.ref b) H
theorem op_catT0 : OpR X (binaryOp .Add) (a5d X.K):= by
 intro pins s σ H x y v u Q I rx ry h
 obtain ⟨a,b,ys,rfl,rfl,ha,hb,q⟩ := h
 cases rx
 cases ry
 obtain ⟨its,r1,ht,_⟩ := I.tuple ha
 obtain ⟨its2,r2,ht2,_⟩ := I.tuple hb
 cases r1
 exact HT2.cat_tup0 ht ht2 ⟨.ref b,H,I,rfl,q⟩
def a6D (K : PySem.W.Frag) : R2 := fun x y H Q => (rI0 (fun i j => .int (i + j)) x y H Q ∨ (∃ i j,x = .str i ∧ y = .str j ∧ i.length + j.length ≤ sizeLine ∧ Q (.str (i ++ j)) H)) ∨ ((a5d K x y H Q ∨ a7q K x y H Q) ∨ a1B x y H Q)
theorem D1 : OpR X (binaryOp .Add) (a6D X.K) := (op_add.or a8j).or ((op_catT0.or a8v).or U2)
def a62 : R2 := fun x y H Q => rI (fun i j => v7 i = true ∧ v7 j = true) (fun i j => .int (i * j)) x y H Q ∨ a3A x y H Q
theorem n9 : OpR X (binaryOp .Mult) a62 := op_mulB.or a1q
end
def t6 : D → D → Option D
 | .int i,.int j => some (.int (i + j))
 | .str x,.str y => if x.length + y.length ≤ sizeLine then some (.str (x ++ y)) else none
 | .tup xs,.tup ys => if xs.length + ys.length ≤ sizeLine then some (.tup (xs ++ ys)) else none
 | .lst xs,.lst ys => if xs.length + ys.length ≤ sizeLine then some (.lst (xs ++ ys)) else none
 | _,_ => none
def t9 : D → D → Option D
 | .int i,.int j => some (.int (i - j))
 | _,_ => none
def k6 : D → D → Option D
 | .int i,.int j => if v7 i && v7 j then some (.int (i * j)) else none
 | .lst xs,.int k => if -(2 ^ 63) ≤ k ∧ k < 2 ^ 63 ∧ xs.length * k.toNat ≤ sizeLine then some (.lst (List.replicate k.toNat xs).flatten) else none
 | _,_ => none
def F1 : D → D → Option D
 | .int i,.int j => if D8 j then some (.int (i.fdiv j)) else none
 | _,_ => none
def y7 : D → D → Option D
 | .int i,.int j => if j ≠ 0 then some (.int (i.fmod j)) else none
 | _,_ => none
def J4 : D → D → Option D
 | .int i,.int j => if 0 ≤ j ∧ j ≤ 1000000 ∧ i.natAbs < 2 ^ 64 then some (.int (i ^ j.toNat)) else none
 | _,_ => none
def l6 : D → Option D
 | .int i => some (.int (-i))
 | _ => none
def k0 (p : Int → Int → Bool) : D → D → Option D
 | .int i,.int j => some (.bl (p i j))
 | _,_ => none
def a0f : D → D → Option D
 | .non,.non => some (.bl false)
 | .feed,.non => none
 | .scr _,.non => none
 | _,.non => some (.bl true)
 | _,_ => none
theorem a7a {K : PySem.W.Frag} {N : Addr → Prop} {fa : Option Addr} {H : Hp} {ds : List D} {xs : List V} (r : Reps K N fa H ds xs) : xs = [] ↔ ds = []:= by
 have := r.length
 cases xs <;> cases ds <;> simp_all
theorem Reps.flat {K : PySem.W.Frag} {N : Addr → Prop} {fa : Option Addr} {H : Hp} {ds : List D} {xs : List V} (r : Reps K N fa H ds xs) : ∀ k : Nat,Reps K N fa H (List.replicate k ds).flatten (List.replicate k xs).flatten
 | 0 => by simp [Reps]
 | k + 1 => by
  simp only [List.replicate_succ,List.flatten_cons]
  exact Reps.append r (Reps.flat r k)
section
variable {K : PySem.W.Frag}
theorem D5 : R2D K (a6D K) t6:= by
 intro g σ H fa O s x y d1 d2 d Q I r1 r2 e k
 cases d1 with
 | int i=>
  cases d2 with
  | int j=>
   cases e
   simp only [RepB,Rep] at r1 r2
   exact .inl (.inl ⟨i,j,r1,r2,k _ H StE.refl I (by simp only [Rep])⟩)
  | _ => cases e
 | str a=>
  cases d2 with
  | str b=>
   have e : (if a.length + b.length ≤ sizeLine then some (D.str (a ++ b)) else none) = some d := e
   by_cases h : a.length + b.length ≤ sizeLine
   ·rw [if_pos h] at e
    cases e
    simp only [RepB,Rep] at r1 r2
    refine .inl (.inr ⟨a,b,r1.1,r2.1,h,k _ H StE.refl I ?_⟩)
    simp only [Rep]
    exact ⟨trivial,by rw [strLen_append]; exact h⟩
   ·rw [if_neg h] at e; cases e
  | _ => cases e
 | tup as=>
  cases d2 with
  | tup bs=>
   have e : (if as.length + bs.length ≤ sizeLine then some (D.tup (as ++ bs)) else none) = some d := e
   by_cases h : as.length + bs.length ≤ sizeLine
   ·rw [if_pos h] at e
    cases e
    simp only [RepB,Rep] at r1 r2
    obtain ⟨a,xs,rfl,qa,wa⟩ := r1
    obtain ⟨b,ys,rfl,qb,wb⟩ := r2
    by_cases hx : xs = []
    ·have ha := (a7a wa).mp hx
     subst hx; subst ha
     refine .inr (.inl (.inl ⟨a,b,ys,rfl,rfl,qa,qb,k _ H StE.refl I ?_⟩))
     simp only [Rep,List.nil_append]
     exact ⟨b,ys,rfl,qb,wb⟩
    ·refine .inr (.inl (.inr ⟨a,b,xs,ys,rfl,rfl,qa,qb,hx,by rw [wa.length,wb.length]; exact h,fun hy => ?_,fun hy p hp => ?_⟩))
     ·have hb := (a7a wb).mp hy
      subst hy; subst hb
      refine k _ H StE.refl I ?_
      simp only [Rep,List.append_nil]
      exact ⟨a,xs,rfl,qa,wa⟩
     ·have a2 : StE fa O H fa O (upd H p (.tup (xs ++ ys))) := C2 hp
      refine k _ _ a2 (I.new hp) ?_
      simp only [Rep]
      exact ⟨p,_,rfl,SqT.of A9,Reps.stp I a2.stp (Reps.append wa wb)⟩
   ·rw [if_neg h] at e; cases e
  | _ => cases e
 | lst as=>
  cases d2 with
  | lst bs=>
   have e : (if as.length + bs.length ≤ sizeLine then some (D.lst (as ++ bs)) else none) = some d := e
   by_cases h : as.length + bs.length ≤ sizeLine
   ·rw [if_pos h] at e
    cases e
    obtain ⟨a,xs,rfl,_,qa,wa⟩ := r1
    obtain ⟨b,ys,rfl,_,qb,wb⟩ := r2
    refine .inr (.inr ⟨a,b,xs,ys,rfl,rfl,qa,qb,by rw [wa.length,wb.length]; exact h,fun p hp => ?_⟩)
    have a2 : StE fa O H fa O (upd H p (.lst (xs ++ ys))) := C2 hp
    have L := O8 I hp (Reps.append wa wb)
    refine k _ _ a2 L.gi ?_
    simp only [Rep]
    exact ⟨p,_,rfl,a1o I a2 L.gi hp L.nf,A9,Reps.stp I a2.stp (Reps.append wa wb)⟩
   ·rw [if_neg h] at e; cases e
  | _ => cases e
 | _ => cases e
def L0 : D → D → Option (List D)
 | .lst xs,.lst ys => if xs.length + ys.length ≤ sizeLine then some (xs ++ ys) else none
 | _,_ => none
theorem W8 : R2F K a1B L0:= by
 intro g σ H fa O s x y d1 d2 ds Q I r1 r2 e k
 cases d1 with
 | lst as=>
  cases d2 with
  | lst bs=>
   simp only [L0] at e
   by_cases h : as.length + bs.length ≤ sizeLine
   ·rw [if_pos h] at e
    cases e
    obtain ⟨a,xs,rfl,_,qa,wa⟩ := r1
    obtain ⟨b,ys,rfl,_,qb,wb⟩ := r2
    refine ⟨a,b,xs,ys,rfl,rfl,qa,qb,by rw [wa.length,wb.length]; exact h,fun p hp => ?_⟩
    exact k p _ _ (C2 hp) (O8 I hp (Reps.append wa wb)) hp
   ·rw [if_neg h] at e; cases e
  | _ => cases e
 | _ => cases e
def O6 : D → D → Option (List D)
 | .lst xs,.int k => if -(2 ^ 63) ≤ k ∧ k < 2 ^ 63 ∧ xs.length * k.toNat ≤ sizeLine then some (List.replicate k.toNat xs).flatten else none
 | _,_ => none
theorem a3O : R2F K a3A O6:= by
 intro g σ H fa O s x y d1 d2 ds Q I r1 r2 e k
 cases d1 with
 | lst as=>
  cases d2 with
  | int j=>
   simp only [O6] at e
   by_cases h : -(2 ^ 63) ≤ j ∧ j < 2 ^ 63 ∧ as.length * j.toNat ≤ sizeLine
   ·rw [if_pos h] at e
    cases e
    obtain ⟨a,xs,rfl,_,qa,wa⟩ := r1
    simp only [RepB,Rep] at r2
    subst r2
    refine ⟨a,j,xs,rfl,rfl,qa,h.1,h.2.1,by rw [wa.length]; exact h.2.2,fun p hp => ?_⟩
    exact k p _ _ (C2 hp) (O8 I hp (wa.flat _)) hp
   ·rw [if_neg h] at e; cases e
  | _ => cases e
 | _ => cases e
theorem a32 {C : Int → Int → Prop} {f : Int → Int → D} {f' : Int → Int → V} {p : D → D → Option D} (hp : ∀ d1 d2 d,p d1 d2 = some d → ∃ i j,d1 = .int i ∧ d2 = .int j ∧ C i j ∧ d = f i j) (hf : ∀ N fa H i j,Rep K N fa H (f i j) (f' i j)) : R2D K (rI C f') p:= by
 intro g σ H fa O s x y d1 d2 d Q I r1 r2 e k
 obtain ⟨i,j,rfl,rfl,c,rfl⟩ := hp d1 d2 d e
 simp only [RepB,Rep] at r1 r2
 exact ⟨i,j,r1,r2,c,k _ H StE.refl I (hf _ _ _ _ _)⟩
theorem a7l {f : Int → Int → D} {f' : Int → Int → V} {p : D → D → Option D} (hp : ∀ d1 d2 d,p d1 d2 = some d → ∃ i j,d1 = .int i ∧ d2 = .int j ∧ d = f i j) (hf : ∀ N fa H i j,Rep K N fa H (f i j) (f' i j)) : R2D K (rI0 f') p:= by
 intro g σ H fa O s x y d1 d2 d Q I r1 r2 e k
 obtain ⟨i,j,rfl,rfl,rfl⟩ := hp d1 d2 d e
 simp only [RepB,Rep] at r1 r2
 exact ⟨i,j,r1,r2,k _ H StE.refl I (hf _ _ _ _ _)⟩
def a3a (F : Int → Int → Option D) : D → D → Option D
 | .int i,.int j => F i j
 | _,_ => none
theorem a4W {F : Int → Int → Option D} {d1 d2 d : D} (e : a3a F d1 d2 = some d) : ∃ i j,d1 = .int i ∧ d2 = .int j ∧ F i j = some d:= by
 cases d1 with
 | int i=>
  cases d2 with
  | int j => exact ⟨i,j,rfl,rfl,e⟩
  | _ => cases e
 | _ => cases e
theorem a1S {C : Int → Int → Prop} [∀ i j,Decidable (C i j)] {f : Int → Int → D} {d1 d2 d : D} (e : a3a (fun i j => if C i j then some (f i j) else none) d1 d2 = some d) : ∃ i j,d1 = .int i ∧ d2 = .int j ∧ C i j ∧ d = f i j:= by
 obtain ⟨i,j,h1,h2,h3⟩ := a4W e
 by_cases h : C i j
 ·have h3 : (if C i j then some (f i j) else none) = some d := h3
  rw [if_pos h] at h3
  exact ⟨i,j,h1,h2,h,(Option.some.inj h3).symm⟩
 ·have h3 : (if C i j then some (f i j) else none) = some d := h3
  rw [if_neg h] at h3
  cases h3
theorem a54 {f : Int → Int → D} {d1 d2 d : D} (e : a3a (fun i j => some (f i j)) d1 d2 = some d) : ∃ i j,d1 = .int i ∧ d2 = .int j ∧ d = f i j:= by
 obtain ⟨i,j,h1,h2,h3⟩ := a4W e
 exact ⟨i,j,h1,h2,(Option.some.inj h3).symm⟩
theorem E6 : R2D K (rI0 fun i j => .int (i - j)) t9 := a7l (f := fun i j => .int (i - j)) (fun d1 d2 d e => a54 (f := fun i j => .int (i - j)) e) fun _ _ _ _ _ => by simp only [Rep]
theorem B8 (p : Int → Int → Bool) : R2D K (rI0 fun i j => .bl (p i j)) (k0 p) := a7l (f := fun i j => .bl (p i j)) (fun d1 d2 d e => a54 (f := fun i j => .bl (p i j)) e) fun _ _ _ _ _ => by simp only [Rep]
theorem o0 : R2D K a62 k6:= by
 intro g σ H fa O s x y d1 d2 d Q I r1 r2 e k
 cases d1 with
 | int i=>
  cases d2 with
  | int j=>
   have e : (if v7 i && v7 j then some (D.int (i * j)) else none) = some d := e
   by_cases h : (v7 i && v7 j) = true
   ·rw [if_pos h] at e
    cases e
    rw [Bool.and_eq_true] at h
    simp only [RepB,Rep] at r1 r2
    exact .inl ⟨i,j,r1,r2,h,k _ H StE.refl I (by simp only [Rep])⟩
   ·rw [if_neg h] at e; cases e
  | _ => cases e
 | lst as=>
  cases d2 with
  | int j=>
   simp only [k6] at e
   by_cases h : -(2 ^ 63) ≤ j ∧ j < 2 ^ 63 ∧ as.length * j.toNat ≤ sizeLine
   ·rw [if_pos h] at e
    cases e
    obtain ⟨a,xs,rfl,_,qa,wa⟩ := r1
    simp only [RepB,Rep] at r2
    subst r2
    refine .inr ⟨a,j,xs,rfl,rfl,qa,h.1,h.2.1,by rw [wa.length]; exact h.2.2,fun p hp => ?_⟩
    have a2 : StE fa O H fa O (upd H p (.lst (List.replicate j.toNat xs).flatten)) := C2 hp
    have L := O8 I hp (wa.flat j.toNat)
    refine k _ _ a2 L.gi ?_
    simp only [Rep]
    exact ⟨p,_,rfl,a1o I a2 L.gi hp L.nf,A9,Reps.stp I a2.stp (wa.flat j.toNat)⟩
   ·rw [if_neg h] at e; cases e
  | _ => cases e
 | _ => cases e
theorem T9 : R2D K (rI (fun _ j => D8 j = true) fun i j => .int (i.fdiv j)) F1 := a32 (f := fun i j => .int (i.fdiv j)) (fun d1 d2 d e => a1S (C := fun _ j => D8 j = true) (f := fun i j => .int (i.fdiv j)) e) fun _ _ _ _ _ => by simp only [Rep]
theorem K1 : R2D K (rI (fun _ j => j ≠ 0) fun i j => .int (i.fmod j)) y7 := a32 (f := fun i j => .int (i.fmod j)) (fun d1 d2 d e => a1S (C := fun _ j => j ≠ 0) (f := fun i j => .int (i.fmod j)) e) fun _ _ _ _ _ => by simp only [Rep]
theorem a0J : R2D K (rI a5s fun i j => .int (i ^ j.toNat)) J4 := a32 (f := fun i j => .int (i ^ j.toNat)) (fun d1 d2 d e => a1S (C := fun i j => 0 ≤ j ∧ j ≤ 1000000 ∧ i.natAbs < 2 ^ 64) (f := fun i j => .int (i ^ j.toNat)) e) fun _ _ _ _ _ => by simp only [Rep]
theorem A4 : R1D K (rU fun i => .int (-i)) l6:= by
 intro g σ H fa O s x d1 d Q I r1 e k
 cases d1 with
 | int i => cases e; simp only [RepB,Rep] at r1; exact ⟨i,r1,k _ H StE.refl I (by simp only [Rep])⟩
 | _ => cases e
def a5K : D → Bool
 | .non => true
 | _ => false
theorem a9K {N : Addr → Prop} {fa : Option Addr} {H : Hp} {d : D} {x : V} (r : RepB K N fa H d x) : decide (x = .non) = a5K d:= by
 cases d with
 | non => simp only [RepB,Rep] at r; subst r; rfl
 | bl b => simp only [RepB,Rep] at r; subst r; rfl
 | int i => simp only [RepB,Rep] at r; subst r; rfl
 | str x => simp only [RepB,Rep] at r; obtain ⟨r,_⟩ := r; subst r; rfl
 | tup ds => simp only [RepB,Rep] at r; obtain ⟨a,xs,rfl,_⟩ := r; rfl
 | lst ds => obtain ⟨a,xs,rfl,_⟩ := r; rfl
 | feed => simp only [RepB,Rep] at r; obtain ⟨a,_,rfl⟩ := r; rfl
 | scr ns => simp only [RepB,Rep] at r; obtain ⟨_,a,rfl,_⟩ := r; rfl
theorem a5x : R2D K (fun x y H Q => y = .non ∧ Q (.bl (!decide (x = .non))) H) a0f:= by
 intro g σ H fa O s x y d1 d2 d Q I r1 r2 e k
 have h2 : d2 = .non := by cases d1 <;> cases d2 <;> first | rfl | cases e
 subst h2
 simp only [RepB,Rep] at r2
 refine ⟨r2,k _ H StE.refl I ?_⟩
 rw [a9K r1]
 cases d1 <;> first | (cases e; simp [Rep,a5K]; done) | cases e
end
section
variable {X : Cx} {pins : List (Addr × Obj)} {σ : L2.St} {H : Hp} {s : Shared} {N : Addr → Prop} {fa : Option Addr}
mutual
theorem Q9 (I : Inv X pins σ H s) : ∀ (d : D) (v : V) (u : Value),K4 X.K N fa H d v → RelV v u → d.plain = true → ∃ as,Reads s.heap u d.py as
 | .non,v,u,r,ru,_ => by
  simp only [K4,Rep] at r; subst r; cases ru
  simp only [D.py]; exact ⟨[],.none⟩
 | .bl b,v,u,r,ru,_ => by
  simp only [K4,Rep] at r; subst r; cases ru
  simp only [D.py]; exact ⟨[],.bool b⟩
 | .int i,v,u,r,ru,_ => by
  simp only [K4,Rep] at r; subst r
  obtain ⟨t,rfl⟩ := ru
  simp only [D.py]; exact ⟨[],.int i t⟩
 | .str x,v,u,r,ru,_ => by
  simp only [K4,Rep] at r; obtain ⟨r,_⟩ := r; subst r
  obtain ⟨t,rfl⟩ := ru
  simp only [D.py]; exact ⟨[],.str x t⟩
 | .tup ds,v,u,r,ru,hp => by
  simp only [K4,Rep] at r
  obtain ⟨a,xs,rfl,q,w⟩ := r
  cases ru
  obtain ⟨its,rv,⟨o,h1,h2,n,h3⟩,_⟩ := I.tuple q
  obtain ⟨as,ra⟩ := a3p I ds xs its w rv (by simpa only [D.plain] using hp)
  simp only [D.py]
  exact ⟨as,.tuple h1 h2 h3 (by simpa using ra)⟩
 | .lst ds,v,u,r,ru,hp => by
  obtain ⟨a,xs,rfl,q,w⟩ := r
  cases ru
  obtain ⟨its,rv,⟨o,n,h1,h2,h3,h4⟩,_⟩ := I.list (SqL.of q)
  obtain ⟨as,ra⟩ := a3p I ds xs its w rv (by simpa only [D.plain] using hp)
  simp only [D.py]
  exact ⟨_,.list h1 h2 h4 (by simpa using ra)⟩
 | .feed,v,u,r,ru,hp => by simp only [D.plain] at hp; cases hp
 | .scr _,v,u,r,ru,hp => by simp only [D.plain] at hp; cases hp
theorem a3p (I : Inv X pins σ H s) : ∀ (ds : List D) (xs : List V) (us : List Value),Reps X.K N fa H ds xs → Vals xs us → D.plains ds = true → ∃ as,ReadsAll s.heap us (D.pys ds) as
 | [],xs,us,r,ru,_ => by
  simp only [Reps] at r; subst r; cases ru
  simp only [D.pys]; exact ⟨[],.nil⟩
 | d :: ds,xs,us,r,ru,hp => by
  simp only [Reps] at r
  obtain ⟨x,ys,rfl,r1,r2⟩ := r
  cases ru with
  | cons q qs=>
   simp only [D.plains,Bool.and_eq_true] at hp
   obtain ⟨as,h1⟩ := Q9 I d x _ r1.o q hp.1
   obtain ⟨bs,h2⟩ := a3p I ds ys _ r2 qs hp.2
   simp only [D.pys]; exact ⟨_,.cons h1 h2⟩
end
end
def u7 (d : D) : Bool := d.plain && SeqAt.shaped d.py
def pEq (d1 d2 : D) : Option D := match d1,d2 with
 | .str x,.str y => some (.bl (decide (x = y)))
 | d1,d2 => if u7 d1 && u7 d2 then some (.bl (PyData.eqv d1.py d2.py)) else none
def pNe (d1 d2 : D) : Option D := match d1,d2 with
 | .str x,.str y => some (.bl (!decide (x = y)))
 | d1,d2 => if u7 d1 && u7 d2 then some (.bl (!PyData.eqv d1.py d2.py)) else none
def W0 (K : PySem.W.Frag) (f : Bool → Bool) : R2 := fun x y H Q => ∃ N fa d1 d2,RepB K N fa H d1 x ∧ RepB K N fa H d2 y ∧ u7 d1 = true ∧ u7 d2 = true ∧ Q (.bl (f (PyData.eqv d1.py d2.py))) H
section
variable {X : Cx} {K : PySem.W.Frag}
theorem a9n (hu : X.A.units + 64 < cLine) : OpR X (compareOp .Eq) (W0 X.K id):= by
 intro pins s σ H x y v u Q I rx ry h
 obtain ⟨N,fa,d1,d2,r1,r2,o1,o2,q⟩ := h
 unfold u7 at o1 o2
 rw [Bool.and_eq_true] at o1 o2
 obtain ⟨as,h1⟩ := Q9 I d1 x v r1.o rx o1.1
 obtain ⟨bs,h2⟩ := Q9 I d2 y u r2.o ry o2.1
 exact PyProof.Rows.eq_dataH h1 h2 o1.2 o2.2 hu ⟨.bl _,H,I,rfl,q⟩
theorem b0O (hu : X.A.units + 64 < cLine) : OpR X (compareOp .NotEq) (W0 X.K not):= by
 intro pins s σ H x y v u Q I rx ry h
 obtain ⟨N,fa,d1,d2,r1,r2,o1,o2,q⟩ := h
 unfold u7 at o1 o2
 rw [Bool.and_eq_true] at o1 o2
 obtain ⟨as,h1⟩ := Q9 I d1 x v r1.o rx o1.1
 obtain ⟨bs,h2⟩ := Q9 I d2 y u r2.o ry o2.1
 exact PyProof.Rows.ne_dataH h1 h2 o1.2 o2.2 hu ⟨.bl _,H,I,rfl,q⟩
theorem C1 (hu : X.A.units + 64 < cLine) : OpR X (compareOp .Eq) (fun x y H Q => rEq x y H Q ∨ W0 X.K id x y H Q) := op_eq.or (a9n hu)
theorem U8 (hu : X.A.units + 64 < cLine) : OpR X (compareOp .NotEq) (fun x y H Q => rNe x y H Q ∨ W0 X.K not x y H Q) := op_ne.or (b0O hu)
theorem a9C {d1 d2 d : D} (h : pEq d1 d2 = some d) : (∃ x y,d1 = .str x ∧ d2 = .str y ∧ d = .bl (decide (x = y))) ∨ (u7 d1 = true ∧ u7 d2 = true ∧ d = .bl (PyData.eqv d1.py d2.py)):= by
 unfold pEq at h
 split at h
 ·cases h; exact .inl ⟨_,_,rfl,rfl,rfl⟩
 ·split at h
  ·rename_i q
   rw [Bool.and_eq_true] at q
   cases h; exact .inr ⟨q.1,q.2,rfl⟩
  ·cases h
theorem a8E {d1 d2 d : D} (h : pNe d1 d2 = some d) : (∃ x y,d1 = .str x ∧ d2 = .str y ∧ d = .bl (!decide (x = y))) ∨ (u7 d1 = true ∧ u7 d2 = true ∧ d = .bl (!PyData.eqv d1.py d2.py)):= by
 unfold pNe at h
 split at h
 ·cases h; exact .inl ⟨_,_,rfl,rfl,rfl⟩
 ·split at h
  ·rename_i q
   rw [Bool.and_eq_true] at q
   cases h; exact .inr ⟨q.1,q.2,rfl⟩
  ·cases h
theorem a49 (x y : Str) : decide (V.str x = V.str y) = decide (x = y):= by
 by_cases h : x = y
 ·subst h; simp
 ·rw [decide_eq_false h,decide_eq_false fun z => h (V.str.inj z)]
theorem C4 : R2D K (fun x y H Q => rEq x y H Q ∨ W0 K id x y H Q) pEq:= by
 intro g σ H fa O s x y d1 d2 d Q I r1 r2 e k
 rcases a9C e with ⟨a,b,rfl,rfl,rfl⟩ | ⟨h1,h2,rfl⟩
 ·simp only [RepB,Rep] at r1 r2
  obtain ⟨rfl,_⟩ := r1
  obtain ⟨rfl,_⟩ := r2
  exact .inl ⟨rfl,k _ H StE.refl I (by simp only [Rep,a49])⟩
 ·exact .inr ⟨_,_,d1,d2,r1,r2,h1,h2,k _ H StE.refl I (by simp only [Rep,id])⟩
theorem X3 : R2D K (fun x y H Q => rNe x y H Q ∨ W0 K not x y H Q) pNe:= by
 intro g σ H fa O s x y d1 d2 d Q I r1 r2 e k
 rcases a8E e with ⟨a,b,rfl,rfl,rfl⟩ | ⟨h1,h2,rfl⟩
 ·simp only [RepB,Rep] at r1 r2
  obtain ⟨rfl,_⟩ := r1
  obtain ⟨rfl,_⟩ := r2
  exact .inl ⟨rfl,k _ H StE.refl I (by simp only [Rep,a49])⟩
 ·exact .inr ⟨_,_,d1,d2,r1,r2,h1,h2,k _ H StE.refl I (by simp only [Rep])⟩
def pIx : D → D → Option D
 | .tup ds,.int i => atI ds i
 | .lst ds,.int i => atI ds i
 | _,_ => none
theorem a5C {N : Addr → Prop} {fa : Option Addr} {H : Hp} {ds : List D} {xs : List V} {i : Int} {d : D} (r : Reps K N fa H ds xs) (h : atI ds i = some d) : ∃ v,atI xs i = some v ∧ Rep K N fa H d v:= by
 unfold atI at h ⊢
 rw [r.length]
 cases e : ixN ds.length i with
 | none => rw [e] at h; cases h
 | some j=>
  rw [e] at h
  simp only [Option.bind_some] at h ⊢
  exact Reps.get r h
theorem c8 : R2D K (fun x y H Q => a1z K x y H Q ∨ a4l K x y H Q) pIx:= by
 intro g σ H fa O s x y d1 d2 d Q I r1 r2 e k
 cases d1 with
 | tup ds=>
  cases d2 with
  | int i=>
   simp only [RepB,Rep] at r1 r2
   obtain ⟨a,xs,rfl,q,w⟩ := r1
   obtain ⟨v,hv,rv⟩ := a5C w (show atI ds i = some d from e)
   exact .inr ⟨a,xs,i,v,rfl,r2,q,hv,k v H StE.refl I rv⟩
  | _ => cases e
 | lst ds=>
  cases d2 with
  | int i=>
   obtain ⟨a,xs,rfl,_,q,w⟩ := r1
   simp only [RepB,Rep] at r2
   obtain ⟨v,hv,rv⟩ := a5C w (show atI ds i = some d from e)
   exact .inl ⟨a,xs,i,v,rfl,r2,SqL.of q,hv,k v H StE.refl I rv⟩
  | _ => cases e
 | _ => cases e
theorem c7 : IxR X (fun x y H Q => a1z X.K x y H Q ∨ a4l X.K x y H Q) := ix_list.or b2E
end
def dCB (p : List D → Option D) (f : DA) : DE := fun s => (f s).bind fun x => (p x.1).map fun d => (d,x.2)
def dCF (p : List D → Option (List D)) (f : DA) : DA := fun s => (f s).bind fun x => (p x.1).map fun d => (d,x.2)
section
variable {X : Cx} {g : Gh} {x : Str} {p pos : Pos} {e : Expr} {es : List Expr} {t : DA} {id T : String} {r : List V → Hp → VK → Prop} {pr : List D → Option D} {pf : List D → Option (List D)}
theorem a4Z (hr : RCD X.K r pr) (σ : L2.St) (H : Hp) (Q : VK) (h : liftE X.K g (dCB pr t) σ H Q) : tCB r (liftBA X.K g t) σ H Q:= by
 obtain ⟨f0,O,s,d,s',I,e,k⟩ := h
 refine p8 e fun ds s1 h1 h => ?_
 refine J8 h fun d' h3 h => ?_
 simp only [Prod.mk.injEq] at h
 obtain ⟨e1,e2⟩ := h
 subst e1; subst e2
 exact ⟨f0,O,s,ds,s1,I,h1,fun vs H1 f1 O1 a1 I1 r1 => hr g σ H1 f1 O1 s1 vs ds d' Q I1 r1 h3 fun z H3 a3 I3 r3 => k z H3 f1 O1 (a1.trans a3) I3 r3⟩
theorem a6a (hr : RCF X.K r pf) (σ : L2.St) (H : Hp) (Q : VK) (h : liftF X.K g (dCF pf t) σ H Q) : tCB r (liftBA X.K g t) σ H Q:= by
 obtain ⟨f0,O,s,d,s',I,e,k⟩ := h
 refine p8 e fun ds s1 h1 h => ?_
 refine J8 h fun d' h3 h => ?_
 simp only [Prod.mk.injEq] at h
 obtain ⟨e1,e2⟩ := h
 subst e1; subst e2
 exact ⟨f0,O,s,ds,s1,I,h1,fun vs H1 f1 O1 a1 I1 r1 => hr g σ H1 f1 O1 s1 vs ds d' Q I1 r1 h3 fun q ys H3 a3 L e3 => k q ys H3 f1 O1 (a1.trans a3) L (a1.mon _ e3)⟩
theorem B6 (hc : CallR X (.builtin id) r) (hr : RCD X.K r pr) (hg : Gl X x) (hm : X.mg x = none) (hv : bootBuiltins x = some (.builtin id)) (ha : BAO X g (e :: es) t) (hn : x ≠ "__name__" := by decide) (hdb : (x == ("__debug__" : Str)) = false := by decide)
  (he : starEach (e :: es) X.env = (false,eval e X.env) :: starEach es X.env := by rfl) (hpl : (backTo pos (starEach es X.env)).any (·.1) = false := by rfl) : EO X g (.Call (.Name x p) (e :: es) [] pos) (dCB pr t):=
 EO.w (b0t hc hg hm hv ha.pe hn hdb he hpl) (a4Z hr)
theorem N8 (hc : CallR X (.type T) r) (hr : RCD X.K r pr) (hg : Gl X x) (hm : X.mg x = none) (hv : bootBuiltins x = some (.type T)) (ha : BAO X g (e :: es) t) (hn : x ≠ "__name__" := by decide) (hdb : (x == ("__debug__" : Str)) = false := by decide)
  (he : starEach (e :: es) X.env = (false,eval e X.env) :: starEach es X.env := by rfl) (hpl : (backTo pos (starEach es X.env)).any (·.1) = false := by rfl) : EO X g (.Call (.Name x p) (e :: es) [] pos) (dCB pr t):=
 EO.w (a6C hc hg hm hv ha.pe hn hdb he hpl) (a4Z hr)
theorem b2O (hc : CallR X (.type T) r) (hr : RCF X.K r pf) (hg : Gl X x) (hm : X.mg x = none) (hv : bootBuiltins x = some (.type T)) (ha : BAO X g (e :: es) t) (hn : x ≠ "__name__" := by decide) (hdb : (x == ("__debug__" : Str)) = false := by decide)
  (he : starEach (e :: es) X.env = (false,eval e X.env) :: starEach es X.env := by rfl) (hpl : (backTo pos (starEach es X.env)).any (·.1) = false := by rfl) : FO X g (.Call (.Name x p) (e :: es) [] pos) (dCF pf t):=
 FO.w (a6C hc hg hm hv ha.pe hn hdb he hpl) (a6a hr)
end
theorem a4m {K : PySem.W.Frag} {N : Addr → Prop} {fa : Option Addr} {H : Hp} {d : D} {xs : List V} (r : P2 K N fa H [d] xs) : ∃ x,xs = [x] ∧ RepB K N fa H d x:= by
 obtain ⟨x,ys,rfl,r1,r2⟩ := r
 simp only [P2] at r2; subst r2
 exact ⟨x,rfl,r1⟩
def one {α : Type} (p : D → Option α) : List D → Option α
 | [d] => p d
 | _ => none
theorem a5H {α : Type} {p : D → Option α} {ds : List D} {a : α} (h : one p ds = some a) : ∃ d,ds = [d] ∧ p d = some a:= by
 cases ds with
 | nil => cases h
 | cons d r=>
  cases r with
  | nil => exact ⟨d,rfl,h⟩
  | cons _ _ => cases h
def k9 : D → Option D
 | .tup ds => some (.int (ds.length : Nat))
 | .lst ds => some (.int (ds.length : Nat))
 | .str x => some (.int (x.length : Nat))
 | _ => none
def S0 : D → Option D
 | .int i => some (.int (if i < 0 then -i else i))
 | _ => none
def N5 : D → Option D
 | .int i => some (.int i)
 | .bl b => some (.int (if b then 1 else 0))
 | _ => none
def J5 : D → Option D
 | .tup ds => some (.tup ds)
 | .lst ds => some (.tup ds)
 | _ => none
def a66 : D → Option (List D)
 | .tup ds => some ds
 | .lst ds => some ds
 | _ => none
def R5 (d : D) : Bool := d.plain && d.py.showable && d.py.canLay0 && decide (d.py.depth ≤ 64) && decide (d.py.shown.length ≤ sizeLine)
def P7 (d : D) : Option D := if R5 d then some (.str d.py.shown) else none
section
variable {X : Cx} {K : PySem.W.Frag}
theorem D6 : CallR X (.builtin "len") (fun xs H Q => (∃ p ys,xs = [.ref p] ∧ (SqL X.K H p ys ∨ SqT X.K H p ys) ∧ Q (.int ys.length) H) ∨ (∃ z,xs = [.str z] ∧ z.length ≤ sizeLine ∧ Q (.int z.length) H)) := call_len_seq.or a8S
theorem rc1 {r : List V → Hp → VK → Prop} {p : D → Option D} (h : ∀ (g : Gh) (σ : L2.St) (H : Hp) (fa : Option Addr) (O : List Addr) (s : DS) (x : V) (d1 d : D) (Q : VK),GI K g σ H fa O s → RepB K (NN g.F fa O) fa H d1 x → p d1 = some d →
  (∀ v H',StE fa O H fa O H' → GI K g σ H' fa O s → Rep K (NN g.F fa O) fa H' d v → Q v H') → r [x] H Q) : RCD K r (one p):= by
 intro g σ H fa O s xs ds d Q I rs e k
 obtain ⟨d1,rfl,e1⟩ := a5H e
 obtain ⟨x,rfl,rx⟩ := a4m rs
 exact h g σ H fa O s x d1 d Q I rx e1 k
theorem E1 : RCD K (fun xs H Q => (∃ p ys,xs = [.ref p] ∧ (SqL K H p ys ∨ SqT K H p ys) ∧ Q (.int ys.length) H) ∨ (∃ z,xs = [.str z] ∧ z.length ≤ sizeLine ∧ Q (.int z.length) H)) (one k9) := rc1 fun g σ H fa O s x d1 d Q I r e k => by
 cases d1 with
 | tup es=>
  cases e
  simp only [RepB,Rep] at r
  obtain ⟨a,ys,rfl,q,w⟩ := r
  exact .inl ⟨a,ys,rfl,.inr q,k _ H StE.refl I (by rw [w.length]; simp only [Rep])⟩
 | lst es=>
  cases e
  obtain ⟨a,ys,rfl,_,q,w⟩ := r
  exact .inl ⟨a,ys,rfl,.inl (SqL.of q),k _ H StE.refl I (by rw [w.length]; simp only [Rep])⟩
 | str z=>
  cases e
  simp only [RepB,Rep] at r
  obtain ⟨rfl,l⟩ := r
  exact .inr ⟨z,rfl,l,k _ H StE.refl I (by simp only [Rep])⟩
 | _ => cases e
theorem a08 : RCD K (fun xs H Q => ∃ i,xs = [.int i] ∧ Q (.int (if i < 0 then -i else i)) H) (one S0) := rc1 fun g σ H fa O s x d1 d Q I r e k => by
 cases d1 with
 | int i=>
  cases e
  simp only [RepB,Rep] at r
  subst r
  exact ⟨i,rfl,k _ H StE.refl I (by simp only [Rep])⟩
 | _ => cases e
theorem a4g : RCD K (fun xs H Q => (∃ i,xs = [.int i] ∧ Q (.int i) H) ∨ ∃ k,xs = [.bl k] ∧ Q (.int (if k then 1 else 0)) H) (one N5) := rc1 fun g σ H fa O s x d1 d Q I r e k => by
 cases d1 with
 | int i=>
  cases e
  simp only [RepB,Rep] at r
  subst r
  exact .inl ⟨i,rfl,k _ H StE.refl I (by simp only [Rep])⟩
 | bl b=>
  cases e
  simp only [RepB,Rep] at r
  subst r
  exact .inr ⟨b,rfl,k _ H StE.refl I (by simp only [Rep])⟩
 | _ => cases e
theorem V8 : RCD K (fun xs H Q => ∃ p ys,xs = [.ref p] ∧ ((SqL K H p ys ∧ ∀ l,H l = none → Q (.ref l) (upd H l (.tup ys))) ∨ (SqT K H p ys ∧ Q (.ref p) H))) (one J5) := rc1 fun g σ H fa O s x d1 d Q I r e k => by
 cases d1 with
 | tup es=>
  cases e
  simp only [RepB,Rep] at r
  obtain ⟨a,ys,rfl,q,w⟩ := r
  exact ⟨a,ys,rfl,.inr ⟨q,k _ H StE.refl I (by simp only [Rep]; exact ⟨a,ys,rfl,q,w⟩)⟩⟩
 | lst es=>
  cases e
  obtain ⟨a,ys,rfl,_,q,w⟩ := r
  refine ⟨a,ys,rfl,.inl ⟨SqL.of q,fun p hp => ?_⟩⟩
  have a2 : StE fa O H fa O (upd H p (.tup ys)) := C2 hp
  refine k _ _ a2 (I.new hp) ?_
  simp only [Rep]
  exact ⟨p,ys,rfl,SqT.of A9,Reps.stp I a2.stp w⟩
 | _ => cases e
theorem a91 : RCF K (fun xs H Q => ∃ p ys,xs = [.ref p] ∧ (SqL K H p ys ∨ SqT K H p ys) ∧ ∀ l,H l = none → Q (.ref l) (upd H l (.lst ys))) (one a66):= by
 intro g σ H fa O s xs ds es Q I rs e k
 obtain ⟨d1,rfl,e1⟩ := a5H e
 obtain ⟨x,rfl,r⟩ := a4m rs
 cases d1 with
 | tup es'=>
  cases e1
  simp only [RepB,Rep] at r
  obtain ⟨a,ys,rfl,q,w⟩ := r
  exact ⟨a,ys,rfl,.inr q,fun p hp => k p ys _ (C2 hp) (O8 I hp w) hp⟩
 | lst es'=>
  cases e1
  obtain ⟨a,ys,rfl,_,q,w⟩ := r
  exact ⟨a,ys,rfl,.inl (SqL.of q),fun p hp => k p ys _ (C2 hp) (O8 I hp w) hp⟩
 | _ => cases e1
def a4O (K : PySem.W.Frag) : List V → Hp → VK → Prop := fun xs H Q => ∃ N fa d x,xs = [x] ∧ RepB K N fa H d x ∧ R5 d = true ∧ Q (.str d.py.shown) H
theorem a5b (hu : X.A.units + 66 < cLine) (hg : X.A.guards = some []) : CallR X (.builtin "repr") (a4O X.K):= by
 intro pins s σ H xs us Q I r h
 obtain ⟨N,fa,d,x,rfl,rx,ok,q⟩ := h
 obtain ⟨u,rfl,ru⟩ := R3 r
 unfold R5 at ok
 simp only [Bool.and_eq_true,decide_eq_true_eq] at ok
 obtain ⟨⟨⟨⟨hp,hs⟩,hl⟩,hd⟩,hz⟩ := ok
 obtain ⟨as,ra⟩ := Q9 I d x u rx.o ru hp
 have fin : ∀ (h' : Heap) (tk : Nat) (t : Tok),(∀ b o,s.heap.get? b = some o → h'.get? b = some o) → EP X pins σ Q (.str d.py.shown t) { s with heap := h',toks := tk } := fun h' tk t hk => ⟨.str d.py.shown,H,I.kept hk,⟨t,rfl⟩,q⟩
 cases d with
 | non=>
  simp only [RepB,Rep] at rx; subst rx; cases ru
  exact P.repr_of_none (fin s.heap _ _ fun _ _ e => e)
 | bl b=>
  simp only [RepB,Rep] at rx; subst rx; cases ru
  have := fin s.heap (s.toks + 1) s.toks fun _ _ e => e
  refine P.repr_of_bool ?_
  cases b <;> simpa only [D.py,PyData.shown] using this
 | int i=>
  simp only [RepB,Rep] at rx; subst rx
  obtain ⟨t,rfl⟩ := ru
  have := fin s.heap (s.toks + 1) s.toks fun _ _ e => e
  simp only [D.py,PyData.showable,decide_eq_true_eq] at hs
  exact P.repr_of_int hs (by simpa only [D.py,PyData.shown] using this)
 | str z=>
  simp only [RepB,Rep] at rx; obtain ⟨rx,_⟩ := rx; subst rx
  obtain ⟨t,rfl⟩ := ru
  have := fin s.heap (s.toks + 1) s.toks fun _ _ e => e
  exact P.repr_of_str (by simpa only [D.py,PyData.shown] using this) (by simpa only [D.py,PyData.shown] using hz)
 | tup ds=>
  simp only [RepB,Rep] at rx
  obtain ⟨a,ys,rfl,_⟩ := rx
  cases ru
  exact repr_of_reads' ra hs (PyData.noDict_hsm (PyData.hasDict_of_canLay _ hl)) hg (by omega) (fun _ _ e => e) (fun h' t tk hk => fin h' tk t hk) hz
 | lst ds=>
  obtain ⟨a,ys,rfl,_⟩ := rx
  cases ru
  exact repr_of_reads' ra hs (PyData.noDict_hsm (PyData.hasDict_of_canLay _ hl)) hg (by omega) (fun _ _ e => e) (fun h' t tk hk => fin h' tk t hk) hz
 | feed => cases hp
 | scr _ => cases hp
theorem a4F : RCD K (a4O K) (one P7) := rc1 fun g σ H fa O s x d1 d Q I r e k => by
 unfold P7 at e
 by_cases h : R5 d1 = true
 ·rw [if_pos h] at e
  cases e
  refine ⟨_,_,d1,x,rfl,r,h,k _ H StE.refl I ?_⟩
  simp only [Rep]
  unfold R5 at h
  simp only [Bool.and_eq_true,decide_eq_true_eq] at h
  exact ⟨trivial,h.2⟩
 ·rw [if_neg h] at e; cases e
end
end DL
namespace DL
open PySem PySem.Spec L2
def FS.get (key : Str) (f : FS) : Option D:=
 if f.kind = 0 then if key = "cells" then some (.lst (f.cells.map .int)) else if key = "at" then some (.int f.pos) else if key = "left" then some (.int f.left) else if key = "turn" then some (.int f.turn) else none else none
def FS.put (key : Str) (n : Int) (f : FS) : Option FS:=
 if f.kind = 0 then if key = "at" then some { f with pos := n } else if key = "left" then some { f with left := n } else if key = "turn" then some { f with turn := n } else none else none
def dFG (i : Nat) (key : Str) : DE := fun s => match s.sl[i]? with
 | some (.val .feed) => s.fs.bind fun f => (f.get key).map fun d => (d,s)
 | _ => none
section
variable {X : Cx} {g : Gh} {i : Nat} {x key : Str} {p1 p2 pos pos' : Pos} {j : Nat}
theorem a9f (xs : List V) (h : xs.length ≤ 63) : G6 xs none (some 63) = xs:= by
 unfold G6
 have e1 : HT.sIx xs.length 0 none = 0 := rfl
 have e2 : HT.sIx xs.length xs.length (some 63) = xs.length:= by
  have := HT.sIx_nat xs.length xs.length 63
  rw [show ((63 : Nat) : Int) = 63 from rfl] at this
  rw [this]; omega
 rw [e1,e2,List.drop_zero,Nat.sub_zero,List.take_length]
end
def FS.tget (n : Int) (f : FS) : Option D:=
 if f.kind = 0 then none else if n = 0 then some (.lst (f.cells.map .int)) else if n = 1 then some (.int f.pos) else if n = 2 then some (.int f.left) else if n = 3 ∧ f.kind ≠ 1 then some (.int f.turn) else none
def FS.tput (n v : Int) (f : FS) : Option FS:=
 if f.kind = 0 then none else if n = 1 then some { f with pos := v } else if n = 2 then some { f with left := v } else if n = 3 ∧ f.kind ≠ 1 then some { f with turn := v } else none
def dTG (i : Nat) (n : Int) : DE := fun s => match s.sl[i]? with
 | some (.val .feed) => s.fs.bind fun f => (f.tget n).map fun d => (d,s)
 | _ => none
def dTP (i : Nat) (n : Int) (fe : DE) : DM := fun s => (fe s).bind fun x => match x.2.sl[i]?,x.1 with
 | some (.val .feed),.int v => x.2.fs.bind fun f => (f.tput n v).map fun f' => (.next,{ x.2 with fs := some f' })
 | _,_ => none
def dTN (i : Nat) : DE := fun s => match s.sl[i]?,s.fs with
 | some (.val (.scr ns)),none => some (.feed,{ s with fs := some ⟨ns,0,0,0,1⟩ })
 | _,_ => none
theorem FS.tget_val {n : Int} {f : FS} {d : D} (h : f.tget n = some d) (c : Addr) : ∃ v,atI (E5 c f) n = some v ∧ ((v = .ref c ∧ d = .lst (f.cells.map .int)) ∨ ∃ i,v = .int i ∧ d = .int i) ∧ f.kind ≠ 0:= by
 unfold FS.tget at h
 split at h
 ·cases h
 rename_i hk
 unfold E5
 split at h
 ·rename_i e; subst e; cases h
  refine ⟨.ref c,?_,.inl ⟨rfl,rfl⟩,hk⟩
  split <;> rfl
 split at h
 ·rename_i e; subst e; cases h
  refine ⟨.int f.pos,?_,.inr ⟨_,rfl,rfl⟩,hk⟩
  split <;> rfl
 split at h
 ·rename_i e; subst e; cases h
  refine ⟨.int f.left,?_,.inr ⟨_,rfl,rfl⟩,hk⟩
  split <;> rfl
 split at h
 ·rename_i e; obtain ⟨e,e2⟩ := e; subst e; cases h
  refine ⟨.int f.turn,?_,.inr ⟨_,rfl,rfl⟩,hk⟩
  rw [if_neg e2]; rfl
 ·cases h
theorem FS.tput_val {n v : Int} {f f' : FS} (h : f.tput n v = some f') (c : Addr) : ∃ j,ixN (E5 c f).length n = some j ∧ (E5 c f).set j (.int v) = E5 c f' ∧ f'.cells = f.cells ∧ f.kind ≠ 0 ∧ f'.kind ≠ 0:= by
 unfold FS.tput at h
 split at h
 ·cases h
 rename_i hk
 split at h
 ·rename_i e; subst e; cases h
  refine ⟨1,?_,?_,rfl,hk,hk⟩
  ·unfold E5; split <;> rfl
  ·by_cases z : f.kind = 1
   ·simp [E5,z]
   ·simp [E5,z]
 split at h
 ·rename_i e; subst e; cases h
  refine ⟨2,?_,?_,rfl,hk,hk⟩
  ·unfold E5; split <;> rfl
  ·by_cases z : f.kind = 1
   ·simp [E5,z]
   ·simp [E5,z]
 split at h
 ·rename_i e; obtain ⟨e,e2⟩ := e; subst e; cases h
  refine ⟨3,?_,?_,rfl,hk,hk⟩
  ·unfold E5; rw [if_neg e2]; rfl
  ·simp [E5,e2]
 ·cases h
section
variable {X : Cx} {g : Gh} {i : Nat} {x : Str} {n : Int} {p1 p2 pos pos' : Pos} {j : Nat}
theorem R8 (hv : PE X (.Name x p1) (P6 i)) : EO X g (.Subscript (.Name x p1) (.Constant (.int n) j p2) pos) (dTG i n):=
 EO.w (a7H ix_list hv X2 (fun _ _ => rfl)) fun σ H Q hQ => by
  refine hQ.elim fun fa O s d s' I e k => ?_
  unfold dTG at e
  cases q : s.sl[i]? with
  | none => rw [q] at e; cases e
  | some z=>
   rw [q] at e
   cases z with
   | no => cases e
   | own _ => cases e
   | val dz=>
    cases dz with
    | feed=>
     refine L6 e fun f h1 h2 => ?_
     refine J8 h2 fun d' h3 h4 => ?_
     cases h4
     obtain ⟨u,e1,r⟩ := SlR.val I.sl q
     simp only [Rep] at r
     obtain ⟨a,ha,rfl⟩ := r
     have fd := I.fd
     rw [h1,ha] at fd
     obtain ⟨_,c,hc,nc,lc⟩ := fd
     obtain ⟨v,hval,hd,hk⟩ := FS.tget_val h3 c
     rw [a2c hk] at hc
     refine ⟨_,e1,a,_,n,v,rfl,rfl,SqL.of hc,hval,k v H fa O StE.refl I ?_⟩
     rcases hd with ⟨rfl,rfl⟩ | ⟨n,rfl,rfl⟩
     ·simp only [Rep]
      exact ⟨c,_,rfl,by rw [ha]; exact nc,lc,Reps.ints⟩
     ·simp only [Rep]
    | _ => cases e
theorem a2j {e : Expr} {fe : DE} (hv : PE X (.Name x p1) (P6 i)) (he : EO X g e fe) (hs : swapsWithSole [.Subscript (.Name x p1) (.Constant (.int n) j p2) pos'] e pos.line X.env = pure false := by rfl) (hw : swappedStores [.Subscript (.Name x p1) (.Constant (.int n) j p2) pos'] e X.env = pure none := by rfl) :
  SO X g (.Assign [.Subscript (.Name x p1) (.Constant (.int n) j p2) pos'] e pos) (dTP i n fe):=
 SO.w (a5F he.pe (a9N hv X2 a8u) hs hw) fun E σ H hQ => by
  refine hQ.elim fun fa O s fl s' I q k => ?_
  refine p8 q fun d s1 h1 h2 => ?_
  simp only [] at h2
  cases q1 : s1.sl[i]? with
  | none => rw [q1] at h2; cases h2
  | some z=>
   rw [q1] at h2
   cases z with
   | no => cases h2
   | own _ => cases h2
   | val dz=>
    cases dz with
    | feed=>
     cases d with
     | int w=>
      simp only [] at h2
      refine L6 h2 fun f h3 h4 => ?_
      refine J8 h4 fun f' h5 h6 => ?_
      cases h6
      refine ⟨fa,O,s,.int w,s1,I,h1,fun v H1 f1 O1 a1 I1 r => ?_⟩
      simp only [Rep] at r
      subst r
      obtain ⟨u,e1,ru⟩ := SlR.val I1.sl q1
      simp only [Rep] at ru
      obtain ⟨a,ha,rfl⟩ := ru
      have fd := I1.fd
      rw [h3,ha] at fd
      obtain ⟨lc63,c,hc,nc,lc⟩ := fd
      obtain ⟨m,hix,hput,hcell,hk,hk'⟩ := FS.tput_val h5 c
      rw [a2c hk] at hc
      refine ⟨_,e1,a,_,n,m,rfl,rfl,hc,hix,?_⟩
      rw [hput]
      have a2 : StE f1 O1 H1 f1 O1 (upd H1 a (.lst (E5 c f'))) := ⟨fun _ h => h,.inl rfl,fun b w e nb => by rw [o9 (fun z => nb (by rw [z]; exact ha))]; exact e,fun b z => by
       by_cases hb : b = a
       ·subst hb; rw [A9] at z; cases z
       ·rw [o9 hb] at z; exact z⟩
      have cr := I1.car a2.stp
      refine k σ _ f1 O1 (a1.stp.trans a2.stp) ⟨I1.nd,SlR.go cr (fun b xs hb e => a2.same b _ e fun z => I1.nf b z hb) I1.sl,I1.fr,?_,I1.tr,I1.ff,?_,I1.nf⟩
      ·refine ⟨fun b hb => (by cases hb),I1.st.fe,fun b w e _ nb => ?_,fun b z => I1.st.mon b (a2.mon b z)⟩
       refine a2.same b w (I1.st.same b w e (by simp) nb) fun z => ?_
       rcases I1.st.fe with y | ⟨y,y2⟩
       ·rw [y] at z; exact nb z
       ·rw [y2 b z] at e; cases e
      ·rw [ha]
       refine ⟨by rw [hcell]; exact lc63,c,by rw [a2c hk',A9],nc,?_⟩
       rw [o9 (fun z => nc (.inr (.inr (by rw [z])))),hcell]
       exact lc
     | _ => cases h2
    | _ => cases h2
theorem a71 {j63 j0 j1 : Nat} {q5 q6 q7 q8 q9 : Pos} (hv : PE X (.Name x p1) (P6 i)) :
  EO X g (.List [.Subscript (.Name x p1) (.Slice none (some (.Constant (.int 63) j63 q5)) none q6) q7,.Constant (.int 0) j0 q8,.Constant (.int 0) j1 q9] pos) (dTN i):=
 EO.w (a7F (W3 (a7t a7A hv a4q (a5w X2)) (W3 X2 (W3 X2 a09)))) fun σ H Q hQ => by
  refine hQ.elim fun fa O s d s' I e k => ?_
  unfold dTN at e
  cases q : s.sl[i]? with
  | none => rw [q] at e; cases e
  | some z=>
   rw [q] at e
   cases z with
   | no => cases e
   | own _ => cases e
   | val dz=>
    cases dz with
    | scr ns=>
     cases hf : s.fs with
     | some f => rw [hf] at e; cases e
     | none=>
      rw [hf] at e
      cases e
      obtain ⟨u,e1,r⟩ := SlR.val I.sl q
      simp only [Rep] at r
      obtain ⟨l63,a,rfl,sq⟩ := r
      have fd := I.fd
      rw [hf] at fd
      have fan : fa = none := by cases fa with | none => rfl | some _ => exact fd.elim
      subst fan
      refine ⟨_,e1,63,rfl,a,_,rfl,sq.sq,fun c hcH => ?_⟩
      rw [a9f _ (by rw [List.length_map]; exact l63)]
      refine ⟨by show 3 ≤ sizeLine; decide,fun p hp' => ?_⟩
      have npc : c ≠ p := fun z => by rw [← z,A9] at hp'; cases hp'
      have hp : H p = none := by rw [o9 (Ne.symm npc)] at hp'; exact hp'
      have fresh : ∀ b u,H b = some u → b ≠ p ∧ b ≠ c := fun b u e => ⟨K0 e hp,K0 e hcH⟩
      have a2 : StE none O H (some p) O (upd (upd H c (.lst (ns.map V.int))) p (.lst [V.ref c,V.int 0,V.int 0])):= by
       refine ⟨fun _ h => h,.inr ⟨rfl,fun b z => by cases z; exact hp⟩,fun b u e _ => ?_,fun b z => ?_⟩
       ·obtain ⟨n1,n2⟩ := fresh b u e
        rw [o9 n1,o9 n2]; exact e
       ·by_cases h1 : b = p
        ·subst h1; exact hp
        ·by_cases h2 : b = c
         ·subst h2; exact hcH
         ·rw [o9 h1,o9 h2] at z; exact z
      have cr := I.car a2.stp
      refine k _ _ (some p) O a2 ⟨I.nd,SlR.go cr (fun b xs hb e => a2.same b _ e (by simp)) I.sl,I.fr,I.st.trans ⟨fun b hb => (by cases hb),a2.fe,fun b u e _ n => a2.same b u e n,a2.mon⟩,I.tr,I.ff,?_,I.nf_step a2.fe⟩ (by simp only [Rep]; exact ⟨p,rfl,rfl⟩)
      refine ⟨l63,c,A9,?_,?_⟩
      ·rintro (z | z | z)
       ·exact I.trF z hcH
       ·obtain ⟨xs,e⟩ := I.owned z
        rw [hcH] at e; cases e
       ·exact npc (Option.some.inj z).symm
      ·rw [o9 npc,A9]
    | _ => cases e
end
structure Cal (P : Program) (w : World) (K : PySem.W.Frag) (mg : Str → Option Value) (base : Heap) (k : Nat) (x : Str) (ps : List Str) (m : DFn) : Prop where
 ex : ∃ (f : Addr) (fd : FuncData),FnD P w K mg base k f fd ps m ∧ mg x = some (.ref f) ∧ PySem.W.keepIn K (.ref f) = true ∧ Binds K fd ps []
structure Blt (mg : Str → Option Value) : Prop where
 len : mg "len" = none
 range : mg "range" = none
 abs : mg "abs" = none
 tuple : mg "tuple" = none
 list : mg "list" = none
 int : mg "int" = none
 bool : mg "bool" = none
 str : mg "str" = none
 repr : mg "repr" = none
 all : mg "all" = none
 isinstance : mg "isinstance" = none
 zip : mg "zip" = none
 enumerate : mg "enumerate" = none
 min : mg "min" = none
 max : mg "max" = none
 reversed : mg "reversed" = none
 any : mg "any" = none
 sum : mg "sum" = none
 sorted : mg "sorted" = none
section
variable {X : Cx} {g : Gh} {k : Nat} {ps : List Str} {m : DFn} {x : Str} {p pos : Pos} {e : Expr} {es : List Expr} {t : DA}
theorem i7 (C : Cal X.prog X.w X.K X.mg X.base k x ps m) (k' : Nat) (hr : Room k' X.A) (hk : k ≤ k') (hg : Gl X x)
  (ha : AO X g (e :: es) t) (hn : ∀ s ds s',t s = some (ds,s') → ds.length = ps.length) (hdb : (x == ("__debug__" : Str)) = false := by decide) (he : starEach (e :: es) X.env = (false,eval e X.env) :: starEach es X.env := by rfl) (hpl : (backTo pos (starEach es X.env)).any (·.1) = false := by rfl) :
  EO X g (.Call (.Name x p) (e :: es) [] pos) (c6 m t):= by
 obtain ⟨f,fd,F,hm,hkp,hb⟩ := C.ex
 exact b3O F (hr.mono hk) hg hm hkp hb ha hn hdb he hpl
end
theorem b2h {P : Program} {w : World} {K : PySem.W.Frag} {mg : Str → Option Value} {base : Heap} {x : Str} {st : Stmt} {f : Addr} {fd : FuncData} {N ps : List Str} {k : Nat} {b : DM} (F : Fun K x x st f fd) (hm : mg x = some (.ref f)) (hb : Binds K fd ps []) (S : FnScope N ps (l3 st))
  (hbody : ∀ (cdv : Value) (A : Around) (outer : List Env) (s : Shared) (H : Hp) (E : XK) (g : Gh),Room k (A.deeper (PyProof.Rows.envOfC x (l3 st) s.heap.objs.size f cdv)) → SSO (P5 CX0 P w K mg base N x (l3 st) f cdv A outer s H E).nox g (G5 st) b) :
  Cal P w K mg base (k + 1) x ps (mFn N.length b) := ⟨f,fd,a6j F S hbody,hm,F.kp,hb⟩
theorem u64 {A : Around} {k : Nat} (hr : Room k A) : A.units + 64 < cLine := by have := hr.un; omega
theorem u66 {A : Around} {k : Nat} (hr : Room k A) : A.units + 66 < cLine := by have := hr.un; omega
theorem E2 : bootBuiltins ("len" : Str) = some (.builtin "len") := by decide +kernel
theorem a1c : bootBuiltins ("abs" : Str) = some (.builtin "abs") := by decide +kernel
theorem a5O : bootBuiltins ("repr" : Str) = some (.builtin "repr") := by decide +kernel
theorem V6 : bootBuiltins ("tuple" : Str) = some (.type "tuple") := by decide +kernel
theorem b3u : bootBuiltins ("list" : Str) = some (.type "list") := by decide +kernel
theorem a3b : bootBuiltins ("int" : Str) = some (.type "int") := by decide +kernel
theorem a0B {κ : Type} [BEq κ] [LawfulBEq κ] {β : Type} : ∀ {l : List (κ × β)} {x : κ} {v : β},l.lookup x = some v → (x,v) ∈ l
 | [],_,_,h => by simp at h
 | (a,b) :: r,x,v,h => by
  rw [List.lookup_cons] at h
  cases e : x == a with
  | true=>
   rw [e] at h
   cases h
   rw [eq_of_beq e]
   exact List.mem_cons_self ..
  | false=>
   rw [e] at h
   exact List.mem_cons_of_mem _ (a0B h)
def hasAll (names : List (Str × NameKind)) (cl : List (Str × Addr)) : Bool := names.all fun p => !(p.2 == .cell || p.2 == .free) || (cl.lookup p.1).isSome
theorem a7s {names : List (Str × NameKind)} {cl : List (Str × Addr)} (h : hasAll names cl = true) : ∀ x,(names.lookup x = some .cell ∨ names.lookup x = some .free) → ∃ c,cl.lookup x = some c := fun x hx => by
 have key : ∀ kd,names.lookup x = some kd → (kd == NameKind.cell || kd == NameKind.free) = true → ∃ c,cl.lookup x = some c := fun kd e q => by
  have m := a0B e
  have z := List.all_eq_true.mp h _ m
  simp only [q,Bool.not_true,Bool.false_or] at z
  exact Option.isSome_iff_exists.mp z
 rcases hx with e | e
 ·exact key _ e rfl
 ·exact key _ e rfl
inductive CapL (X : Cx) (scope : Scope) : List Nat → List Str → Prop where
 | nil : CapL X scope [] []
 | cons {i : Nat} {y : Str} {r : List Nat} {ys : List Str} (h1 : X.N[i]? = some y) (h2 : X.env.scope.names.lookup y = some .cell ∨ X.env.scope.names.lookup y = some .free)
   (h3 : (relabel scope X.env).names.lookup y = some .cell ∨ (relabel scope X.env).names.lookup y = some .free) (t : CapL X scope r ys) : CapL X scope (i :: r) (y :: ys)
theorem CapL.len {X : Cx} {scope : Scope} : ∀ {idx : List Nat} {ys : List Str},CapL X scope idx ys → ys.length = idx.length
:= by
 intro idx ys h
 induction h with
 | nil => rfl
 | cons _ _ _ t ih => rw [List.length_cons,List.length_cons,ih]
theorem CapL.at {X : Cx} {scope : Scope} : ∀ {idx : List Nat} {ys : List Str},CapL X scope idx ys → ∀ (j i : Nat) (y : Str),idx[j]? = some i → ys[j]? = some y →
  X.N[i]? = some y ∧ (X.env.scope.names.lookup y = some .cell ∨ X.env.scope.names.lookup y = some .free) ∧ ((relabel scope X.env).names.lookup y = some .cell ∨ (relabel scope X.env).names.lookup y = some .free)
:= by
 intro idx ys h
 induction h with
 | nil => intro j i y h; cases h
 | cons h1 h2 h3 t ih=>
  intro j i y e1 e2
  cases j with
  | zero=>
   cases e1
   cases e2
   exact ⟨h1,h2,h3⟩
  | succ j => exact ih j i y e1 e2
inductive SubL (cells : List (Str × Addr)) : List (Str × Addr) → Prop where
 | nil : SubL cells []
 | cons {x : Str} {c : Addr} {r : List (Str × Addr)} (h : cells.lookup x = some c) (t : SubL cells r) : SubL cells ((x,c) :: r)
theorem SubL.mem {cells : List (Str × Addr)} : ∀ {cl : List (Str × Addr)},SubL cells cl → ∀ x c,(x,c) ∈ cl → cells.lookup x = some c
:= by
 intro cl h
 induction h with
 | nil => intro x c h; cases h
 | cons e t ih=>
  intro x c h
  rcases List.mem_cons.mp h with z | z
  ·cases z; exact e
  ·exact ih x c z
theorem O0 {X : Cx} {scope : Scope} {cl : List (Str × Addr)} {x : Str} {caps : List Str} {idx : List Nat} (clos : closureFor scope X.env = pure cl) (sub : SubL X.env.cells cl) (cell : ∀ y ∈ scope.names,y.2 ≠ .cell) (kind : scope.kind = .function)
  (names : ∀ y ∈ scope.names,y.2 = .local → scope.names.lookup y.1 = some .local) (has : hasAll (relabel scope X.env).names cl = true) (cap : CapL X scope idx caps) : CompOk X scope cl (x :: caps) 1 idx:=
 ⟨clos,fun y c e => sub.mem y c (a0B e),cell,kind,names,a7s has,by rw [List.length_cons,cap.len,Nat.add_comm],fun j i y e1 e2 => cap.at j i y e1 (by rw [Nat.add_comm] at e2; simpa using e2)⟩
def A7 (i j : Nat) (f : DA) : DM := fun s => (f s).bind fun x => match x.1 with
 | [a,b] => some (.next,{ x.2 with sl := (x.2.sl.set i (.val a)).set j (.val b) })
 | _ => none
section
variable {X : Cx} {g : Gh}
theorem a04 {i j : Nat} {x y : Str} {a b : Expr} {f : DA} {px py pt pos : Pos} {kt k2 pt2} (hc : X.calm = true) (hN : X.N.Nodup) (hi : X.N[i]? = some x) (hj : X.N[j]? = some y) (hij : i ≠ j)
  (hx : X.env.scope.names.lookup x = some .local) (hy : X.env.scope.names.lookup y = some .local) (ha : AO X g [a,b] f)
  (hw : swappedStores [.Tuple [.Name x px,.Name y py] kt pt] (.Tuple [a,b] k2 pt2) X.env = pure (some [x,y]))
  (hs : swapsWithSole [.Tuple [.Name x px,.Name y py] kt pt] (.Tuple [a,b] k2 pt2) pos.line X.env = pure false := by rfl) :
  SO X g (.Assign [.Tuple [.Name x px,.Name y py] kt pt] (.Tuple [a,b] k2 pt2) pos) (A7 i j f) := SO.w (b29 hc hN hi hj hij hx hy ha.pe hw hs) fun E σ H hQ => by
 refine hQ.elim fun fa O s fl s' I q k => ?_
 refine p8 q fun ds s1 h1 h2 => ?_
 refine ⟨fa,O,s,ds,s1,I,h1,fun vs H1 f1 O1 a1 I1 r => ?_⟩
 match ds,h2,r with
 | [d1,d2],h2,r=>
  simp only [Option.some.injEq,Prod.mk.injEq] at h2
  obtain ⟨e1,e2⟩ := h2
  subst e1; subst e2
  simp only [Reps] at r
  obtain ⟨v,ys,rfl,rv,u,zs,rfl,ru,rfl⟩ := r
  refine ⟨v,u,rfl,?_⟩
  obtain ⟨P,sub,I2⟩ := I1.put i rv
  have a2 : StE f1 O1 H1 f1 P H1 := a01 sub
  obtain ⟨P3,sub3,I3⟩ := I2.put j (Rep.stp I1 a2.stp ru)
  exact k _ H1 f1 P3 (a1.stp.trans (a2.stp.trans (a01 sub3).stp)) I3
end
theorem walkD {l : PySem.W.OpenLaw} {q : Program} {loose : List Str} {XP : (Str → Option Value) → Heap → Prop} {YP : World → Heap → Prop} {d : DefRec} {K : Params → PySem.W.Frag} {m : DFn} {k : Nat} (hn : l.most = some 63) (hdf : d.params.defaults = []) (hr : Room k callerA)
  (hY : ∀ (w : World) (h : Heap),YP w h → (K w.params).In h)
  (F : ∀ (w : World) (mg : Str → Option Value) (fa : Addr) (h : Heap),(K w.params).In h → h.Ns mainGlobals mg → mg d.name = some (.ref fa) →
   ∃ fd : FuncData,(∀ (s : Shared) (u : Value),BindsTo s fd ⟨[u],[]⟩ [("_law_script",u)]) ∧ ∀ base : Heap,(K w.params).In base → base.Ns mainGlobals mg → FnOk l.prog w (K w.params) mg base CX0 k fa fd ["_law_script"] (spD (K w.params) 1 m))
  (math : ∀ ns : List Int,ns.length ≤ 63 → ∃ fs',m [.scr ns] none = some (.bl true,fs')) :
  PySem.W.WalkO q loose XP YP l.row.toRowW d [] (fun f vs => PySem.call f vs):=
 L2.walk_of (n := 63) (k := k) (x := "_law_script") (CX := fun _ => CX0) (sp := fun w => spD (K w.params) 1 m) hn (by decide) hdf hr hY F (fun w H a ns hl hO hS => by
  obtain ⟨fs',e⟩ := math ns hl
  refine ⟨fun _ => False,none,[.scr ns],none,.bl true,fs',fun b z => z.elim,fun a z => (by cases z),?_,trivial,e,rfl,fun v H' fa' _ _ r => by simpa only [Rep] using r⟩
  simp only [Reps,Rep]
  refine ⟨_,_,rfl,⟨hl,a,rfl,?_⟩,rfl⟩
  rcases hS with (z | ⟨o,z⟩) | z
  ·rcases hO a with y | ⟨o,xs,y⟩ <;> · rw [z] at y; cases y
  ·exact .inl ⟨o,z⟩
  ·exact .inr z) fun _ _ _ _ _ z => z
section
variable {X : Cx} {g : Gh} {a b c : Expr} {fa fb fc : DE} {pos : Pos}
def S9 (p p' : D → D → Option D) (fa fb fc : DE) : DE := fun s => (fa s).bind fun x => (fb x.2).bind fun y => (p x.1 y.1).bind fun z => match z with
 | .bl true => (fc y.2).bind fun w => (p' y.1 w.1).map fun d => (d,w.2)
 | .bl false => some (.bl false,y.2)
 | _ => none
theorem a7Q {r r' : R2} {p p' : D → D → Option D} (hr : R2D X.K r p) (hr' : R2D X.K r' p') (σ : L2.St) (H : Hp) (Q : VK) (h : liftE X.K g (S9 p p' fa fb fc) σ H Q) : a6M r r' (liftB X.K g fa) (liftB X.K g fb) (liftB X.K g fc) σ H Q:= by
 obtain ⟨f0,O,s,d,s',I,e,k⟩ := h
 refine p8 e fun x s1 h1 e => ?_
 refine p8 e fun y s2 h2 e => ?_
 refine L6 e fun z h3 e => ?_
 refine ⟨f0,O,s,x,s1,I,h1,fun v H1 f1 O1 a1 I1 r1 => ⟨f1,O1,s1,y,s2,I1,h2,fun u H2 f2 O2 a2 I2 r2 => ?_⟩⟩
 refine hr g σ H2 f2 O2 s2 v u x y z _ I2 (RepB.stp I1 a2 r1) r2 h3 fun zz H3 a3 I3 r3 => ?_
 cases z with
 | bl b=>
  simp only [Rep] at r3
  subst r3
  refine ⟨b,rfl,?_⟩
  cases b with
  | false=>
   simp only [Option.some.injEq,Prod.mk.injEq] at e
   obtain ⟨e1,e2⟩ := e
   subst e1; subst e2
   exact a7J (k _ H3 f2 O2 (a1.trans (a2.trans a3)) I3 (by simp only [Rep]))
  | true=>
   refine p8 e fun w s3 h4 e => ?_
   refine J8 e fun d' h5 e => ?_
   simp only [Prod.mk.injEq] at e
   obtain ⟨e1,e2⟩ := e
   subst e1; subst e2
   refine a5f ⟨f2,O2,s2,w,s3,I3,h4,fun w' H4 f4 O4 a4 I4 r4 => ?_⟩
   exact hr' g σ H4 f4 O4 s3 u w' y w d' Q I4 (RepB.stp I3 a4 (RepB.stp I2 a3 r2)) r4 h5 fun q H5 a5 I5 r5 => k q H5 f4 O4 (a1.trans (a2.trans (a3.trans (a4.trans a5)))) I5 r5
 | _ => cases e
theorem a7L {op op' : CmpOp} {r r' : R2} {p p' : D → D → Option D} (ho : OpR X (compareOp op) r) (hr : R2D X.K r p) (ho' : OpR X (compareOp op') r') (hr' : R2D X.K r' p') (ha : BO X g a fa) (hb : BO X g b fb) (hc : BO X g c fc)
  (hm : lastMarks [op,op'] [b,c] = false := by with_unfolding_all rfl) : EO X g (.Compare a [op,op'] [b,c] pos) (S9 p p' fa fb fc) := EO.w (b2Y ho ho' ha.pe hb.pe hc.pe hm) (a7Q hr hr')
abbrev DO := DS → Option (Option Int × DS)
def liftO (K : PySem.W.Frag) (g : Gh) (f : DO) : L2.TO := fun σ H Q => ∃ fa O s d s',GI K g σ H fa O s ∧ f s = some (d,s') ∧ ∀ H' fa' O',StE fa O H fa' O' H' → GI K g σ H' fa' O' s' → Q d H'
theorem liftO.elim {K : PySem.W.Frag} {g : Gh} {σ : L2.St} {H : Hp} {G : Prop} {f : DO} {Q : Option Int → Hp → Prop} (h : liftO K g f σ H Q) (k : ∀ fa O s d s',GI K g σ H fa O s → f s = some (d,s') → (∀ H' fa' O',StE fa O H fa' O' H' → GI K g σ H' fa' O' s' → Q d H') → G) : G:= by
 obtain ⟨fa,O,s,d,s',a,b,c⟩ := h
 exact k fa O s d s' a b c
structure OO (X : Cx) (g : Gh) (e : Option Expr) (f : DO) : Prop where
 pe : PO X e (liftO X.K g f)
def dNo : DO := fun s => some (none,s)
def dAt (f : DE) : DO := fun s => (f s).bind fun x => match x.1 with | .int i => some (some i,x.2) | _ => none
theorem POw {e : Option Expr} {t t' : L2.TO} (h : PO X e t) (w : ∀ σ H Q,t' σ H Q → t σ H Q) : PO X e t' := fun pins s σ H Q I q => h pins s σ H Q I (w σ H Q q)
theorem OO.w {e : Option Expr} {f : DO} {t : L2.TO} (h : PO X e t) (w : ∀ σ H Q,liftO X.K g f σ H Q → t σ H Q) : OO X g e f := ⟨POw h w⟩
theorem a0i : OO X g none dNo := OO.w a4q fun σ H Q hQ => by
 refine hQ.elim fun f0 O s d s' I e k => ?_
 cases e
 exact k H f0 O StE.refl I
theorem a0b (h : BO X g a fa) : OO X g (some a) (dAt fa) := OO.w (a5w h.pe) fun σ H Q hQ => by
 refine hQ.elim fun f0 O s d s' I e k => ?_
 refine p8 e fun x s1 h1 e => ?_
 cases x with
 | int i=>
  simp only [Option.some.injEq,Prod.mk.injEq] at e
  obtain ⟨e1,e2⟩ := e
  subst e1; subst e2
  exact ⟨f0,O,s,.int i,s1,I,h1,fun v H1 f1 O1 a1 I1 r1 => ⟨i,by simpa only [RepB,Rep] using r1,k H1 f1 O1 a1 I1⟩⟩
 | _ => cases e
def F6 (xs : List D) (lo hi : Option Int) : List D := (xs.drop (HT.sIx xs.length 0 lo)).take (HT.sIx xs.length xs.length hi - HT.sIx xs.length 0 lo)
theorem a33 {K : PySem.W.Frag} {N : Addr → Prop} {fa : Option Addr} {H : Hp} {ds : List D} {xs : List V} (r : Reps K N fa H ds xs) (lo hi : Option Int) : Reps K N fa H (F6 ds lo hi) (G6 xs lo hi):= by
 unfold F6 G6
 rw [r.length]
 exact (r.drop _).take _
end
end DL
namespace HT2
open PySem PyProof.Rows HT
section
variable {prog : Program} {w : World} {A : Around} {E : Value → Shared → Prop} {s : Shared}
theorem getItem_tuple_whole {t sl : Addr} {items : Array Value} {vl vu : Value} {lo hi : Option Int} {Q : Value → Shared → Prop} (ht : IsTup s.heap t items) (hs : s.heap.IsSliceOf sl vl vu .none) (pl : IsPart vl lo) (pu : IsPart vu hi)
  (hw : sIx items.size 0 lo = 0 ∧ sIx items.size items.size hi = items.size) (h : Q (.ref t) s) : wpAny (model prog w) A (getItem (.ref t) (.ref sl)) Q E s:= by
 obtain ⟨os,hos,hcs,hds⟩ := id hs
 have hTs : s.TypeIs (.ref sl) "slice" := ⟨os,hos,hcs⟩
 unfold getItem
 try with_reducible refine wpAny_holding ?_
 first | refine wpAny_bind (wpAny_pure ?_) | skip
 refine wpAny_bind (wpAny_sequenceKey ht.typeIs (by decide) ?_)
 refine wpAny_bind (wpAny_callSpecial?_slot (name := Str.ofString "__getitem__") ht.typeIs PyProof.Rows.slot_tuple_getitem
  (wpAny_call_entry PyProof.Rows.slot_tuple_getitem ht.typeIs entry_tuple_getitem ?_ (args_tuple_getitem _ _)))
 show wpAny _ _ (Builtin.Tuple.tupleItemsOf (.ref t) >>= _) _ _ s
 refine wpAny_bind (tupleItemsOf_ ht ?_)
 refine wpAny_bind (wpAny_typeOf hTs ?_)
 rw [if_pos (by decide)]
 refine wpAny_bind (a6l hs pl pu ?_)
 have hyes : (((sIx items.size 0 lo : Nat) : Int) == 0 && (1 : Int) == 1 && (sIx items.size items.size hi - sIx items.size 0 lo) == items.size) = true:= by
  rw [hw.1,hw.2]; simp
 show wpAny _ _ (if (((sIx items.size 0 lo : Nat) : Int) == 0 && (1 : Int) == 1 && (sIx items.size items.size hi - sIx items.size 0 lo) == items.size) = true then _ else _) _ _ s
 rw [if_pos hyes]
 refine wpAny_bind (m := Builtin.Tuple.tupleIsExact _) (wpAny_bind (wpAny_typeOf ht.typeIs (wpAny_pure ?_)))
 rw [if_pos (by decide)]
 first
  | exact wpAny_bind (wpAny_rule (wpAny_bind (wpAny_pure (wpAny_pure ⟨_,rfl,wpAny_pure h⟩))))
  | exact wpAny_bind (wpAny_rule (wpAny_pure ⟨_,rfl,wpAny_pure h⟩))
  | exact wpAny_bind (wpAny_rule (wpAny_bind (wpAny_pure ⟨_,rfl,wpAny_pure h⟩)))
end
end HT2
namespace DL
open PySem PySem.Spec L2
section
variable {X : Cx} {g : Gh} {a : Expr} {fa : DE} {pos : Pos}
def a8X (K : PySem.W.Frag) : V → Option Int → Option Int → Hp → VK → Prop := fun x lo hi H Q => ∃ a xs,x = .ref a ∧ SqT K H a xs ∧ (HT.sIx xs.length 0 lo = 0 ∧ HT.sIx xs.length xs.length hi = xs.length) ∧ Q (.ref a) H
theorem b34 : L2.SlR X (a8X X.K):= by
 intro pins s σ H x v vl vu lo hi sl Q I rx hs pl pu h
 obtain ⟨a,xs,rfl,hx,hw,q⟩ := h
 cases rx
 obtain ⟨its,r,ht,hz⟩ := I.tuple hx
 have hlen : its.toArray.size = xs.length := by rw [List.size_toArray]; exact r.length.symm
 refine ⟨"tuple",_,PyProof.Rows.slot_tuple_getitem.lookup,ht.typeIs,?_⟩
 exact HT2.getItem_tuple_whole ht hs pl pu (by rw [hlen]; exact hw) ⟨.ref a,H,I,rfl,q⟩
theorem b0k {xs : List D} {lo hi : Option Int} (h : HT.sIx xs.length 0 lo = 0 ∧ HT.sIx xs.length xs.length hi = xs.length) : F6 xs lo hi = xs:= by
 unfold F6
 rw [h.1,h.2,List.drop_zero,Nat.sub_zero,List.take_length]
def dSl (f : DE) (lo hi : DO) : DE := fun s => (f s).bind fun x => (lo x.2).bind fun l => (hi l.2).bind fun h => match x.1 with
 | .tup ds => some (.tup (F6 ds l.1 h.1),h.2)
 | .lst ds => some (.lst (F6 ds l.1 h.1),h.2)
 | _ => none
theorem a9G {x r : D} {F : List D → List D} {t z : DS} (e : (match x with
 | .tup ds => some (D.tup (F ds),t)
 | .lst ds => some (D.lst (F ds),t)
 | _ => none) = some (r,z)) : t = z ∧ ((∃ ds,x = .lst ds ∧ r = .lst (F ds)) ∨ ∃ ds,x = .tup ds ∧ r = .tup (F ds)):= by
 cases x with
 | tup ds => cases e; exact ⟨rfl,.inr ⟨ds,rfl,rfl⟩⟩
 | lst ds => cases e; exact ⟨rfl,.inl ⟨ds,rfl,rfl⟩⟩
 | _ => cases e
theorem Z8 {lo hi : Option Expr} {fl fh : DO} {p2 : Pos} (ha : BO X g a fa) (hl : OO X g lo fl) (hh : OO X g hi fh) : EO X g (.Subscript a (.Slice lo hi none p2) pos) (dSl fa fl fh):=
 EO.w (a7t (L2.SlR.or (L2.SlR.or a93 b34) a7A) ha.pe hl.pe hh.pe) fun σ H Q hQ => by
  refine hQ.elim fun f0 O s d s' I e k => ?_
  refine p8 e fun x s1 h1 e => ?_
  refine p8 e fun l s2 h2 e => ?_
  refine p8 e fun h s3 h3 e => ?_
  obtain ⟨rfl,c⟩ := a9G (F := fun ds => F6 ds l h) e
  refine ⟨f0,O,s,x,s1,I,h1,fun v H1 f1 O1 a1 I1 r1 => ⟨f1,O1,s1,l,s2,I1,h2,fun H2 f2 O2 a2 I2 => ⟨f2,O2,s2,h,s3,I2,h3,fun H3 f3 O3 a3 I3 => ?_⟩⟩⟩
  have r3 := RepB.stp I2 a3 (RepB.stp I1 a2 r1)
  rcases c with ⟨ds,rfl,rfl⟩ | ⟨ds,rfl,rfl⟩
  ·obtain ⟨c,xs,rfl,_,q,w⟩ := r3
   refine .inr ⟨c,xs,rfl,SqL.of q,fun p hp => ?_⟩
   have a4 : StE f3 O3 H3 f3 O3 (upd H3 p (.lst (G6 xs l h))) := C2 hp
   have L := O8 I3 hp (a33 w l h)
   refine k _ _ f3 O3 (a1.trans (a2.trans (a3.trans a4))) L.gi ?_
   simp only [Rep]
   exact ⟨p,_,rfl,a1o I3 a4 L.gi hp L.nf,A9,Reps.stp I3 a4.stp (a33 w l h)⟩
  ·simp only [RepB,Rep] at r3
   obtain ⟨c,xs,rfl,q,w⟩ := r3
   by_cases hw : HT.sIx xs.length 0 l = 0 ∧ HT.sIx xs.length xs.length h = xs.length
   ·refine .inl (.inr ⟨c,xs,rfl,q,hw,k _ H3 f3 O3 (a1.trans (a2.trans a3)) I3 ?_⟩)
    rw [w.length] at hw
    rw [b0k hw]
    simp only [Rep]
    exact ⟨c,xs,rfl,q,w⟩
   ·refine .inl (.inl ⟨c,xs,rfl,q,hw,fun p hp => ?_⟩)
    have a4 : StE f3 O3 H3 f3 O3 (upd H3 p (.tup (G6 xs l h))) := C2 hp
    refine k _ _ f3 O3 (a1.trans (a2.trans (a3.trans a4))) (I3.new hp) ?_
    simp only [Rep]
    exact ⟨p,_,rfl,SqT.of A9,Reps.stp I3 a4.stp (a33 w l h)⟩
end
end DL
namespace HT3
open PySem PyProof.Rows HT
section
variable {prog : Program} {w : World} {A : Around} {E : Value → Shared → Prop} {s : Shared}
theorem b2V (n : Nat) : Builtin.Slice.sliceAdjust none none (-1) (n : Int) = ((n : Int) - 1,-1):= by
 have h1 : ((-1 : Int) < 0) := by omega
 unfold Builtin.Slice.sliceAdjust
 simp only [h1,if_true]
theorem b4a (n : Nat) : Builtin.Slice.slicePlaces ((n : Int) - 1) (-1) (-1) = n:= by
 unfold Builtin.Slice.slicePlaces
 have h1 : ¬ ((-1 : Int) > 0) := by omega
 simp only [h1,if_false]
 have e : -(-1 : Int) = 1 := rfl
 rw [e,Int.ediv_one]
 split <;> omega
theorem a9J {sl : Addr} {t : Tok} {n : Nat} {Q : Int × Int × Nat → Shared → Prop} (hs : s.heap.IsSliceOf sl .none .none (.int (-1) t))
  (h : Q ((n : Int) - 1,-1,n) s) : wpAny (model prog w) A (Builtin.Slice.sliceApplied (.ref sl) (pure (n : Int))) Q E s:= by
 obtain ⟨os,hos,hcs,hds⟩ := id hs
 unfold Builtin.Slice.sliceApplied Builtin.Slice.sliceFields
 refine wpAny_bind (wpAny_bind (wpAny_field hos hds (x := .none) rfl (wpAny_bind (wpAny_field hos hds (x := .none) rfl (wpAny_bind (wpAny_field hos hds (x := .int (-1) t) rfl (wpAny_pure ?_)))))))
 refine wpAny_bind (slicePart_int ?_)
 show wpAny _ _ (if ((-1 : Int) == 0) = true then _ else _) _ _ s
 rw [if_neg (by decide)]
 refine wpAny_bind (slicePart_none (wpAny_bind (slicePart_none (wpAny_bind (wpAny_pure ?_)))))
 show wpAny _ _ (match Builtin.Slice.sliceAdjust none none (-1) (n : Int) with | (lo,hi) => pure (lo,(-1 : Int),Builtin.Slice.slicePlaces lo hi (-1))) _ _ s
 rw [b2V n]
 show wpAny _ _ (pure ((n : Int) - 1,(-1 : Int),Builtin.Slice.slicePlaces ((n : Int) - 1) (-1) (-1))) _ _ s
 rw [b4a]
 exact wpAny_pure h
theorem a9B (xs : Array Value) : ((List.range xs.size).filterMap fun (m : Nat) => xs[(((xs.size : Int) - 1) + (m : Int) * (-1)).toNat]?).toArray = xs.toList.reverse.toArray:= by
 congr 1
 have e : ((List.range xs.size).filterMap fun (m : Nat) => xs[(((xs.size : Int) - 1) + (m : Int) * (-1)).toNat]?) = ((List.range xs.size).filterMap fun (m : Nat) => xs.toList.reverse[m]?):= by
  have cg : ∀ (l : List Nat) (f g : Nat → Option Value),(∀ m ∈ l,f m = g m) → l.filterMap f = l.filterMap g:= by
   intro l f g
   induction l with
   | nil => intro _; rfl
   | cons a r ih => intro h; rw [List.filterMap_cons,List.filterMap_cons,h a (List.mem_cons_self ..),ih fun m hm => h m (List.mem_cons_of_mem _ hm)]
  refine cg _ _ _ fun m hm => ?_
  have hm' : m < xs.size := List.mem_range.mp hm
  have : (((xs.size : Int) - 1) + (m : Int) * (-1)).toNat = xs.size - 1 - m := by omega
  rw [this,List.getElem?_reverse (by simpa using hm')]
  simp
 rw [e]
 have hl : xs.size = xs.toList.reverse.length := by simp
 rw [hl]
 generalize xs.toList.reverse = l
 clear e hl
 induction l with
 | nil => rfl
 | cons a r ih=>
  rw [List.length_cons,List.range_succ_eq_map,List.filterMap_cons]
  simp only [List.getElem?_cons_zero,List.filterMap_map]
  congr 1
theorem getItem_tuple_rev {t sl : Addr} {items : Array Value} {tk : Tok} {Q : Value → Shared → Prop} (ht : IsTup s.heap t items) (hs : s.heap.IsSliceOf sl .none .none (.int (-1) tk))
  (h : Q (.ref s.heap.objs.size) { s with heap := s.heap.push { cls := .type "tuple",data := .seq items.toList.reverse.toArray } })
  (hsz : items.size ≤ sizeLine) : wpAny (model prog w) A (getItem (.ref t) (.ref sl)) Q E s:= by
 have htake : sizeOk (.seq items.toList.reverse.toArray):= by
  show items.toList.reverse.toArray.size ≤ sizeLine
  rw [List.size_toArray,List.length_reverse,Array.length_toList]
  exact hsz
 obtain ⟨os,hos,hcs,hds⟩ := id hs
 have hTs : s.TypeIs (.ref sl) "slice" := ⟨os,hos,hcs⟩
 unfold getItem
 try with_reducible refine wpAny_holding ?_
 first | refine wpAny_bind (wpAny_pure ?_) | skip
 refine wpAny_bind (wpAny_sequenceKey ht.typeIs (by decide) ?_)
 refine wpAny_bind (wpAny_callSpecial?_slot (name := Str.ofString "__getitem__") ht.typeIs PyProof.Rows.slot_tuple_getitem
  (wpAny_call_entry PyProof.Rows.slot_tuple_getitem ht.typeIs entry_tuple_getitem ?_ (args_tuple_getitem _ _)))
 show wpAny _ _ (Builtin.Tuple.tupleItemsOf (.ref t) >>= _) _ _ s
 refine wpAny_bind (tupleItemsOf_ ht ?_)
 refine wpAny_bind (wpAny_typeOf hTs ?_)
 rw [if_pos (by decide)]
 refine wpAny_bind (a9J hs ?_)
 have hno : ¬ ((((items.size : Int) - 1) == 0 && (-1 : Int) == 1 && items.size == items.size) = true):= by
  intro q
  rw [Bool.and_eq_true,Bool.and_eq_true] at q
  exact absurd q.1.2 (by decide)
 show wpAny _ _ (if (((items.size : Int) - 1) == 0 && (-1 : Int) == 1 && items.size == items.size) = true then _ else _) _ _ s
 rw [if_neg hno,a9B]
 first
  | exact wpAny_bind (m := Builtin.Tuple.tupleExact _) (wpAny_newObj_type (wpAny_pure ⟨_,rfl,wpAny_pure h⟩) htake)
  | exact wpAny_bind (m := Builtin.Tuple.tupleExact _) (wpAny_newObj_type (wpAny_bind (wpAny_pure (wpAny_pure ⟨_,rfl,wpAny_pure h⟩))) htake)
  | exact wpAny_bind (wpAny_bind (m := Builtin.Tuple.tupleExact _) (wpAny_newObj_type (wpAny_pure (wpAny_pure ⟨_,rfl,wpAny_pure h⟩)) htake))
  | exact wpAny_bind (wpAny_bind (m := Builtin.Tuple.tupleExact _) (wpAny_newObj_type (wpAny_pure ⟨_,rfl,wpAny_pure h⟩) htake))
theorem b3Y {sl : Addr} {t : Tok} {n : Nat} {Q : Int × Int × Nat → Shared → Prop} (hs : s.heap.IsSliceOf sl .none .none (.int 1 t))
  (h : Q (0,1,n) s) : wpAny (model prog w) A (Builtin.Slice.sliceApplied (.ref sl) (pure (n : Int))) Q E s:= by
 obtain ⟨os,hos,hcs,hds⟩ := id hs
 unfold Builtin.Slice.sliceApplied Builtin.Slice.sliceFields
 refine wpAny_bind (wpAny_bind (wpAny_field hos hds (x := .none) rfl (wpAny_bind (wpAny_field hos hds (x := .none) rfl (wpAny_bind (wpAny_field hos hds (x := .int 1 t) rfl (wpAny_pure ?_)))))))
 refine wpAny_bind (slicePart_int ?_)
 show wpAny _ _ (if ((1 : Int) == 0) = true then _ else _) _ _ s
 rw [if_neg (by decide)]
 refine wpAny_bind (slicePart_none (wpAny_bind (slicePart_none (wpAny_bind (wpAny_pure ?_)))))
 show wpAny _ _ (match Builtin.Slice.sliceAdjust none none 1 (n : Int) with | (lo,hi) => pure (lo,(1 : Int),Builtin.Slice.slicePlaces lo hi 1)) _ _ s
 rw [a5I none none n]
 show wpAny _ _ (pure (((sIx n 0 none : Nat) : Int),(1 : Int),Builtin.Slice.slicePlaces ((sIx n 0 none : Nat) : Int) ((sIx n n none : Nat) : Int) 1)) _ _ s
 rw [a5T]
 exact wpAny_pure h
theorem getItem_tuple_one {t sl : Addr} {items : Array Value} {tk : Tok} {Q : Value → Shared → Prop} (ht : IsTup s.heap t items) (hs : s.heap.IsSliceOf sl .none .none (.int 1 tk)) (h : Q (.ref t) s) : wpAny (model prog w) A (getItem (.ref t) (.ref sl)) Q E s:= by
 obtain ⟨os,hos,hcs,hds⟩ := id hs
 have hTs : s.TypeIs (.ref sl) "slice" := ⟨os,hos,hcs⟩
 unfold getItem
 try with_reducible refine wpAny_holding ?_
 first | refine wpAny_bind (wpAny_pure ?_) | skip
 refine wpAny_bind (wpAny_sequenceKey ht.typeIs (by decide) ?_)
 refine wpAny_bind (wpAny_callSpecial?_slot (name := Str.ofString "__getitem__") ht.typeIs PyProof.Rows.slot_tuple_getitem
  (wpAny_call_entry PyProof.Rows.slot_tuple_getitem ht.typeIs entry_tuple_getitem ?_ (args_tuple_getitem _ _)))
 show wpAny _ _ (Builtin.Tuple.tupleItemsOf (.ref t) >>= _) _ _ s
 refine wpAny_bind (tupleItemsOf_ ht ?_)
 refine wpAny_bind (wpAny_typeOf hTs ?_)
 rw [if_pos (by decide)]
 refine wpAny_bind (b3Y hs ?_)
 have hyes : ((0 : Int) == 0 && (1 : Int) == 1 && items.size == items.size) = true := by simp
 show wpAny _ _ (if ((0 : Int) == 0 && (1 : Int) == 1 && items.size == items.size) = true then _ else _) _ _ s
 rw [if_pos hyes]
 refine wpAny_bind (m := Builtin.Tuple.tupleIsExact _) (wpAny_bind (wpAny_typeOf ht.typeIs (wpAny_pure ?_)))
 rw [if_pos (by decide)]
 first
  | exact wpAny_bind (wpAny_rule (wpAny_bind (wpAny_pure (wpAny_pure ⟨_,rfl,wpAny_pure h⟩))))
  | exact wpAny_bind (wpAny_rule (wpAny_pure ⟨_,rfl,wpAny_pure h⟩))
  | exact wpAny_bind (wpAny_rule (wpAny_bind (wpAny_pure ⟨_,rfl,wpAny_pure h⟩)))
end
end HT3
namespace DL
open PySem PySem.Spec L2 PyProof.Rows
section
variable {X : Cx} {g : Gh} {a st : Expr} {fa fs : DE} {pos p2 : Pos}
def b3s (K : PySem.W.Frag) (te ts : TE) : TE := fun σ H Q => te σ H fun x H1 => ts σ H1 fun y H2 => (y = .int (-1) ∧ ∃ p xs,x = .ref p ∧ SqT K H2 p xs ∧ ∀ l,H2 l = none → Q (.ref l) (upd H2 l (.tup xs.reverse))) ∨ (y = .int 1 ∧ ∃ p xs,x = .ref p ∧ SqT K H2 p xs ∧ Q (.ref p) H2)
theorem b0u {te ts : TE} (he : PE X a te) (hs : PE X st ts) : PE X (.Subscript a (.Slice none none (some st) p2) pos) (b3s X.K te ts):= by
 intro pins s σ H Q I h
 refine Subscript_ (thn (he pins s σ H _ I h) fun v s1 ⟨x,H1,I1,r1,q1⟩ => ?_)
 refine wpAny_Slice ?_
 rw [evalPart_none]
 refine wpAny_pure (wpAny_pure ?_)
 rw [evalPart_some]
 refine thn (hs pins s1 σ H1 _ I1 q1) fun u s3 ⟨y,H3,I3,r3,q3⟩ => ?_
 rcases q3 with ⟨rfl,p,xs,rfl,hx,q⟩ | ⟨rfl,p,xs,rfl,hx,q⟩
 case inr=>
  obtain ⟨tk,rfl⟩ := r3
  cases r1
  have I4 : Inv X pins σ H3 { s3 with heap := s3.heap.push { cls := .type "slice",data := .fields #[.none,.none,.int 1 tk] } } := I3.kept (t' := s3.toks) fun b ob q => Heap.get?_push_of_some _ q
  obtain ⟨its,r,ht,hz⟩ := I4.tuple hx
  show wpAny (model X.prog X.w) X.A (subscriptTail a (.Slice none none (some st) p2) (.ref p) (.ref s3.heap.objs.size)) (EP X pins σ Q) X.xe { s3 with heap := s3.heap.push { cls := .type "slice",data := .fields #[.none,.none,.int 1 tk] } }
  refine tail_any (ops := [.ref p,.ref s3.heap.objs.size]) ht.typeIs PyProof.Rows.slot_tuple_getitem.lookup ?_ (by with_unfolding_all rfl)
  exact HT3.getItem_tuple_one ht (Heap.IsSliceOf.new ..) ⟨.ref p,H3,I4,rfl,q⟩
 obtain ⟨tk,rfl⟩ := r3
 cases r1
 have I4 : Inv X pins σ H3 { s3 with heap := s3.heap.push { cls := .type "slice",data := .fields #[.none,.none,.int (-1) tk] } } := I3.kept (t' := s3.toks) fun b ob q => Heap.get?_push_of_some _ q
 obtain ⟨its,r,ht,hz⟩ := I4.tuple hx
 have hlen : its.toArray.size = xs.length := by rw [List.size_toArray]; exact r.length.symm
 show wpAny (model X.prog X.w) X.A (subscriptTail a (.Slice none none (some st) p2) (.ref p) (.ref s3.heap.objs.size)) (EP X pins σ Q) X.xe { s3 with heap := s3.heap.push { cls := .type "slice",data := .fields #[.none,.none,.int (-1) tk] } }
 refine tail_any (ops := [.ref p,.ref s3.heap.objs.size]) ht.typeIs PyProof.Rows.slot_tuple_getitem.lookup ?_ (by with_unfolding_all rfl)
 refine HT3.getItem_tuple_rev ht (Heap.IsSliceOf.new ..) ?_ (by rw [hlen]; exact hz)
 refine ⟨.ref (s3.heap.push { cls := .type "slice",data := .fields #[.none,.none,.int (-1) tk] }).objs.size,_,I4.laid (t' := s3.toks) (o := .tup xs.reverse) (fun b ob q => Heap.get?_push_of_some _ q) (Nat.le_refl _) ?_,rfl,q _ (I4.hok.fresh (Nat.le_refl _))⟩
 exact ⟨by rw [List.length_reverse]; exact hz,_,r.reverse,IsTup.new _ _⟩
def a0V (f h : DE) : DE := fun s => (f s).bind fun x => (h x.2).bind fun y => match x.1,y.1 with
 | .tup ds,.int i => if i = -1 then some (.tup ds.reverse,y.2) else if i = 1 then some (.tup ds,y.2) else none
 | _,_ => none
theorem a8n {x y r : D} {t : DS} {z : DS} (e : (match x,y with
 | .tup ds,.int i => if i = -1 then some (D.tup ds.reverse,t) else if i = 1 then some (.tup ds,t) else none
 | _,_ => none) = some (r,z)) : ∃ ds i,x = .tup ds ∧ y = .int i ∧ t = z ∧ ((i = -1 ∧ r = .tup ds.reverse) ∨ (i = 1 ∧ r = .tup ds)):= by
 cases x with
 | tup ds=>
  cases y with
  | int i=>
   have e : (if i = -1 then some (D.tup ds.reverse,t) else if i = 1 then some (.tup ds,t) else none) = some (r,z) := e
   by_cases hi : i = -1
   ·rw [if_pos hi] at e
    cases e
    exact ⟨ds,i,rfl,rfl,rfl,.inl ⟨hi,rfl⟩⟩
   ·rw [if_neg hi] at e
    by_cases h1 : i = 1
    ·rw [if_pos h1] at e
     cases e
     exact ⟨ds,i,rfl,rfl,rfl,.inr ⟨h1,rfl⟩⟩
    ·rw [if_neg h1] at e
     cases e
  | _ => cases e
 | _ => cases e
theorem b18 (ha : BO X g a fa) (hs : BO X g st fs) : EO X g (.Subscript a (.Slice none none (some st) p2) pos) (a0V fa fs) := EO.w (b0u ha.pe hs.pe) fun σ H Q hQ => by
 refine hQ.elim fun f0 O s d s' I e k => ?_
 refine p8 e fun x s1 h1 e => ?_
 refine p8 e fun y s2 h2 e => ?_
 obtain ⟨ds,i,rfl,rfl,rfl,c⟩ := a8n e
 refine ⟨f0,O,s,_,s1,I,h1,fun v H1 f1 O1 a1 I1 r1 => ⟨f1,O1,s1,_,s2,I1,h2,fun u H2 f2 O2 a2 I2 r2 => ?_⟩⟩
 have r3 := RepB.stp I1 a2 r1
 simp only [RepB,Rep] at r2 r3
 subst r2
 obtain ⟨c',xs,rfl,q,w⟩ := r3
 rcases c with ⟨rfl,rfl⟩ | ⟨rfl,rfl⟩
 ·refine .inl ⟨rfl,c',xs,rfl,q,fun l hl => ?_⟩
  have a4 : StE f2 O2 H2 f2 O2 (upd H2 l (.tup xs.reverse)) := C2 hl
  refine k _ _ f2 O2 (a1.trans (a2.trans a4)) (I2.new hl) ?_
  simp only [Rep]
  exact ⟨l,_,rfl,SqT.of A9,Reps.stp I2 a4.stp (Reps.reverse w)⟩
 ·refine .inr ⟨rfl,c',xs,rfl,q,k _ _ f2 O2 (a1.trans a2) I2 ?_⟩
  simp only [Rep]
  exact ⟨c',xs,rfl,q,w⟩
end
end DL
namespace DL
open PySem PySem.Spec L2
def a2L : Expr → Bool
 | .Starred _ _ => false
 | _ => true
theorem a7g {a : Expr} {es : List Expr} {env : Env} (h : a2L a = true) : starEach (a :: es) env = (false,eval a env) :: starEach es env:= by
 cases a <;> first | rfl | (cases h)
section
variable {X : Cx} {g : Gh} {a : Expr} {es : List Expr} {fa : DE} {fr : DA}
theorem ac (ha : EO X g a fa) (hr : AO X g es fr) (hs : a2L a = true := by rfl) : AO X g (a :: es) (a0 fa fr) := Y5 ha hr (a7g hs)
theorem bc (ha : BO X g a fa) (hr : BAO X g es fr) (hs : a2L a = true := by rfl) : BAO X g (a :: es) (a0 fa fr) := b1U ha hr (a7g hs)
end
end DL
namespace DL
open PySem PySem.Spec L2 PyProof.Rows
def inD (x : D) (ds : List D) : Bool := (D.pys ds).any fun y => PyData.eqv y x.py
def a0x (f : Bool → Bool) (x c : D) : Option D := match c with
 | .lst ds => if u7 x && u7 (.lst ds) then some (.bl (f (inD x ds))) else none
 | .tup ds => if u7 x && u7 (.tup ds) then some (.bl (f (inD x ds))) else none
 | _ => none
def a1d (x c : D) : Option D := a0x not x c
def a3Y (K : PySem.W.Frag) (f : Bool → Bool) : R2 := fun x y H Q => ∃ N fa d1 d2 ds,RepB K N fa H d1 x ∧ RepB K N fa H d2 y ∧ (d2 = .lst ds ∨ d2 = .tup ds) ∧ u7 d1 = true ∧ u7 d2 = true ∧ Q (.bl (f (inD d1 ds))) H
section
variable {X : Cx} {K : PySem.W.Frag}
theorem a4B {u a b : Nat} (h : u + 64 < cLine) (ha : a + 1 ≤ 64) : u + 1 + min a b < cLine:= by
 have : min a b ≤ a := Nat.min_le_left _ _
 omega
theorem b2B (hu : X.A.units + 64 < cLine) : OpR X (compareOp .NotIn) (a3Y X.K not):= by
 intro pins s σ H x y v u Q I rx ry h
 obtain ⟨N,fa,d1,d2,ds,r1,r2,hd,o1,o2,q⟩ := h
 unfold u7 at o1 o2
 rw [Bool.and_eq_true] at o1 o2
 obtain ⟨as,h1⟩ := Q9 I d1 x v r1.o rx o1.1
 obtain ⟨bs,h2⟩ := Q9 I d2 y u r2.o ry o2.1
 have l2 := SeqAt.canLay_of_shaped o2.2
 have dp := SeqAt.depth_of_shaped o2.2
 rcases hd with rfl | rfl
 ·simp only [D.py,PyData.canLay0,PyData.depth] at h2 l2 dp
  exact SeqAt.notIn_list_reads h2 h1 l2 (SeqAt.canLay_of_shaped o1.2) (a4B hu dp) ⟨.bl _,H,I,rfl,q⟩
 ·simp only [D.py,PyData.canLay0,PyData.depth] at h2 l2 dp
  exact SeqAt.notIn_tuple_reads h2 h1 l2 (SeqAt.canLay_of_shaped o1.2) (a4B hu dp) ⟨.bl _,H,I,rfl,q⟩
theorem a86 {f : Bool → Bool} {x c d : D} (h : a0x f x c = some d) : ∃ ds,(c = .lst ds ∨ c = .tup ds) ∧ u7 x = true ∧ u7 c = true ∧ d = .bl (f (inD x ds)):= by
 unfold a0x at h
 cases c with
 | lst ds=>
  simp only at h
  split at h
  ·rename_i q; rw [Bool.and_eq_true] at q; cases h; exact ⟨ds,.inl rfl,q.1,q.2,rfl⟩
  ·cases h
 | tup ds=>
  simp only at h
  split at h
  ·rename_i q; rw [Bool.and_eq_true] at q; cases h; exact ⟨ds,.inr rfl,q.1,q.2,rfl⟩
  ·cases h
 | _ => cases h
theorem a72 (f : Bool → Bool) : R2D K (a3Y K f) (a0x f):= by
 intro g σ H fa O s x y d1 d2 d Q I r1 r2 e k
 obtain ⟨ds,hc,o1,o2,rfl⟩ := a86 e
 exact ⟨_,fa,d1,d2,ds,r1,r2,hc,o1,o2,k _ H StE.refl I (by simp only [Rep])⟩
theorem b3E : R2D K (a3Y K not) a1d := a72 not
end
end DL
namespace DL
open PySem PySem.Spec L2
def mk2 (idx : List Nat) (sl : List Sl) : D → Option (List Sl)
 | .tup [a,b] => some (.val a :: .val b :: J9 idx sl)
 | _ => none
theorem b1t {idx : List Nat} {sl : List Sl} {d : D} {r : List Sl} (h : mk2 idx sl d = some r) : ∃ a b,d = .tup [a,b] ∧ r = .val a :: .val b :: J9 idx sl:= by
 cases d with
 | tup ds=>
  match ds,h with
  | [a,b],h => cases h; exact ⟨a,b,rfl,rfl⟩
 | _ => cases h
def T0 (idx : List Nat) (fi : DA) (fc : DT) (fe : DE) : DA := fun s => (fi s).bind fun x => if x.1.length ≤ sizeLine then (B9 (mk2 idx x.2.sl) fc fe x.1 x.2.fs).map fun y => (y.1,{ x.2 with fs := y.2 }) else none
section
variable {X : Cx} {g : Gh} {scope : Scope} {cl : List (Str × Addr)} {N' : List Str} {idx : List Nat} {iter elt tg : Expr} {ifs : List Expr} {pos : Pos} {fi : DA} {fc : DT} {fe : DE}
theorem a8w {G : TG} (k : CompOk X scope cl N' 2 idx)
  (hG : ∀ (a : Addr) (x y : V) (σ : L2.St) (H : Hp) (Q : L2.St → Hp → Prop),SqT X.K H a [x,y] → Q ((σ.set 0 (some x)).set 1 (some y)) H → G (.ref a) σ H Q) : ∀ σ H Q,liftF X.K g (T0 idx fi fc fe) σ H Q → X7 2 idx (liftI X.K g fi) G (fun σ H Q => ∃ g',liftT X.K g' fc σ H Q) (fun σ H Q => ∃ g',liftE X.K g' fe σ H Q) σ H Q:=
 a6d (mk := mk2 idx) fun N fa sl d sl0 x σ H Q hm rx hc kk => by
  obtain ⟨da,db,rfl,rfl⟩ := b1t hm
  simp only [Rep,Reps] at rx
  obtain ⟨ad,xs0,rfl,hsq,u,ys0,rfl,ru,w,ys1,rfl,rw',rfl⟩ := rx
  refine hG ad u w _ _ _ hsq (kk _ ⟨by simp,fun j v hj => ?_⟩ ?_)
  ·cases j with
   | zero => simp [B5] at hj
   | succ j=>
    cases j with
    | zero => simp [B5] at hj
    | succ j => rw [List.getElem?_set_ne (by simp),List.getElem?_set_ne (by simp)]; exact hj
  ·have eb : ((B5 2 idx σ).set 0 (some u)).set 1 (some w) = some u :: some w :: idx.map fun i => (σ[i]?).join := by simp [B5]
   rw [eb]
   simp only [SlR]
   exact ⟨u,_,rfl,ru,w,_,rfl,rw',hc⟩
theorem a9b {G : TG} (hc : X.calm = true) (k : CompOk X scope cl N' 2 idx) (hi : IO X g tg iter fi) (hg : ∀ C s0 H0 ex,PG (blk X N' scope cl C s0 H0 ex) tg G)
  (hG : ∀ (a : Addr) (x y : V) (σ : L2.St) (H : Hp) (Q : L2.St → Hp → Prop),SqT X.K H a [x,y] → Q ((σ.set 0 (some x)).set 1 (some y)) H → G (.ref a) σ H Q)
  (ht : ∀ C s0 H0 ex g',U7 (blk X N' scope cl C s0 H0 ex) g' ifs fc) (he : ∀ C s0 H0 ex g',EO (blk X N' scope cl C s0 H0 ex) g' elt fe) (hs : ∀ x,foldedSetIterable iter X.env x = pure x := by intro _; rfl) :
  FO X g (.ListComp elt [⟨tg,iter,ifs,0⟩] scope pos) (T0 idx fi fc fe):= by
 exact FO.w (a7h (tc := fun σ H Q => ∃ g',liftT X.K g' fc σ H Q) (te := fun σ H Q => ∃ g',liftE X.K g' fe σ H Q) hc k hi.pe hg (fun C s0 H0 ex pins s σ H Q I ⟨g',h⟩ => ht C s0 H0 ex g' pins s σ H Q I h) (fun C s0 H0 ex pins s σ H Q I ⟨g',h⟩ => (he C s0 H0 ex g').pe pins s σ H Q I h) hs) (a8w k hG)
theorem a4C {X : Cx} {scope : Scope} {cl : List (Str × Addr)} {x y : Str} {caps : List Str} {idx : List Nat} (clos : closureFor scope X.env = pure cl) (sub : SubL X.env.cells cl) (cell : ∀ y ∈ scope.names,y.2 ≠ .cell) (kind : scope.kind = .function)
  (names : ∀ y ∈ scope.names,y.2 = .local → scope.names.lookup y.1 = some .local) (has : hasAll (relabel scope X.env).names cl = true) (cap : CapL X scope idx caps) : CompOk X scope cl (x :: y :: caps) 2 idx:=
 ⟨clos,fun y c e => sub.mem y c (a0B e),cell,kind,names,a7s has,by rw [List.length_cons,List.length_cons,cap.len]; omega,fun j i y e1 e2 => cap.at j i y e1 (by
  rw [show 2 + j = j + 1 + 1 by omega] at e2; simpa using e2)⟩
end
def RwIt (h : Heap) (i l : Addr) (xs : Array Value) (k : Nat) : Prop := (h.IsListIter i l k ∧ h.IsList l xs) ∨ (h.IsTupleIter i l k ∧ h.IsTuple l xs)
section
variable {h h' : Heap} {i l : Addr} {xs : Array Value} {k : Nat}
theorem RwIt.at (x : RwIt h i l xs k) (ei : ∀ o,h.get? i = some o → h'.get? i = some o) (el : ∀ o,h.get? l = some o → h'.get? l = some o) : RwIt h' i l xs k:= by
 rcases x with ⟨⟨o,q,r⟩,⟨p,u,v⟩⟩ | ⟨⟨o,q,r⟩,⟨p,u,v⟩⟩
 ·exact .inl ⟨⟨o,ei o q,r⟩,⟨p,el p u,v⟩⟩
 ·exact .inr ⟨⟨o,ei o q,r⟩,⟨p,el p u,v⟩⟩
theorem RwIt.lt (x : RwIt h i l xs k) : i < h.objs.size:= by
 rcases x with ⟨⟨o,q,r⟩,_⟩ | ⟨⟨o,q,r⟩,_⟩ <;> exact Heap.lt_size q
end
section
variable {prog : Program} {w : World} {A : Around} {E : Value → Shared → Prop} {s : Shared}
theorem nextOf_tup_item {it t : Addr} {i : Nat} {items : Array Value} {x : Value} {Q : Value → Shared → Prop} (hit : s.heap.IsTupleIter it t i) (ht : s.heap.IsTuple t items) (hx : items[i]? = some x)
  (hQ : ∀ h',h'.IsTupleIter it t (i + 1) → Heap.SameBut it s.heap h' → Q x { s with heap := h' }) : wpAny (model prog w) A (Builtin.SmallTypes.nextOf (.ref it)) Q E s:= by
 obtain ⟨o,ho,hc,hd⟩ := id hit
 obtain ⟨ol,hol,_,nl,hdl⟩ := ht
 unfold Builtin.SmallTypes.nextOf
 refine wpAny_bind (wpAny_callSpecial?_slot (name := Str.ofString "__next__") hit.typeIs PySem.F.slot_tuple_iterator_next (wpAny_call_entry PySem.F.slot_tuple_iterator_next hit.typeIs PySem.F.entry_tuple_iterator_next ?_ (PySem.F.args_tuple_iterator_next_1 _)))
 show wpAny _ _ (field (.ref it) 0 >>= _) _ _ s
 refine wpAny_bind (wpAny_field ho hd (x := .ref t) rfl ?_)
 show wpAny _ _ (if (Value.ref t == Value.none) = true then _ else _) _ _ s
 rw [if_neg (show ¬ ((Value.ref t == Value.none) = true) from Bool.false_ne_true)]
 show wpAny _ _ (field (.ref it) 1 >>= _) _ _ s
 refine wpAny_bind (wpAny_field ho hd (x := .int i 0) rfl ?_)
 show wpAny _ _ (seqItems? (.ref t) >>= _) _ _ s
 refine wpAny_bind (wpAny_seqItems hol hdl ?_)
 simp only [Int.toNat_natCast,hx]
 refine wpAny_bind (wpAny_setField ho hd (by simp) (wpAny_pure ⟨x,rfl,wpAny_pure (hQ _ ?_ (Heap.SameBut.update ..))⟩))
 exact ⟨_,Heap.get?_update_self _ ho (Obj.isFreed_of_fields (Obj.data_mapFields hd _)),(Obj.cls_mapFields ..).trans hc,by rw [Obj.data_mapFields hd]; simp [rawInt]⟩
theorem nextOf_tup_end {it t : Addr} {i : Nat} {items : Array Value} {Q : Value → Shared → Prop} (hh : A.handled = none) (hit : s.heap.IsTupleIter it t i) (ht : s.heap.IsTuple t items) (hx : items[i]? = none)
  (hE : ∀ h' e,Heap.ExtBut it s.heap h' → (∃ o,h'.get? e = some o ∧ o.cls = .type "StopIteration") → E (.ref e) { s with heap := h' }) : wpAny (model prog w) A (Builtin.SmallTypes.nextOf (.ref it)) Q E s:= by
 obtain ⟨o,ho,hc,hd⟩ := id hit
 obtain ⟨ol,hol,_,nl,hdl⟩ := ht
 unfold Builtin.SmallTypes.nextOf
 refine wpAny_bind (wpAny_callSpecial?_slot (name := Str.ofString "__next__") hit.typeIs PySem.F.slot_tuple_iterator_next (wpAny_call_entry PySem.F.slot_tuple_iterator_next hit.typeIs PySem.F.entry_tuple_iterator_next ?_ (PySem.F.args_tuple_iterator_next_1 _)))
 show wpAny _ _ (field (.ref it) 0 >>= _) _ _ s
 refine wpAny_bind (wpAny_field ho hd (x := .ref t) rfl ?_)
 show wpAny _ _ (if (Value.ref t == Value.none) = true then _ else _) _ _ s
 rw [if_neg (show ¬ ((Value.ref t == Value.none) = true) from Bool.false_ne_true)]
 show wpAny _ _ (field (.ref it) 1 >>= _) _ _ s
 refine wpAny_bind (wpAny_field ho hd (x := .int i 0) rfl ?_)
 show wpAny _ _ (seqItems? (.ref t) >>= _) _ _ s
 refine wpAny_bind (wpAny_seqItems hol hdl ?_)
 simp only [Int.toNat_natCast,hx]
 refine wpAny_bind (wpAny_rule (wpAny_bind (wpAny_setField ho hd (by simp) ?_)))
 show wpAny _ _ (newExc (.type "StopIteration") [] >>= _) _ _ _
 refine wpAny_bind ?_
 simp only [newExc,newTuple]
 refine wpAny_bind (wpAny_newObj_type ?_ (by size_fits))
 refine wpAny_bind (m := firstArgMember _ _) (wpAny_of_eq (a := Value.none) (by first | rfl | (simp only [firstArgMember]; rfl)) ?_)
 refine wpAny_newObj_type ?_ (by size_fits)
 simp only [raiseNew]
 refine wpAny_bind (wpAny_handled ?_)
 first | rw [show A.in1.handled = none from hh] | rw [hh]
 refine wpAny_bind (wpAny_pure (wpAny_throw ?_))
 exact hE _ _ (((Heap.SameBut.update ..).extBut.push _).push _) ⟨_,Heap.get?_push_size _ rfl,rfl⟩
theorem V1 {it l : Addr} {i : Nat} {xs : Array Value} {x : Value} {Q : Value → Shared → Prop} (r : RwIt s.heap it l xs i) (hl : l ≠ it) (hx : xs[i]? = some x)
  (hQ : ∀ h',RwIt h' it l xs (i + 1) → Heap.SameBut it s.heap h' → Q x { s with heap := h' }) : wpAny (model prog w) A (Builtin.SmallTypes.nextOf (.ref it)) Q E s:= by
 rcases r with ⟨a,b⟩ | ⟨a,b⟩
 ·exact wpAny_nextOf_list_item a b hx fun h' a' hs => hQ h' (.inl ⟨a',b.extBut hs.extBut hl⟩) hs
 ·exact nextOf_tup_item a b hx fun h' a' hs => hQ h' (.inr ⟨a',b.extBut hs.extBut hl⟩) hs
theorem a0I {it l : Addr} {i : Nat} {xs : Array Value} {Q : Value → Shared → Prop} (hh : A.handled = none) (r : RwIt s.heap it l xs i) (hx : xs[i]? = none)
  (hE : ∀ h' e,Heap.ExtBut it s.heap h' → (∃ o,h'.get? e = some o ∧ o.cls = .type "StopIteration") → E (.ref e) { s with heap := h' }) : wpAny (model prog w) A (Builtin.SmallTypes.nextOf (.ref it)) Q E s:= by
 rcases r with ⟨a,b⟩ | ⟨a,b⟩
 ·exact wpAny_nextOf_list_end hh a b hx hE
 ·exact nextOf_tup_end hh a b hx hE
abbrev C8 (h : Heap) (z TI TO : Addr) (f0 f1 : Value) : Prop := h.get? z = some { cls := .type "zip",dict := none,data := .fields #[f0,f1,.bool false,.ref TI,.ref TO],slots := #[] }
variable {z TI TO i1 i2 l1 l2 : Addr} {xs ys : Array Value} {k : Nat}
theorem a8H {x y a b : Value} {Q : Value → Shared → Prop} (D : ZipApart z TI TO i1 i2 l1 l2)
  (hz : C8 s.heap z TI TO .none (.bool false)) (hTI : IsPair s.heap TI (.ref i1) (.ref i2)) (hTO : IsPair s.heap TO a b) (h1 : RwIt s.heap i1 l1 xs k) (h2 : RwIt s.heap i2 l2 ys k) (hx : xs[k]? = some x) (hy : ys[k]? = some y)
  (hQ : ∀ h',C8 h' z TI TO (rawInt s.heap.objs.size) (.bool false) → RwIt h' i1 l1 xs (k + 1) → RwIt h' i2 l2 ys (k + 1) → IsPair h' s.heap.objs.size x y →
   (∀ c o,c ≠ z → c ≠ TO → c ≠ i1 → c ≠ i2 → s.heap.get? c = some o → h'.get? c = some o) → IsPair h' TO x y → Q (.ref s.heap.objs.size) { s with heap := h' }) :
  wpAny (model prog w) A (Builtin.«zip.__next__» ⟨[.ref z],[]⟩) (fun fin s' => ∃ v,fin = .done (.ret v) ∧ Q v s') E s:= by
 show wpAny _ _ (field (.ref z) 2 >>= _) _ _ _
 refine wpAny_bind (wpAny_field hz rfl (x := .bool false) rfl ?_)
 show wpAny _ _ (field (.ref z) 3 >>= _) _ _ _
 refine wpAny_bind (wpAny_field hz rfl (x := .ref TI) rfl ?_)
 refine wpAny_bind (wpAny_seqItems hTI rfl ?_)
 show wpAny _ _ (Builtin.SmallTypes.ownedTupleIsFree (.ref z) >>= _) _ _ _
 refine wpAny_bind ?_
 unfold Builtin.SmallTypes.ownedTupleIsFree
 refine wpAny_bind (wpAny_field hz rfl (x := .none) rfl (wpAny_pure ?_))
 simp only [if_true]
 refine wpAny_bind (wpAny_rule ?_)
 refine wpAny_bind (wpAny_field hz rfl (x := .ref TO) rfl ?_)
 refine wpAny_bind (wpAny_setField_rec hz (by simp) fun g1 z1 k1 => ?_)
 replace z1 : C8 g1 z TI TO .ellipsis (.bool false) := z1
 refine wpAny_bind ?_
 simp only [List.zipIdx_cons,List.zipIdx_nil,List.forIn_cons,List.forIn_nil]
 refine wpAny_bind (wpAny_bind (wpAny_onRaise ?_))
 show wpAny _ _ (Builtin.SmallTypes.nextOf (.ref i1) >>= _) _ _ _
 refine wpAny_bind (V1 (h1.at (fun o e => k1.extBut _ o D.i1z e) fun o e => k1.extBut _ o D.l1z e) D.l1i1 hx fun g2 r2 k2 => wpAny_pure ?_)
 have o2 : IsPair g2 TO a b := k2.extBut _ _ D.TOi1 (k1.extBut _ _ D.TOz hTO)
 refine wpAny_bind (wpAny_seqItems o2 rfl ?_)
 refine wpAny_bind (wpAny_updateSeq_pair o2 fun g3 o3 k3 => ?_)
 replace o3 : IsPair g3 TO x b := o3
 refine wpAny_bind (wpAny_letGo (wpAny_pure ?_))
 refine wpAny_bind (wpAny_bind (wpAny_onRaise ?_))
 show wpAny _ _ (Builtin.SmallTypes.nextOf (.ref i2) >>= _) _ _ _
 refine wpAny_bind (V1 (h2.at (fun o e => k3.extBut _ o D.TOi2.symm (k2.extBut _ o D.i12.symm (k1.extBut _ o D.i2z e))) fun o e => k3.extBut _ o D.l2TO (k2.extBut _ o D.l2i1 (k1.extBut _ o D.l2z e))) D.l2i2 hy fun g4 r4 k4 => wpAny_pure ?_)
 have o4 : IsPair g4 TO x b := k4.extBut _ _ D.TOi2 o3
 refine wpAny_bind (wpAny_seqItems o4 rfl ?_)
 refine wpAny_bind (wpAny_updateSeq_pair o4 fun g5 o5 k5 => ?_)
 replace o5 : IsPair g5 TO x y := o5
 refine wpAny_bind (wpAny_letGo (wpAny_pure (wpAny_pure ?_)))
 refine wpAny_bind (wpAny_seqItems o5 rfl ?_)
 refine wpAny_bind (wpAny_newTuple ?_)
 have sz : g5.objs.size = s.heap.objs.size := by rw [k5.1,k4.1,k3.1,k2.1,k1.1]
 have z5 : C8 g5 z TI TO .ellipsis (.bool false) := k5.extBut _ _ D.TOz.symm (k4.extBut _ _ D.i2z.symm (k3.extBut _ _ D.TOz.symm (k2.extBut _ _ D.i1z.symm z1)))
 have q5 : ∀ c o,c ≠ z → c ≠ TO → c ≠ i1 → c ≠ i2 → s.heap.get? c = some o → g5.get? c = some o := fun c o c1 c2 c3 c4 e=>
  k5.extBut _ _ c2 (k4.extBut _ _ c4 (k3.extBut _ _ c2 (k2.extBut _ _ c3 (k1.extBut _ _ c1 e))))
 have p1 : RwIt g5 i1 l1 xs (k + 1) := r2.at (fun o e => k5.extBut _ o D.TOi1.symm (k4.extBut _ o D.i12 (k3.extBut _ o D.TOi1.symm e))) fun o e => k5.extBut _ o D.l1TO (k4.extBut _ o D.l1i2 (k3.extBut _ o D.l1TO e))
 have p2 : RwIt g5 i2 l2 ys (k + 1) := r4.at (fun o e => k5.extBut _ o D.TOi2.symm e) fun o e => k5.extBut _ o D.l2TO e
 have zl : z < g5.objs.size := Heap.lt_size z5
 show wpAny _ _ (Builtin.SmallTypes.ownedTupleHandOut (.ref z) (.ref g5.objs.size) >>= _) _ _ _
 refine wpAny_bind ?_
 unfold Builtin.SmallTypes.ownedTupleHandOut
 have z6 : C8 (g5.push { cls := .type "tuple",data := .seq #[x,y] }) z TI TO .ellipsis (.bool false) := Heap.get?_push_of_some _ z5
 refine wpAny_bind (wpAny_setField_rec z6 (by simp) fun g7 z7 k7 => ?_)
 replace z7 : C8 g7 z TI TO (rawInt g5.objs.size) (.bool false) := z7
 refine wpAny_setField_rec z7 (by simp) fun g8 z8 k8 => ?_
 replace z8 : C8 g8 z TI TO (rawInt g5.objs.size) (.bool false) := z8
 have up : ∀ c o,c ≠ z → g5.get? c = some o → g8.get? c = some o := fun c o c1 e => k8.extBut _ _ c1 (k7.extBut _ _ c1 (Heap.get?_push_of_some _ e))
 have t8 : IsPair g8 g5.objs.size x y := k8.extBut _ _ (Nat.ne_of_gt zl) (k7.extBut _ _ (Nat.ne_of_gt zl) (Heap.get?_push_size _ rfl))
 rw [sz] at z8 t8
 refine wpAny_pure ⟨_,rfl,?_⟩
 show Q (.ref g5.objs.size) _
 rw [sz]
 exact hQ g8 z8 (p1.at (fun o e => up _ o D.i1z e) fun o e => up _ o D.l1z e) (p2.at (fun o e => up _ o D.i2z e) fun o e => up _ o D.l2z e) t8 (fun c o c1 c2 c3 c4 e => up c o c1 (q5 c o c1 c2 c3 c4 e)) (up _ _ D.TOz o5)
theorem b0Z {a b : Value} {Q : Fin → Shared → Prop} (hh : A.handled = none) (D : ZipApart z TI TO i1 i2 l1 l2)
  (hz : C8 s.heap z TI TO .none (.bool false)) (hTI : IsPair s.heap TI (.ref i1) (.ref i2)) (hTO : IsPair s.heap TO a b) (h1 : RwIt s.heap i1 l1 xs k) (h2 : RwIt s.heap i2 l2 ys k) (hend : xs[k]? = none ∨ ys[k]? = none)
  (hE : ∀ h' e,(∀ c o,c ≠ z → c ≠ TO → c ≠ i1 → c ≠ i2 → s.heap.get? c = some o → h'.get? c = some o) → (∃ o,h'.get? e = some o ∧ o.cls = .type "StopIteration") → E (.ref e) { s with heap := h' }) :
  wpAny (model prog w) A (Builtin.«zip.__next__» ⟨[.ref z],[]⟩) Q E s:= by
 show wpAny _ _ (field (.ref z) 2 >>= _) _ _ _
 refine wpAny_bind (wpAny_field hz rfl (x := .bool false) rfl ?_)
 show wpAny _ _ (field (.ref z) 3 >>= _) _ _ _
 refine wpAny_bind (wpAny_field hz rfl (x := .ref TI) rfl ?_)
 refine wpAny_bind (wpAny_seqItems hTI rfl ?_)
 show wpAny _ _ (Builtin.SmallTypes.ownedTupleIsFree (.ref z) >>= _) _ _ _
 refine wpAny_bind ?_
 unfold Builtin.SmallTypes.ownedTupleIsFree
 refine wpAny_bind (wpAny_field hz rfl (x := .none) rfl (wpAny_pure ?_))
 simp only [if_true]
 refine wpAny_bind (wpAny_rule ?_)
 refine wpAny_bind (wpAny_field hz rfl (x := .ref TO) rfl ?_)
 refine wpAny_bind (wpAny_setField_rec hz (by simp) fun g1 z1 k1 => ?_)
 replace z1 : C8 g1 z TI TO .ellipsis (.bool false) := z1
 refine wpAny_bind ?_
 simp only [List.zipIdx_cons,List.zipIdx_nil,List.forIn_cons,List.forIn_nil]
 refine wpAny_bind (wpAny_bind (wpAny_onRaise ?_))
 show wpAny _ _ (Builtin.SmallTypes.nextOf (.ref i1) >>= _) _ _ _
 cases hx : xs[k]? with
 | none=>
  refine wpAny_bind (a0I hh (h1.at (fun o e => k1.extBut _ o D.i1z e) fun o e => k1.extBut _ o D.l1z e) hx fun g2 e k2 he => ?_)
  obtain ⟨oe,hoe,hce⟩ := he
  have z2 : C8 g2 z TI TO .ellipsis (.bool false) := k2 _ _ D.i1z.symm z1
  have hez : e ≠ z := fun x => by subst x; rw [z2] at hoe; cases hoe; simp at hce
  exact wpAny_setField_rec z2 (by simp) fun g3 _ k3 => hE g3 e (fun c o c1 _ c3 _ x => k3.extBut _ _ c1 (k2 _ _ c3 (k1.extBut _ _ c1 x))) ⟨oe,k3.extBut _ _ hez hoe,hce⟩
 | some x=>
  have hy : ys[k]? = none:= by
   rcases hend with h | h
   ·rw [hx] at h; cases h
   ·exact h
  refine wpAny_bind (V1 (h1.at (fun o e => k1.extBut _ o D.i1z e) fun o e => k1.extBut _ o D.l1z e) D.l1i1 hx fun g2 r2 k2 => wpAny_pure ?_)
  have o2 : IsPair g2 TO a b := k2.extBut _ _ D.TOi1 (k1.extBut _ _ D.TOz hTO)
  refine wpAny_bind (wpAny_seqItems o2 rfl ?_)
  refine wpAny_bind (wpAny_updateSeq_pair o2 fun g3 o3 k3 => ?_)
  refine wpAny_bind (wpAny_letGo (wpAny_pure ?_))
  refine wpAny_bind (wpAny_bind (wpAny_onRaise ?_))
  show wpAny _ _ (Builtin.SmallTypes.nextOf (.ref i2) >>= _) _ _ _
  refine wpAny_bind (a0I hh (h2.at (fun o e => k3.extBut _ o D.TOi2.symm (k2.extBut _ o D.i12.symm (k1.extBut _ o D.i2z e))) fun o e => k3.extBut _ o D.l2TO (k2.extBut _ o D.l2i1 (k1.extBut _ o D.l2z e))) hy fun g4 e k4 he => ?_)
  obtain ⟨oe,hoe,hce⟩ := he
  have z4 : C8 g4 z TI TO .ellipsis (.bool false) := k4 _ _ D.i2z.symm (k3.extBut _ _ D.TOz.symm (k2.extBut _ _ D.i1z.symm z1))
  have hez : e ≠ z := fun x => by subst x; rw [z4] at hoe; cases hoe; simp at hce
  exact wpAny_setField_rec z4 (by simp) fun g5 _ k5 => hE g5 e (fun c o c1 c2 c3 c4 x => k5.extBut _ _ c1 (k4 _ _ c4 (k3.extBut _ _ c2 (k2.extBut _ _ c3 (k1.extBut _ _ c1 x))))) ⟨oe,k5.extBut _ _ hez hoe,hce⟩
end
section
variable {prog : Program} {w : World} {A : Around} {E : Value → Shared → Prop} {s : Shared}
variable {z TI TO i1 i2 l1 l2 : Addr} {xs ys : Array Value} {k : Nat}
theorem a7R {a : Addr} {o : Obj} {Q : Option Obj → Shared → Prop} (ho : s.heap.get? a = some o) (h : Q (some o) s) : wpAny (model prog w) A (loadIfAlive a) Q E s:= by
 have h' : Q (s.heap.get? a) s := by rw [ho]; exact h
 exact fun _ _ _ => h'
theorem a5o {T : Addr} {f : Bool} {oT : Obj} {Q : Bool → Shared → Prop} (hz : C8 s.heap z TI TO (rawInt T) (.bool f)) (hT : s.heap.get? T = some oT)
  (hQ : ∀ h',C8 h' z TI TO (rawInt T) (.bool true) → Heap.SameBut z s.heap h' → Q false { s with heap := h' }) : wpAny (model prog w) A (Builtin.SmallTypes.ownedTupleIsFree (.ref z)) Q E s:= by
 unfold Builtin.SmallTypes.ownedTupleIsFree
 refine wpAny_bind (wpAny_field hz rfl (x := rawInt T) rfl ?_)
 show wpAny _ _ (loadIfAlive ((T : Int).toNat) >>= _) _ _ _
 rw [Int.toNat_natCast]
 refine wpAny_bind (a7R hT ?_)
 simp only [Option.isNone_some,Bool.false_eq_true,if_false]
 refine wpAny_bind (wpAny_field hz rfl (x := .bool f) rfl ?_)
 cases f with
 | true=>
  rw [if_neg (show ¬ ((Value.bool true != Value.bool true) = true) from Bool.false_ne_true)]
  exact wpAny_pure (hQ s.heap hz (Heap.SameBut.refl _ _))
 | false=>
  rw [if_pos (show (Value.bool false != Value.bool true) = true from rfl)]
  exact wpAny_bind (wpAny_setField_rec hz (by simp) fun g gz gk => wpAny_pure (hQ g gz gk))
theorem b2K {x y : Value} {T : Addr} {f : Bool} {oT : Obj} {Q : Value → Shared → Prop} (D : ZipApart z TI TO i1 i2 l1 l2)
  (hz : C8 s.heap z TI TO (rawInt T) (.bool f)) (hT : s.heap.get? T = some oT) (hTI : IsPair s.heap TI (.ref i1) (.ref i2)) (h1 : RwIt s.heap i1 l1 xs k) (h2 : RwIt s.heap i2 l2 ys k) (hx : xs[k]? = some x) (hy : ys[k]? = some y)
  (hQ : ∀ h',C8 h' z TI TO (rawInt T) (.bool true) → RwIt h' i1 l1 xs (k + 1) → RwIt h' i2 l2 ys (k + 1) → IsPair h' s.heap.objs.size x y →
   (∀ c o,c ≠ z → c ≠ TO → c ≠ i1 → c ≠ i2 → s.heap.get? c = some o → h'.get? c = some o) → Q (.ref s.heap.objs.size) { s with heap := h' }) :
  wpAny (model prog w) A (Builtin.«zip.__next__» ⟨[.ref z],[]⟩) (fun fin s' => ∃ v,fin = .done (.ret v) ∧ Q v s') E s:= by
 show wpAny _ _ (field (.ref z) 2 >>= _) _ _ _
 refine wpAny_bind (wpAny_field hz rfl (x := .bool false) rfl ?_)
 show wpAny _ _ (field (.ref z) 3 >>= _) _ _ _
 refine wpAny_bind (wpAny_field hz rfl (x := .ref TI) rfl ?_)
 refine wpAny_bind (wpAny_seqItems hTI rfl ?_)
 show wpAny _ _ (Builtin.SmallTypes.ownedTupleIsFree (.ref z) >>= _) _ _ _
 refine wpAny_bind (a5o hz hT fun g1 z1 k1 => ?_)
 simp only [Bool.false_eq_true,if_false]
 simp only [List.forIn_toArray,List.forIn_cons,List.forIn_nil]
 refine wpAny_bind (wpAny_bind (wpAny_bind (wpAny_holding ?_)))
 show wpAny _ _ (Builtin.SmallTypes.nextOf (.ref i1) >>= _) _ _ _
 refine wpAny_bind (V1 (h1.at (fun o e => k1.extBut _ o D.i1z e) fun o e => k1.extBut _ o D.l1z e) D.l1i1 hx fun g2 r2 k2 => wpAny_pure ?_)
 refine wpAny_pure ?_
 refine wpAny_bind (wpAny_bind (wpAny_holding ?_))
 show wpAny _ _ (Builtin.SmallTypes.nextOf (.ref i2) >>= _) _ _ _
 refine wpAny_bind (V1 (h2.at (fun o e => k2.extBut _ o D.i12.symm (k1.extBut _ o D.i2z e)) fun o e => k2.extBut _ o D.l2i1 (k1.extBut _ o D.l2z e)) D.l2i2 hy fun g4 r4 k4 => wpAny_pure ?_)
 refine wpAny_pure (wpAny_pure ?_)
 show wpAny _ _ (newTuple [x,y] >>= _) _ _ _
 refine wpAny_bind (wpAny_newTuple (items := [x,y]) ?_ (show 2 ≤ sizeLine by decide))
 have sz : g4.objs.size = s.heap.objs.size := by rw [k4.1,k2.1,k1.1]
 have q4 : ∀ c o,c ≠ z → c ≠ i1 → c ≠ i2 → s.heap.get? c = some o → g4.get? c = some o := fun c o c1 c3 c4 e => k4.extBut _ _ c4 (k2.extBut _ _ c3 (k1.extBut _ _ c1 e))
 refine wpAny_pure ⟨_,rfl,?_⟩
 show Q (.ref g4.objs.size) _
 rw [sz]
 refine hQ _ (Heap.get?_push_of_some _ (k4.extBut _ _ D.i2z.symm (k2.extBut _ _ D.i1z.symm z1)))
  (r2.at (fun o e => Heap.get?_push_of_some _ (k4.extBut _ o D.i12 e)) fun o e => Heap.get?_push_of_some _ (k4.extBut _ o D.l1i2 e))
  (r4.at (fun o e => Heap.get?_push_of_some _ e) fun o e => Heap.get?_push_of_some _ e) ?_ fun c o c1 c2 c3 c4 e => Heap.get?_push_of_some _ (q4 c o c1 c3 c4 e)
 rw [← sz]
 exact Heap.get?_push_size _ rfl
theorem b1L {T : Addr} {f : Bool} {oT : Obj} {Q : Fin → Shared → Prop} (hh : A.handled = none) (D : ZipApart z TI TO i1 i2 l1 l2)
  (hz : C8 s.heap z TI TO (rawInt T) (.bool f)) (hT : s.heap.get? T = some oT) (hTI : IsPair s.heap TI (.ref i1) (.ref i2)) (h1 : RwIt s.heap i1 l1 xs k) (h2 : RwIt s.heap i2 l2 ys k) (hend : xs[k]? = none ∨ ys[k]? = none)
  (hE : ∀ h' e,(∀ c o,c ≠ z → c ≠ TO → c ≠ i1 → c ≠ i2 → s.heap.get? c = some o → h'.get? c = some o) → (∃ o,h'.get? e = some o ∧ o.cls = .type "StopIteration") → E (.ref e) { s with heap := h' }) :
  wpAny (model prog w) A (Builtin.«zip.__next__» ⟨[.ref z],[]⟩) Q E s:= by
 show wpAny _ _ (field (.ref z) 2 >>= _) _ _ _
 refine wpAny_bind (wpAny_field hz rfl (x := .bool false) rfl ?_)
 show wpAny _ _ (field (.ref z) 3 >>= _) _ _ _
 refine wpAny_bind (wpAny_field hz rfl (x := .ref TI) rfl ?_)
 refine wpAny_bind (wpAny_seqItems hTI rfl ?_)
 show wpAny _ _ (Builtin.SmallTypes.ownedTupleIsFree (.ref z) >>= _) _ _ _
 refine wpAny_bind (a5o hz hT fun g1 z1 k1 => ?_)
 simp only [Bool.false_eq_true,if_false]
 simp only [List.forIn_toArray,List.forIn_cons,List.forIn_nil]
 refine wpAny_bind (wpAny_bind (wpAny_bind (wpAny_holding ?_)))
 show wpAny _ _ (Builtin.SmallTypes.nextOf (.ref i1) >>= _) _ _ _
 cases hx : xs[k]? with
 | none=>
  refine wpAny_bind (a0I hh (h1.at (fun o e => k1.extBut _ o D.i1z e) fun o e => k1.extBut _ o D.l1z e) hx fun g2 e k2 he => ?_)
  exact hE g2 e (fun c o c1 _ c3 _ x => k2 _ _ c3 (k1.extBut _ _ c1 x)) he
 | some x=>
  have hy : ys[k]? = none:= by
   rcases hend with h | h
   ·rw [hx] at h; cases h
   ·exact h
  refine wpAny_bind (V1 (h1.at (fun o e => k1.extBut _ o D.i1z e) fun o e => k1.extBut _ o D.l1z e) D.l1i1 hx fun g2 r2 k2 => wpAny_pure ?_)
  refine wpAny_pure ?_
  refine wpAny_bind (wpAny_bind (wpAny_holding ?_))
  show wpAny _ _ (Builtin.SmallTypes.nextOf (.ref i2) >>= _) _ _ _
  refine wpAny_bind (a0I hh (h2.at (fun o e => k2.extBut _ o D.i12.symm (k1.extBut _ o D.i2z e)) fun o e => k2.extBut _ o D.l2i1 (k1.extBut _ o D.l2z e)) hy fun g4 e k4 he => ?_)
  exact hE g4 e (fun c o c1 c2 c3 c4 x => k4 _ _ c4 (k2.extBut _ _ c3 (k1.extBut _ _ c1 x))) he
structure ZSt (h : Heap) (z TI TO i1 i2 l1 l2 S : Addr) (xs ys : Array Value) (k : Nat) : Prop where
 ti : IsPair h TI (.ref i1) (.ref i2)
 r1 : RwIt h i1 l1 xs k
 r2 : RwIt h i2 l2 ys k
 zz : (C8 h z TI TO .none (.bool false) ∧ ∃ a b,IsPair h TO a b) ∨ ∃ (T : Addr) (f : Bool) (oT : Obj),C8 h z TI TO (rawInt T) (.bool f) ∧ h.get? T = some oT ∧ T ≠ z ∧ T ≠ TO ∧ T ≠ i1 ∧ T ≠ i2 ∧ T ≠ S
theorem b0E {S : Addr} {x y : Value} {Q : Option Value → Shared → Prop} (D : ZipApart z TI TO i1 i2 l1 l2) (st : ZSt s.heap z TI TO i1 i2 l1 l2 S xs ys k) (hS : S < s.heap.objs.size) (hTO : TO < s.heap.objs.size) (hx : xs[k]? = some x) (hy : ys[k]? = some y)
  (hQ : ∀ h',ZSt h' z TI TO i1 i2 l1 l2 S xs ys (k + 1) → IsPair h' s.heap.objs.size x y → (∀ c o,c ∉ [z,TO,i1,i2] → s.heap.get? c = some o → h'.get? c = some o) → Q (some (.ref s.heap.objs.size)) { s with heap := h' }) :
  wpAny (model prog w) A (pyNext (.ref z)) Q E s:= by
 obtain ⟨ti,r1,r2,zz⟩ := st
 have K : ∀ {h' : Heap},(∀ c o,c ≠ z → c ≠ TO → c ≠ i1 → c ≠ i2 → s.heap.get? c = some o → h'.get? c = some o) → ∀ c o,c ∉ [z,TO,i1,i2] → s.heap.get? c = some o → h'.get? c = some o := fun k c o hc e => by
  simp only [List.mem_cons,List.not_mem_nil,or_false,not_or] at hc
  exact k c o hc.1 hc.2.1 hc.2.2.1 hc.2.2.2 e
 unfold pyNext
 rcases zz with ⟨hz,a,b,ho⟩ | ⟨T,f,oT,hz,hT,t1,t2,t3,t4,t5⟩
 ·have tz : s.TypeIs (.ref z) "zip" := ⟨_,hz,rfl⟩
  exact wpAny_bind (wpAny_attempt (wpAny_callSpecial?_slot (name := Str.ofString "__next__") tz PySem.F.slot_zip_next (wpAny_call_entry PySem.F.slot_zip_next tz PySem.F.entry_zip_next
   (a8H D hz ti ho r1 r2 hx hy fun h' a1 a2 a3 a4 a5 _ => wpAny_pure (hQ h' ⟨a5 _ _ D.TIz D.TITO D.TIi1 D.TIi2 ti,a2,a3,.inr ⟨_,_,_,a1,a4,Nat.ne_of_gt (Heap.lt_size hz),Nat.ne_of_gt hTO,Nat.ne_of_gt r1.lt,Nat.ne_of_gt r2.lt,Nat.ne_of_gt hS⟩⟩ a4 (K a5))) (PySem.F.args_zip_next_1 _))))
 ·have tz : s.TypeIs (.ref z) "zip" := ⟨_,hz,rfl⟩
  exact wpAny_bind (wpAny_attempt (wpAny_callSpecial?_slot (name := Str.ofString "__next__") tz PySem.F.slot_zip_next (wpAny_call_entry PySem.F.slot_zip_next tz PySem.F.entry_zip_next
   (b2K D hz hT ti r1 r2 hx hy fun h' a1 a2 a3 a4 a5 => wpAny_pure (hQ h' ⟨a5 _ _ D.TIz D.TITO D.TIi1 D.TIi2 ti,a2,a3,.inr ⟨T,true,oT,a1,a5 _ _ t1 t2 t3 t4 hT,t1,t2,t3,t4,t5⟩⟩ a4 (K a5))) (PySem.F.args_zip_next_1 _))))
theorem b2v {S : Addr} {Q : Option Value → Shared → Prop} (hh : A.handled = none) (D : ZipApart z TI TO i1 i2 l1 l2) (st : ZSt s.heap z TI TO i1 i2 l1 l2 S xs ys k) (hend : xs[k]? = none ∨ ys[k]? = none)
  (hQ : ∀ h',(∀ c o,c ∉ [z,TO,i1,i2] → s.heap.get? c = some o → h'.get? c = some o) → Q none { s with heap := h' }) : wpAny (model prog w) A (pyNext (.ref z)) Q E s:= by
 obtain ⟨ti,r1,r2,zz⟩ := st
 have K : ∀ {h' : Heap},(∀ c o,c ≠ z → c ≠ TO → c ≠ i1 → c ≠ i2 → s.heap.get? c = some o → h'.get? c = some o) → ∀ c o,c ∉ [z,TO,i1,i2] → s.heap.get? c = some o → h'.get? c = some o := fun k c o hc e => by
  simp only [List.mem_cons,List.not_mem_nil,or_false,not_or] at hc
  exact k c o hc.1 hc.2.1 hc.2.2.1 hc.2.2.2 e
 unfold pyNext
 rcases zz with ⟨hz,a,b,ho⟩ | ⟨T,f,oT,hz,hT,t1,t2,t3,t4,t5⟩
 ·have tz : s.TypeIs (.ref z) "zip" := ⟨_,hz,rfl⟩
  refine wpAny_bind (wpAny_attempt (wpAny_callSpecial?_slot (name := Str.ofString "__next__") tz PySem.F.slot_zip_next (wpAny_call_entry PySem.F.slot_zip_next tz PySem.F.entry_zip_next (b0Z hh D hz ti ho r1 r2 hend fun h' e hk he => ?_) (PySem.F.args_zip_next_1 _))))
  obtain ⟨o,ho,hc⟩ := he
  refine wpAny_bind (wpAny_isInstance (T := "StopIteration") (b := true) ⟨o,ho,hc⟩ isSubtype_stop ?_)
  exact wpAny_pure (hQ _ (K hk))
 ·have tz : s.TypeIs (.ref z) "zip" := ⟨_,hz,rfl⟩
  refine wpAny_bind (wpAny_attempt (wpAny_callSpecial?_slot (name := Str.ofString "__next__") tz PySem.F.slot_zip_next (wpAny_call_entry PySem.F.slot_zip_next tz PySem.F.entry_zip_next (b1L hh D hz hT ti r1 r2 hend fun h' e hk he => ?_) (PySem.F.args_zip_next_1 _))))
  obtain ⟨o,ho,hc⟩ := he
  refine wpAny_bind (wpAny_isInstance (T := "StopIteration") (b := true) ⟨o,ho,hc⟩ isSubtype_stop ?_)
  exact wpAny_pure (hQ _ (K hk))
end
structure LW (prog : Program) (w : World) (A : Around) (I S : Addr) (wr : List Addr) (n : Nat) (P : Nat → Value → Heap → Prop) (St : Nat → Heap → Prop) : Prop where
 item : ∀ (i : Nat) (s : Shared) (Q : Option Value → Shared → Prop) (E : Value → Shared → Prop),i < n → St i s.heap → S < s.heap.objs.size →
  (∀ v h',P i v h' → St (i + 1) h' → (∀ j u,P j u s.heap → u ≠ v) → (∀ b o,b ∉ wr → s.heap.get? b = some o → h'.get? b = some o) → Q (some v) { s with heap := h' }) → wpAny (model prog w) A (pyNext (.ref I)) Q E s
 done : ∀ (s : Shared) (Q : Option Value → Shared → Prop) (E : Value → Shared → Prop),St n s.heap → (∀ h',(∀ b o,b ∉ wr → s.heap.get? b = some o → h'.get? b = some o) → Q none { s with heap := h' }) → wpAny (model prog w) A (pyNext (.ref I)) Q E s
 stay : ∀ i h h',St i h → (∀ b o,b ≠ S → h.get? b = some o → h'.get? b = some o) → St i h'
 pay : ∀ i v h h',P i v h → (∀ b o,b ≠ S → b ∉ wr → h.get? b = some o → h'.get? b = some o) → P i v h'
 self : ∀ (A : Around) (s : Shared) (Q : Value → Shared → Prop) (E : Value → Shared → Prop),St 0 s.heap → Q (.ref I) s → wpAny (model prog w) A (pyIter (.ref I)) Q E s
 out : S ∉ wr
section
variable {prog : Program} {w : World} {A : Around} {I S : Addr} {wr : List Addr} {n : Nat} {P : Nat → Value → Heap → Prop} {St : Nat → Heap → Prop} {s : Shared} {R : Result → Shared → Prop}
def Got (P : Nat → Value → Heap → Prop) (h : Heap) (acc : Array Value) (i : Nat) : Prop := acc.size = i ∧ (∀ j v,acc[j]? = some v → P j v h) ∧ acc.toList.Nodup
abbrev R0 (h : Heap) (S : Addr) (acc : Array Value) (c : Nat) : Prop := h.get? S = some { cls := .type "list",dict := none,data := .seq acc c,slots := #[] }
theorem b3J (W : LW prog w A.in1 I S wr n P St) (hn : n ≤ sizeLine) (res : Value) {h₁ : Heap}
  (hR : ∀ h' acc c,(∀ b o,b ≠ S → b ∉ wr → h₁.get? b = some o → h'.get? b = some o) → R0 h' S acc c → Got P h' acc n → R (.ok (.ret res)) { s with heap := h' }) :
  ∀ (k i : Nat) (h : Heap) (c : Nat) (acc : Array Value),n - i = k → i ≤ n → St i h → (∀ b o,b ≠ S → b ∉ wr → h₁.get? b = some o → h.get? b = some o) → R0 h S acc c → Got P h acc i →
   codeAny (model prog w) A (.builtin "list.extend.loop" ⟨[.ref S,.ref I,res],[]⟩) R { s with heap := h }:= by
 intro k
 induction k with
 | zero=>
  intro i h c acc hk hi hst kp hS hG
  have e : i = n := by omega
  subst e
  refine codeAny_builtin PySem.F.entry_extend_loop ?_
  rw [Around.under_plainId PySem.F.plain_extend_loop _]
  show wpAny _ A.in1 (pyNext (.ref I) >>= _) _ _ _
  refine wpAny_bind (W.done { s with heap := h } _ _ hst fun h' he => ?_)
  exact wpAny_pure (hR h' acc c (fun b o h1 h2 e => he b o h2 (kp b o h1 h2 e)) (he S _ W.out hS) ⟨hG.1,fun j v e => W.pay j v h h' (hG.2.1 j v e) fun b o _ h2 e => he b o h2 e,hG.2.2⟩)
 | succ k ih=>
  intro i h c acc hk hi hst kp hS hG
  have hlt : i < n := by omega
  refine codeAny_builtin PySem.F.entry_extend_loop ?_
  rw [Around.under_plainId PySem.F.plain_extend_loop _]
  show wpAny _ A.in1 (pyNext (.ref I) >>= _) _ _ _
  refine wpAny_bind (W.item i { s with heap := h } _ _ hlt hst (Heap.lt_size hS) fun v h' hP hst' hne he => ?_)
  dsimp only at he hne ⊢
  have hS' : R0 h' S acc c := he S _ W.out hS
  have up : ∀ b o,b ≠ S → h'.get? b = some o → (h'.update S (Obj.mapSeq (·.push v))).get? b = some o := fun b o hb e => (Heap.get?_update_other _ _ (Ne.symm hb)).trans e
  show wpAny _ A.in1 (updateSeq S (·.push v) >>= _) _ _ _
  refine wpAny_bind ?_
  have hsz := hG.1
  refine wpAny_updateSeq hS' rfl (wpAny_pure ⟨plainId_quiet PySem.F.plain_extend_loop _,ih (i + 1) _ _ (acc.push v) (by omega) hlt (W.stay _ h' _ hst' up)
   (fun b o h1 h2 e => up b o h1 (he b o h2 (kp b o h1 h2 e))) (Heap.get?_update_self _ hS' rfl) ⟨by rw [Array.size_push,hsz],fun j x hj => ?_,?_⟩⟩) (by rw [hsz]; omega) (by show (acc.push v).size ≤ sizeLine + 1; rw [Array.size_push,hsz]; omega)
  ·rw [Array.getElem?_push] at hj
   split at hj
   ·rename_i e
    cases hj
    rw [e,hsz]
    exact W.pay i v h' _ hP fun b o h1 _ e => up b o h1 e
   ·exact W.pay j x h _ (hG.2.1 j x hj) fun b o h1 h2 e => up b o h1 (he b o h2 e)
  ·rw [Array.toList_push]
   refine List.nodup_append.mpr ⟨hG.2.2,by simp,fun a ha b hb => ?_⟩
   have e : b = v := by simpa using hb
   subst e
   obtain ⟨j,hj⟩ := List.mem_iff_getElem?.mp ha
   exact hne j a (hG.2.1 j a (by simpa using hj))
theorem a9T {T : String} (W : LW prog w A.in1 I S wr n P St) (hn : n ≤ sizeLine) (hT : s.TypeIs (.ref I) T) (hl : (Value.type T == Value.type "list") = false) (ht : (Value.type T == Value.type "tuple") = false)
  (nl : typeLookup (.type T) "__len__" = pure none) (nh : typeLookup (.type T) "__length_hint__" = pure none) (hst : St 0 s.heap) (hSI : S ≠ I) (res : Value) (c₀ : Nat) (hS : R0 s.heap S #[] c₀)
  (hR : ∀ h' acc c,(∀ b o,b ≠ S → b ∉ wr → s.heap.get? b = some o → h'.get? b = some o) → R0 h' S acc c → Got P h' acc n → R (.ok (.ret res)) { s with heap := h' }) :
  wpAny (model prog w) A.in1 (Builtin.List.listExtendWith (.ref S) (.ref I) res)
   (fun fin s' => match fin with | .done f => R (.ok f) s' | .again c' => c'.quiet = true ∧ codeAny (model prog w) A c' R s') (fun e s' => R (.error e) s') s:= by
 have key : ∀ (h : Heap) (c₁ : Nat),(∀ b o,b ≠ S → s.heap.get? b = some o → h.get? b = some o) → R0 h S #[] c₁ →
   codeAny (model prog w) A (.builtin "list.extend.loop" ⟨[.ref S,.ref I,res],[]⟩) R { s with heap := h } := fun h c₁ hk hS₁=>
  b3J (h₁ := s.heap) W hn res hR n 0 h c₁ #[] (Nat.sub_zero _) (Nat.zero_le _) (W.stay 0 _ h hst hk) (fun b o h1 _ e => hk b o h1 e) hS₁ ⟨rfl,fun j v e => by simp at e,by simp⟩
 unfold Builtin.List.listExtendWith
 refine wpAny_bind (wpAny_typeOf hT ?_)
 have h1 : Builtin.List.listSameRef (.ref S) (.ref I) = false := by simp [Builtin.List.listSameRef,hSI]
 simp only [h1,hl,ht,Bool.or_false,Bool.false_eq_true,if_false]
 refine wpAny_bind (W.self _ _ _ _ hst ?_)
 refine wpAny_bind (wpAny_holding ?_)
 unfold Builtin.List.listLengthHint
 refine wpAny_bind (wpAny_specialOf hT nl ?_)
 show wpAny _ A.in1 (specialOf (Value.ref I) (Str.ofString "__length_hint__") >>= _) _ _ _
 refine wpAny_bind (wpAny_specialOf hT nh ?_)
 refine wpAny_pure ?_
 show wpAny _ A.in1 (rule "list.extend.makes-room" >>= fun _ => Builtin.List.listTouch (.ref S) >>= fun _=>
  again (.builtin "list.extend.loop" ⟨[.ref S,.ref I,res],[]⟩)) _ _ _
 refine wpAny_bind (wpAny_rule ?_)
 refine wpAny_bind ?_
 show wpAny _ A.in1 (updateSeq S (·.push .none) >>= fun _ => updateSeq S (·.pop)) _ _ _
 refine wpAny_bind (wpAny_updateSeq hS rfl ?_)
 have hS₂ := Heap.get?_update_self (Obj.mapSeq (·.push Value.none)) hS rfl
 refine wpAny_updateSeq (hz := by seq_fits) hS₂ rfl ?_
 have hS₃ := Heap.get?_update_self (Obj.mapSeq (·.pop)) hS₂ rfl
 refine wpAny_pure ⟨plainId_quiet PySem.F.plain_extend_loop _,key _ _ (fun b o hb e => ?_) hS₃⟩
 exact (Heap.get?_update_other _ _ (Ne.symm hb)).trans ((Heap.get?_update_other _ _ (Ne.symm hb)).trans e)
theorem b27 {T : String} {E : Value → Shared → Prop} {Q : Value → Shared → Prop} (W : LW prog w A.in1.in1 I s.heap.objs.size wr n P St) (hn : n ≤ sizeLine) (hT : s.TypeIs (.ref I) T) (hl : (Value.type T == Value.type "list") = false) (ht : (Value.type T == Value.type "tuple") = false)
  (nl : typeLookup (.type T) "__len__" = pure none) (nh : typeLookup (.type T) "__length_hint__" = pure none) (hst : St 0 s.heap)
  (hQ : ∀ h' acc c,(∀ b o,b ∉ wr → s.heap.get? b = some o → h'.get? b = some o) → R0 h' s.heap.objs.size acc c → Got P h' acc n → Q (.ref s.heap.objs.size) { s with heap := h' }) :
  wpAny (model prog w) A (call (.type "list") [.ref I]) Q E s:= by
 refine callType_codes (Q₁ := fun obj s₁ => obj = .ref s.heap.objs.size ∧ s₁ = { s with heap := s.heap.push { cls := .type "list",data := .seq #[] } }) PySem.F.called_list (PySem.F.typeCall_list_1 _) PySem.F.entry_list_init
  (code_list_new _ ⟨rfl,rfl⟩) fun obj s₁ h₁ => ?_
 obtain ⟨rfl,rfl⟩ := h₁
 have hS : (s.heap.push { cls := .type "list",data := .seq #[] }).get? s.heap.objs.size = some { cls := .type "list",data := .seq #[] } := Heap.get?_push_size _ rfl
 obtain ⟨oI,hoI,hcI⟩ := id hT
 have hI : I < s.heap.objs.size := Heap.lt_size hoI
 refine ⟨⟨_,hS,rfl⟩,PySem.F.args_list_init_2 _ _,?_⟩
 show wpAny _ _ (do let old ← Builtin.List.listItems (.ref s.heap.objs.size); Builtin.List.listUpdate (.ref s.heap.objs.size) (fun _ => #[]); letGo old.toList.reverse; Builtin.List.listExtendWith (.ref s.heap.objs.size) (.ref I) .none) _ _ _
 refine wpAny_bind ?_
 unfold Builtin.List.listItems
 refine wpAny_bind (wpAny_seqItems hS rfl (wpAny_pure ?_))
 show wpAny _ _ (updateSeq s.heap.objs.size (fun _ => #[]) >>= fun _ => letGo (#[] : Array Value).toList.reverse >>= fun _ => Builtin.List.listExtendWith (.ref s.heap.objs.size) (.ref I) .none) _ _ _
 refine wpAny_bind (wpAny_updateSeq hS rfl ?_)
 have hS₂ := Heap.get?_update_self (Obj.mapSeq (fun _ => (#[] : Array Value))) hS rfl
 have oth : ∀ b o,b ≠ s.heap.objs.size → s.heap.get? b = some o → ((s.heap.push { cls := .type "list",data := .seq #[] }).update s.heap.objs.size (Obj.mapSeq (fun _ => (#[] : Array Value)))).get? b = some o:=
  fun b o hb e => (Heap.get?_update_other _ _ (Ne.symm hb)).trans (Heap.get?_push_of_some _ e)
 refine wpAny_bind (wpAny_letGo ?_)
 refine a9T (A := A.in1) W hn ⟨oI,oth I _ (Nat.ne_of_lt hI) hoI,hcI⟩ hl ht nl nh (W.stay 0 s.heap _ hst oth) (Nat.ne_of_gt hI) .none _ hS₂ fun h' acc c hk hS' hG => ?_
 exact ⟨rfl,hQ h' acc c (fun b o h2 e => hk b o (Nat.ne_of_lt (Heap.lt_size e)) h2 (oth b o (Nat.ne_of_lt (Heap.lt_size e)) e)) hS' hG⟩
end
theorem b1r : typeLookup (.type "zip") "__len__" = pure none := by rw [typeLookup_type,builtinLookup_eq_fast]; kernel_rfl
theorem b05 : typeLookup (.type "zip") "__length_hint__" = pure none := by rw [typeLookup_type,builtinLookup_eq_fast]; kernel_rfl
theorem b1Q {prog : Program} {w : World} {A : Around} {z TI TO i1 i2 l1 l2 S : Addr} {xs ys : Array Value} (hh : A.handled = none) (D : ZipApart z TI TO i1 i2 l1 l2) (hTO : TO < S) (hS : S ∉ [z,TI,TO,i1,i2,l1,l2]) (top : ∀ b ∈ [z,TO,i1,i2],b < S) :
  LW prog w A z S [z,TO,i1,i2] (min xs.size ys.size) (fun j v h => ∃ a x y,v = .ref a ∧ S ≤ a ∧ a ≠ S ∧ xs[j]? = some x ∧ ys[j]? = some y ∧ IsPair h a x y) (fun k h => ZSt h z TI TO i1 i2 l1 l2 S xs ys k) where
 item := fun i s Q E hi st hs hQ => by
  have hix : i < xs.size := Nat.lt_of_lt_of_le hi (Nat.min_le_left ..)
  have hiy : i < ys.size := Nat.lt_of_lt_of_le hi (Nat.min_le_right ..)
  exact b0E D st hs (Nat.lt_trans hTO hs) (Array.getElem?_eq_getElem hix) (Array.getElem?_eq_getElem hiy) fun h' a1 a2 a3 => hQ _ h' ⟨_,_,_,rfl,Nat.le_of_lt hs,Nat.ne_of_gt hs,Array.getElem?_eq_getElem hix,Array.getElem?_eq_getElem hiy,a2⟩ a1 (fun j u ⟨a,x,y,e,_,_,_,_,q⟩ z => by
   rw [e] at z; cases z; exact absurd (Heap.lt_size q) (Nat.lt_irrefl _)) a3
 done := fun s Q E st hQ => by
  have hend : xs[min xs.size ys.size]? = none ∨ ys[min xs.size ys.size]? = none:= by
   rcases Nat.le_total xs.size ys.size with h | h
   ·exact .inl (by rw [Nat.min_eq_left h]; exact Array.getElem?_eq_none (Nat.le_refl _))
   ·exact .inr (by rw [Nat.min_eq_right h]; exact Array.getElem?_eq_none (Nat.le_refl _))
  exact b2v hh D st hend hQ
 stay := fun i h h' st k => by
  simp only [List.mem_cons,List.not_mem_nil,or_false,not_or] at hS
  obtain ⟨n1,n2,n3,n4,n5,n6,n7⟩ := hS
  obtain ⟨ti,r1,r2,zz⟩ := st
  refine ⟨k _ _ (Ne.symm n2) ti,r1.at (fun o e => k _ o (Ne.symm n4) e) (fun o e => k _ o (Ne.symm n6) e),r2.at (fun o e => k _ o (Ne.symm n5) e) (fun o e => k _ o (Ne.symm n7) e),?_⟩
  rcases zz with ⟨hz,a,b,ho⟩ | ⟨T,f,oT,hz,hT,t1,t2,t3,t4,t5⟩
  ·exact .inl ⟨k _ _ (Ne.symm n1) hz,a,b,k _ _ (Ne.symm n3) ho⟩
  ·exact .inr ⟨T,f,oT,k _ _ (Ne.symm n1) hz,k _ _ t5 hT,t1,t2,t3,t4,t5⟩
 pay := fun i v h h' p k => by
  obtain ⟨a,x,y,e,ha,na,hx,hy,q⟩ := p
  refine ⟨a,x,y,e,ha,na,hx,hy,k _ _ na (fun hb => ?_) q⟩
  exact absurd (Nat.lt_of_lt_of_le (top a hb) ha) (Nat.lt_irrefl _)
 self := fun A s Q E st hQ => by
  have tz : s.TypeIs (.ref z) "zip":= by
   rcases st.zz with ⟨hz,_⟩ | ⟨T,f,oT,hz,_⟩ <;> exact ⟨_,hz,rfl⟩
  refine wpAny_pyIter_slot tz PySem.F.slot_zip_iter (wpAny_call_entry PySem.F.slot_zip_iter tz PySem.F.entry_zip_iter ?_ (PySem.F.args_zip_iter_1 _))
  show wpAny _ _ (ret (.ref z)) _ _ s
  exact wpAny_pure ⟨_,rfl, "zip",_,tz,PySem.F.slot_zip_next.lookup,hQ⟩
 out := fun h => hS (by
  simp only [List.mem_cons,List.not_mem_nil,or_false] at h ⊢
  rcases h with h | h | h | h <;> simp [h])
def L7 (t : Bool) (l : Addr) : Obj := { cls := .type (if t then "tuple_iterator" else "list_iterator"),data := .fields #[.ref l,.int 0 0] }
def RwB (t : Bool) (h : Heap) (l : Addr) (xs : Array Value) : Prop := if t then h.IsTuple l xs else h.IsList l xs
section
variable {prog : Program} {w : World} {A : Around} {E : Value → Shared → Prop} {s : Shared}
theorem a4K {t : Bool} {l : Addr} {xs : Array Value} {Q : Value → Shared → Prop} (h : RwB t s.heap l xs) (hQ : Q (.ref s.heap.objs.size) { s with heap := s.heap.push (L7 t l) }) : wpAny (model prog w) A (pyIter (.ref l)) Q E s:= by
 cases t with
 | true => exact wpAny_pyIter_tuple h hQ
 | false => exact wpAny_pyIter_list h hQ
end
abbrev zq1 (h : Heap) (t1 : Bool) (l1 : Addr) : Heap := h.push (L7 t1 l1)
abbrev zq2 (h : Heap) (t1 t2 : Bool) (l1 l2 : Addr) : Heap := (zq1 h t1 l1).push (L7 t2 l2)
abbrev zq3 (h : Heap) (t1 t2 : Bool) (l1 l2 : Addr) : Heap := (zq2 h t1 t2 l1 l2).push { cls := .type "tuple",data := .seq #[.ref h.objs.size,.ref (zq1 h t1 l1).objs.size] }
abbrev zq4 (h : Heap) (t1 t2 : Bool) (l1 l2 : Addr) : Heap := (zq3 h t1 t2 l1 l2).push { cls := .type "tuple",data := .seq #[.none,.none] }
abbrev zq5 (h : Heap) (t1 t2 : Bool) (l1 l2 : Addr) : Heap := (zq4 h t1 t2 l1 l2).push { cls := .type "zip",data := .fields #[.none,.bool false,.bool false,.ref (zq2 h t1 t2 l1 l2).objs.size,.ref (zq3 h t1 t2 l1 l2).objs.size] }
theorem RwB.push {t : Bool} {h : Heap} {l : Addr} {xs : Array Value} (x : RwB t h l xs) (o : Obj) : RwB t (h.push o) l xs:= by
 cases t with
 | true => exact Heap.IsTuple.push x o
 | false => exact Heap.IsList.push x o
theorem b2F (t1 t2 : Bool) (l1 l2 : Addr) (xs ys : Array Value) :
  Meets (Builtin.«zip.__new__» ⟨[.type "zip",.ref l1,.ref l2],[]⟩) (fun _ R s => RwB t1 s.heap l1 xs ∧ RwB t2 s.heap l2 ys ∧
   R (.ok (.ret (.ref (zq4 s.heap t1 t2 l1 l2).objs.size))) { s with heap := zq5 s.heap t1 t2 l1 l2 }):=
 .of_wp fun prog w A R s h => by
  obtain ⟨hp,g,d,tk,os⟩ := s; obtain ⟨hl1,hl2,h⟩ := h
  have hsub := sub_zip
  have hL1 : RwB t1 (Shared.heap ⟨hp,g,d,tk,os⟩) l1 xs := hl1
  have hL2 : RwB t2 (Shared.heap ⟨hp.push (L7 t1 l1),g,d,tk,os⟩) l2 ys := RwB.push hl2 _
  wp_walk using a4K hL1,a4K hL2
  exact ⟨_,rfl,h⟩
section
variable {prog : Program} {w : World} {A : Around} {E : Value → Shared → Prop} {s : Shared}
theorem RwB.it {t : Bool} {h : Heap} {i l : Addr} {xs : Array Value} (x : RwB t h l xs) (e : h.get? i = some (L7 t l)) : RwIt h i l xs 0:= by
 cases t with
 | true => exact .inr ⟨⟨_,e,rfl,rfl⟩,x⟩
 | false => exact .inl ⟨⟨_,e,rfl,rfl⟩,x⟩
theorem RwB.at {t : Bool} {h h' : Heap} {l : Addr} {xs : Array Value} (x : RwB t h l xs) (e : ∀ o,h.get? l = some o → h'.get? l = some o) : RwB t h' l xs:= by
 cases t with
 | true => obtain ⟨o,q,r⟩ := x; exact ⟨o,e o q,r⟩
 | false => obtain ⟨o,q,r⟩ := x; exact ⟨o,e o q,r⟩
theorem RwB.lt {t : Bool} {h : Heap} {l : Addr} {xs : Array Value} (x : RwB t h l xs) : l < h.objs.size:= by
 cases t with
 | true => obtain ⟨o,q,r⟩ := x; exact Heap.lt_size q
 | false => obtain ⟨o,q,r⟩ := x; exact Heap.lt_size q
def a7o (h : Heap) (m : Nat) (xs ys : Array Value) : Prop := ∃ l1 l2,ZipApart (m + 4) (m + 2) (m + 3) m (m + 1) l1 l2 ∧ l1 < m ∧ l2 < m ∧ h.objs.size = m + 5 ∧ ∀ S,m + 5 ≤ S → ZSt h (m + 4) (m + 2) (m + 3) m (m + 1) l1 l2 S xs ys 0
def b3C (h : Heap) (m : Nat) (t1 t2 : Bool) (l1 l2 : Addr) : Prop := ZipApart (m + 4) (m + 2) (m + 3) m (m + 1) l1 l2 ∧ h.get? m = some (L7 t1 l1) ∧ h.get? (m + 1) = some (L7 t2 l2) ∧ IsPair h (m + 2) (.ref m) (.ref (m + 1)) ∧ C8 h (m + 4) (m + 2) (m + 3) .none (.bool false) ∧ ∃ a b,IsPair h (m + 3) a b
theorem a79 {t1 t2 : Bool} {l1 l2 : Addr} {xs ys : Array Value} {Q : Value → Shared → Prop} (h1 : RwB t1 s.heap l1 xs) (h2 : RwB t2 s.heap l2 ys)
  (h : ∀ h',a7o h' s.heap.objs.size xs ys → (∀ c o,s.heap.get? c = some o → h'.get? c = some o) → b3C h' s.heap.objs.size t1 t2 l1 l2 → Q (.ref (s.heap.objs.size + 4)) { s with heap := h' }) :
  wpAny (model prog w) A (call (.type "zip") [.ref l1,.ref l2]) Q E s:= by
 refine callType_new PySem.F.called_zip (by decide) (PySem.F.typeCall_zip_2 _ _) (PySem.F.newCall_zip_2 _ _) (fun obj => PySem.F.args_object_init_3 obj _ _) PySem.F.entry_zip_new
  (b2F t1 t2 l1 l2 xs ys) ⟨h1,h2,?_⟩
 have z1 : (zq1 s.heap t1 l1).objs.size = s.heap.objs.size + 1 := Heap.size_push ..
 have z2 : (zq2 s.heap t1 t2 l1 l2).objs.size = s.heap.objs.size + 2 := by rw [Heap.size_push,z1]
 have z3 : (zq3 s.heap t1 t2 l1 l2).objs.size = s.heap.objs.size + 3 := by rw [Heap.size_push,z2]
 have z4 : (zq4 s.heap t1 t2 l1 l2).objs.size = s.heap.objs.size + 4 := by rw [Heap.size_push,z3]
 have z5 : (zq5 s.heap t1 t2 l1 l2).objs.size = s.heap.objs.size + 5 := by rw [Heap.size_push,z4]
 have fr : ∀ t l,(L7 t l).isFreed = false := fun t l => rfl
 have g5 : (zq5 s.heap t1 t2 l1 l2).get? (zq4 s.heap t1 t2 l1 l2).objs.size = some _ := Heap.get?_push_size _ rfl
 have g4 : (zq5 s.heap t1 t2 l1 l2).get? (zq3 s.heap t1 t2 l1 l2).objs.size = some _ := Heap.get?_push_of_some _ (Heap.get?_push_size _ rfl)
 have g3 : (zq5 s.heap t1 t2 l1 l2).get? (zq2 s.heap t1 t2 l1 l2).objs.size = some _ := Heap.get?_push_of_some _ (Heap.get?_push_of_some _ (Heap.get?_push_size _ rfl))
 have g2 : (zq5 s.heap t1 t2 l1 l2).get? (zq1 s.heap t1 l1).objs.size = some (L7 t2 l2) := Heap.get?_push_of_some _ (Heap.get?_push_of_some _ (Heap.get?_push_of_some _ (Heap.get?_push_size _ (fr _ _))))
 have g1 : (zq5 s.heap t1 t2 l1 l2).get? s.heap.objs.size = some (L7 t1 l1) := Heap.get?_push_of_some _ (Heap.get?_push_of_some _ (Heap.get?_push_of_some _ (Heap.get?_push_of_some _ (Heap.get?_push_size _ (fr _ _)))))
 show _ ∧ _
 rw [z2,z3,z4] at g5
 rw [z1,z2] at g3
 rw [z3] at g4
 rw [z1] at g2
 rw [z4]
 have up : ∀ c o,s.heap.get? c = some o → (zq5 s.heap t1 t2 l1 l2).get? c = some o := fun c o x=>
  Heap.get?_push_of_some _ (Heap.get?_push_of_some _ (Heap.get?_push_of_some _ (Heap.get?_push_of_some _ (Heap.get?_push_of_some _ x))))
 refine ⟨⟨_,g5,rfl⟩,h _ ⟨l1,l2,PyProof.Rows.zipApart_new h1.lt h2.lt,h1.lt,h2.lt,z5,fun S hS => ⟨g3,(h1.at fun o e => up _ o e).it g1,(h2.at fun o e => up _ o e).it g2,.inl ⟨g5,_,_,g4⟩⟩⟩ up ⟨PyProof.Rows.zipApart_new h1.lt h2.lt,g1,g2,g3,g5,_,_,g4⟩⟩
structure LZ (h h' : Heap) (S : Addr) (xs ys : Array Value) (as : List Addr) (c : Nat) : Prop where
 keep : ∀ b o,h.get? b = some o → h'.get? b = some o
 low : h.objs.size ≤ S
 lst : R0 h' S (as.map Value.ref).toArray c
 len : as.length = min xs.size ys.size
 new : ∀ a ∈ as,h.objs.size ≤ a ∧ a ≠ S
 nd : as.Nodup
 at' : ∀ (j : Nat) a,as[j]? = some a → ∃ x y,xs[j]? = some x ∧ ys[j]? = some y ∧ IsPair h' a x y
theorem b3K {P : Nat → Value → Heap → Prop} {h : Heap} {acc : Array Value} {n : Nat} (g : Got P h acc n) (hp : ∀ j v,P j v h → ∃ a,v = .ref a) : ∃ as : List Addr,acc = (as.map Value.ref).toArray:= by
 have : ∀ l : List Value,(∀ v ∈ l,∃ a,v = Value.ref a) → ∃ as : List Addr,l = as.map Value.ref:= by
  intro l
  induction l with
  | nil => exact fun _ => ⟨[],rfl⟩
  | cons v r ih=>
   intro hv
   obtain ⟨a,e⟩ := hv v (.head _)
   obtain ⟨as,e'⟩ := ih fun u hu => hv u (.tail _ hu)
   exact ⟨a :: as,by rw [e,e']; rfl⟩
 obtain ⟨as,e⟩ := this acc.toList fun v hv => by
  obtain ⟨j,hj⟩ := List.mem_iff_getElem?.mp hv
  exact hp j v (g.2.1 j v (by simpa using hj))
 exact ⟨as,by rw [← e,Array.toArray_toList]⟩
theorem b2r {m : Nat} {h₀ : Heap} {xs ys : Array Value} {Q : Value → Shared → Prop} (hh : A.handled = none) (Z : a7o s.heap m xs ys) (k₀ : ∀ c o,h₀.get? c = some o → s.heap.get? c = some o) (hm : h₀.objs.size = m) (hn : xs.size ≤ sizeLine)
  (hQ : ∀ S h' as c,LZ h₀ h' S xs ys as c → Q (.ref S) { s with heap := h' }) : wpAny (model prog w) A (call (.type "list") [.ref (m + 4)]) Q E s:= by
 obtain ⟨l1,l2,D,b1,b2,sz,st⟩ := Z
 have st0 := st s.heap.objs.size (by omega)
 have tz : s.TypeIs (.ref (m + 4)) "zip":= by
  rcases st0.zz with ⟨hz,_⟩ | ⟨T,f,oT,hz,_⟩ <;> exact ⟨_,hz,rfl⟩
 refine b27 (T := "zip") (b1Q (A := A.in1.in1) hh D (show (m + 3 : Nat) < s.heap.objs.size by omega) (by
  simp only [List.mem_cons,List.not_mem_nil,or_false,not_or]
  have ms : m ≤ s.heap.objs.size := by omega
  exact ⟨show (s.heap.objs.size : Nat) ≠ m + 4 by omega,show (s.heap.objs.size : Nat) ≠ m + 2 by omega,show (s.heap.objs.size : Nat) ≠ m + 3 by omega,show (s.heap.objs.size : Nat) ≠ m by omega,show (s.heap.objs.size : Nat) ≠ m + 1 by omega,
   Nat.ne_of_gt (Nat.lt_of_lt_of_le b1 ms),Nat.ne_of_gt (Nat.lt_of_lt_of_le b2 ms)⟩) (by
  simp only [List.mem_cons,List.not_mem_nil,or_false]
  intro b hb
  have ml : ∀ j,j ≤ 4 → m + j < s.heap.objs.size := fun j _ => by omega
  rcases hb with e | e | e | e
  ·rw [e]; exact ml 4 (by omega)
  ·rw [e]; exact ml 3 (by omega)
  ·rw [e]; exact ml 0 (by omega)
  ·rw [e]; exact ml 1 (by omega))) (Nat.le_trans (Nat.min_le_left ..) hn) tz (by decide) (by decide) b1r b05 st0 fun h' acc c k l g => ?_
 obtain ⟨as,ea⟩ := b3K g fun j v ⟨a,_,_,e,_⟩ => ⟨a,e⟩
 subst ea
 refine hQ _ h' as c ⟨fun b o e => k b o (fun hb => ?_) (k₀ b o e),by omega,l,by simpa using g.1,fun a ha => ?_,?_,fun j a e => ?_⟩
 ·have hl : b < m := hm ▸ Heap.lt_size e
  simp only [List.mem_cons,List.not_mem_nil,or_false] at hb
  have up : ∀ j : Nat,¬ (m + j < m) := fun j => by omega
  rcases hb with e | e | e | e
  ·exact up 4 (e ▸ hl)
  ·exact up 3 (e ▸ hl)
  ·exact up 0 (e ▸ hl)
  ·exact up 1 (e ▸ hl)
 ·obtain ⟨j,hj⟩ := List.mem_iff_getElem?.mp ha
  obtain ⟨a',x,y,e,q1,q2,_⟩ := g.2.1 j (.ref a) (by simp [hj])
  cases e
  exact ⟨Nat.le_trans (show (h₀.objs.size : Nat) ≤ s.heap.objs.size by omega) q1,q2⟩
 ·have nd := g.2.2
  simp only [List.toList_toArray] at nd
  exact (List.pairwise_map.mp nd).imp fun h e => h (by rw [e])
 ·obtain ⟨a',x,y,e',q1,q2,q3,q4,q5⟩ := g.2.1 j (.ref a) (by simp [e])
  cases e'
  exact ⟨x,y,q3,q4,q5⟩
end
def F4 (H : Hp) : List (Addr × List V) → Hp
 | [] => H
 | (a,p) :: r => upd (F4 H r) a (.tup p)
section
variable {H : Hp}
theorem a0a : ∀ {ps : List (Addr × List V)} {b : Addr},(∀ q ∈ ps,q.1 ≠ b) → F4 H ps b = H b
 | [],b,h => rfl
 | (a,p) :: r,b,h => by
  show upd (F4 H r) a (.tup p) b = H b
  rw [o9 (Ne.symm (h _ (.head _)))]
  exact a0a fun q hq => h q (.tail _ hq)
theorem a7r : ∀ {ps : List (Addr × List V)} {b : Addr} {u : HO},F4 H ps b = some u → (∃ p,(b,p) ∈ ps ∧ u = .tup p) ∨ H b = some u
 | [],b,u,h => .inr h
 | (a,p) :: r,b,u,h => by
  replace h : upd (F4 H r) a (.tup p) b = some u := h
  by_cases hb : b = a
  ·subst hb; rw [A9] at h; cases h; exact .inl ⟨p,.head _,rfl⟩
  ·rw [o9 hb] at h
   rcases a7r h with ⟨p',q,e⟩ | e
   ·exact .inl ⟨p',.tail _ q,e⟩
   ·exact .inr e
theorem a7c : ∀ {ps : List (Addr × List V)} {b : Addr} {p : List V},(ps.map (·.1)).Nodup → (b,p) ∈ ps → F4 H ps b = some (.tup p)
 | (a,p') :: r,b,p,nd,h => by
  show upd (F4 H r) a (.tup p') b = _
  rcases List.mem_cons.mp h with e | h
  ·cases e; exact A9
  ·have nd' := List.nodup_cons.mp nd
   have hb : b ≠ a := fun e => nd'.1 (e ▸ List.mem_map.mpr ⟨(b,p),h,rfl⟩)
   rw [o9 hb]
   exact a7c nd'.2 h
end
theorem b0p {fs ex : List Addr} {H H' : Hp} {h h' : Heap} (k : ∀ b u,h.get? b = some u → h'.get? b = some u) (hn : ∀ b,b < h.objs.size → H' b = H b) (hs : ∀ b u,H b = some u → H' b = some u) : Un fs ex H H' h h' where
 keep := fun b u q _ _ _ => k b u q
 slot := fun b u q _ _ _ => ⟨u.slots,k b u q⟩
 free := fun b u q n _ => by rw [hn b (Heap.lt_size q)]; exact n
 there := fun b u q _ => ⟨u,k b u q⟩
 tups := fun b xs q => hs b _ q
 frzs := fun b u xs q => hs b _ q
 tbls := fun b ps q => ⟨#[],by rw [hs b _ q]; simp⟩
def prs (xs ys : List V) : List (List V) := List.zipWith (fun x y => [x,y]) xs ys
theorem a7Z {xs ys : List V} {j : Nat} {p : List V} (e : (prs xs ys)[j]? = some p) : ∃ x y,xs[j]? = some x ∧ ys[j]? = some y ∧ p = [x,y]:= by
 unfold prs at e
 rw [List.getElem?_zipWith] at e
 cases hx : xs[j]? with
 | none => rw [hx] at e; simp at e
 | some x=>
  cases hy : ys[j]? with
  | none => rw [hx,hy] at e; simp at e
  | some y => rw [hx,hy] at e; simp at e; exact ⟨x,y,rfl,rfl,e.symm⟩
def Sq (K : PySem.W.Frag) (H : Hp) (a : Addr) (xs : List V) : Prop := SqL K H a xs ∨ SqT K H a xs
def rLZ (K : PySem.W.Frag) : List V → Hp → VK → Prop := fun vs H Q => ∃ p q xs ys,vs = [.ref p,.ref q] ∧ Sq K H p xs ∧ Sq K H q ys ∧
 ∀ S as,(S :: as).Nodup → (∀ a ∈ S :: as,H a = none) → as.length = (prs xs ys).length → Q (.ref S) (upd (F4 H (as.zip (prs xs ys))) S (.lst (as.map V.ref)))
section
variable {X : Cx} {pins : List (Addr × Obj)} {σ : St} {H : Hp} {s : Shared}
theorem a6h (I : Inv X pins σ H s) {p : Addr} {xs : List V} (h : Sq X.K H p xs) : ∃ (t : Bool) (its : List Value),Vals xs its ∧ RwB t s.heap p its.toArray ∧ xs.length ≤ sizeLine:= by
 rcases h with h | h
 ·obtain ⟨its,r,⟨o,n,e,c,_,d⟩,z⟩ := I.list h
  exact ⟨false,its,r,⟨o,e,c,n,d⟩,z⟩
 ·obtain ⟨its,r,⟨o,e,c,n,d⟩,z⟩ := I.tuple h
  exact ⟨true,its,r,⟨o,e,c,n,d⟩,z⟩
theorem a5n {as : List Addr} {ps : List (List V)} (h : as.length = ps.length) : (as.zip ps).map (·.1) = as:= by
 rw [List.map_fst_zip (by omega)]
theorem Inv.lz {xs ys : List V} {it jt : List Value} {S : Addr} {h' : Heap} {as : List Addr} {c : Nat} (I : Inv X pins σ H s) (rx : Vals xs it) (ry : Vals ys jt) (zx : xs.length ≤ sizeLine) (Z : LZ s.heap h' S it.toArray jt.toArray as c) :
  (S :: as).Nodup ∧ (∀ a ∈ S :: as,H a = none) ∧ as.length = (prs xs ys).length ∧ Inv X pins σ (upd (F4 H (as.zip (prs xs ys))) S (.lst (as.map V.ref))) { s with heap := h' }:= by
 have hl : as.length = (prs xs ys).length:= by
  have e := Z.len
  simp only [List.size_toArray] at e
  rw [e,prs,List.length_zipWith,rx.length,ry.length]
 have fr : ∀ a ∈ S :: as,s.heap.objs.size ≤ a := fun a ha => by
  rcases List.mem_cons.mp ha with e | e
  ·rw [e]; exact Z.low
  ·exact (Z.new a e).1
 have nn : ∀ a ∈ S :: as,H a = none := fun a ha => I.hok.fresh (fr a ha)
 have nd : (S :: as).Nodup := List.nodup_cons.mpr ⟨fun h => (Z.new S h).2 rfl,Z.nd⟩
 have ky := a5n hl
 have ndz : ((as.zip (prs xs ys)).map (·.1)).Nodup := by rw [ky]; exact Z.nd
 have kin : ∀ q ∈ as.zip (prs xs ys),q.1 ∈ as := fun q hq => (List.of_mem_zip hq).1
 refine ⟨nd,nn,hl,?_⟩
 have hs : ∀ b u,H b = some u → upd (F4 H (as.zip (prs xs ys))) S (.lst (as.map V.ref)) b = some u := fun b u e => by
  have n : ∀ a ∈ S :: as,a ≠ b := fun a ha z => by rw [z] at ha; rw [nn b ha] at e; cases e
  rw [o9 (Ne.symm (n S (.head _))),a0a fun q hq => n _ (.tail _ (kin q hq))]
  exact e
 refine I.un (t' := s.toks) (b0p Z.keep (fun b hb => ?_) hs) fun b u e => ?_
 ·have n : ∀ a ∈ S :: as,a ≠ b := fun a ha z => absurd (Nat.lt_of_lt_of_le hb (z ▸ fr a ha)) (Nat.lt_irrefl _)
  rw [o9 (Ne.symm (n S (.head _))),a0a fun q hq => n _ (.tail _ (kin q hq))]
 ·by_cases hb : b = S
  ·subst hb
   rw [A9] at e; cases e
   refine ⟨?_,as.map Value.ref,c,?_,Z.lst⟩
   ·rw [List.length_map,hl,prs,List.length_zipWith]
    exact Nat.le_trans (Nat.min_le_left ..) zx
   ·have : ∀ l : List Addr,Vals (l.map V.ref) (l.map Value.ref) := fun l => by
     induction l with
     | nil => exact .nil
     | cons a r ih => exact .cons rfl ih
    exact this as
  ·rw [o9 hb] at e
   rcases a7r e with ⟨p,hp,rfl⟩ | e0
   ·obtain ⟨j,hj⟩ := List.mem_iff_getElem?.mp hp
    obtain ⟨ha,hpj⟩ := List.getElem?_zip_eq_some.mp hj
    obtain ⟨x,y,ex,ey,rfl⟩ := a7Z hpj
    obtain ⟨x',y',ex',ey',q⟩ := Z.at' j b ha
    obtain ⟨u1,f1,g1⟩ := rx.get ex
    obtain ⟨u2,f2,g2⟩ := ry.get ey
    have e1 : u1 = x' := by simpa [f1] using ex'
    have e2 : u2 = y' := by simpa [f2] using ey'
    subst e1; subst e2
    exact ⟨show 2 ≤ sizeLine by decide,[u1,u2],.cons g1 (.cons g2 .nil),⟨_,q,rfl,_,rfl⟩⟩
   ·exact (I.hok b u e0).stay (fun c v _ q => Z.keep c v q) (fun c q => hs c _ q) fun c xs q => hs c _ q
end
section
variable {X : Cx} {p p' pos pos' : Pos} {e : Expr} {es : List Expr} {t : TA}
theorem b0Q (hc : X.calm = true) (hgl : Gl X "list") (hml : X.mg "list" = none) (hgz : Gl X "zip") (hmz : X.mg "zip" = none) (ha : PA X (e :: es) t)
  (he : starEach (e :: es) X.env = (false,eval e X.env) :: starEach es X.env := by rfl) (hpl : (backTo pos' (starEach es X.env)).any (·.1) = false := by rfl)
  (he2 : starEach [.Call (.Name "zip" p') (e :: es) [] pos'] X.env = [(false,eval (.Call (.Name "zip" p') (e :: es) [] pos') X.env)] := by rfl) :
  PE X (.Call (.Name "list" p) [.Call (.Name "zip" p') (e :: es) [] pos'] [] pos) (tCB (rLZ X.K) t):= by
 intro pins s σ H Q I h
 refine wpAny_Call_Name_kw (S7 I hgl hml (show bootBuiltins ("list" : Str) = some (.type "list") by decide +kernel) ?_ (by decide) (by decide))
 refine PyProof.Rows.callWith_type1 ?_ he2 rfl
 rw [he2]
 show wpAny _ _ (spliced [(false,eval (.Call (.Name "zip" p') (e :: es) [] pos') X.env)]) _ _ s
 refine Calls.spliced_cons ?_
 refine wpAny_Call_Name_kw (S7 I hgz hmz (show bootBuiltins ("zip" : Str) = some (.type "zip") by decide +kernel) ?_ (by decide) (by decide))
 refine PyProof.Rows.callWith_type1 (thn (ha pos' pins s σ H _ I h) fun us s1 ⟨vs,H1,I1,r1,q1⟩ => ?_) he hpl
 obtain ⟨a,b,xs,ys,rfl,qa,qb,k⟩ := q1
 obtain ⟨u1,u2,rfl,e1,e2⟩ : ∃ u1 u2,us = [u1,u2] ∧ u1 = Value.ref a ∧ u2 = Value.ref b:= by
  cases r1 with
  | cons h1 r1=>
   cases r1 with
   | cons h2 r1 => cases r1; exact ⟨_,_,rfl,h1,h2⟩
 subst e1; subst e2
 obtain ⟨ta,it,rx,wa,za⟩ := a6h I1 qa
 obtain ⟨tb,jt,ry,wb,zb⟩ := a6h I1 qb
 refine a79 wa wb fun h1 Z1 k1 _ => ?_
 refine Calls.spliced_nil ?_
 refine b2r (h₀ := s1.heap) (I.ok.hd hc) Z1 k1 rfl (by simpa [← rx.length] using za) fun S h2 as c Z => ?_
 obtain ⟨nd,nn,hl,I2⟩ := Inv.lz I1 rx ry za Z
 exact ⟨.ref S,_,I2,rfl,k S as nd nn hl⟩
end
def U5 : D → Option (List D)
 | .tup ds => some ds
 | .lst ds => some ds
 | _ => none
def a0n (x y : D) : D := .tup [x,y]
def X4 : List D → Option (List D)
 | [a,b] => (U5 a).bind fun xs => (U5 b).map fun ys => List.zipWith a0n xs ys
 | _ => none
theorem a5D {g : Gh} {K : PySem.W.Frag} {σ : L2.St} {H : Hp} {fa : Option Addr} {O : List Addr} {s : DS} (I : GI K g σ H fa O s) : ∀ (ps : List (Addr × List V)),(ps.map (·.1)).Nodup → (∀ q ∈ ps,H q.1 = none) → GI K g σ (F4 H ps) fa O s ∧ StE fa O H fa O (F4 H ps)
 | [],_,_ => ⟨I,StE.refl⟩
 | (a,p) :: r,nd,h => by
  have nd' := List.nodup_cons.mp nd
  obtain ⟨I1,s1⟩ := a5D I r nd'.2 fun q hq => h q (.tail _ hq)
  have hn : F4 H r a = none:= by
   rw [a0a fun q hq z => nd'.1 (List.mem_map.mpr ⟨q,hq,z⟩)]
   exact h _ (.head _)
  exact ⟨I1.new hn,s1.trans (C2 hn)⟩
theorem a64 {K : PySem.W.Frag} {N : Addr → Prop} {fa : Option Addr} {H : Hp} : ∀ {ds es : List D} {xs ys : List V} {as : List Addr},Reps K N fa H ds xs → Reps K N fa H es ys → as.length = (prs xs ys).length → (∀ q ∈ as.zip (prs xs ys),H q.1 = some (.tup q.2)) →
  Reps K N fa H (List.zipWith a0n ds es) (as.map V.ref)
 | [],es,xs,ys,as,h,q,l,k => by
  simp only [Reps] at h; subst h
  simp only [prs,List.zipWith_nil_left,List.length_nil] at l
  rw [List.eq_nil_of_length_eq_zero l]
  simp only [List.zipWith_nil_left,List.map_nil,Reps]
 | d :: r,[],xs,ys,as,h,q,l,k => by
  simp only [Reps] at q; subst q
  simp only [prs,List.zipWith_nil_right,List.length_nil] at l
  rw [List.eq_nil_of_length_eq_zero l]
  simp only [List.zipWith_nil_right,List.map_nil,Reps]
 | d :: r,e :: f,xs,ys,as,h,q,l,k => by
  simp only [Reps] at h q
  obtain ⟨x,xs',rfl,h1,h2⟩ := h
  obtain ⟨y,ys',rfl,q1,q2⟩ := q
  cases as with
  | nil => simp [prs] at l
  | cons a as=>
   have hz : (a :: as).zip (prs (x :: xs') (y :: ys')) = (a,[x,y]) :: as.zip (prs xs' ys') := rfl
   rw [hz] at k
   simp only [List.zipWith_cons_cons,List.map_cons,Reps]
   refine ⟨_,_,rfl,?_,a64 h2 q2 (by simpa [prs] using l) fun q hq => k q (.tail _ hq)⟩
   simp only [a0n,Rep,Reps]
   exact ⟨a,[x,y],rfl,SqT.of (k _ (.head _)),x,[y],rfl,h1,y,[],rfl,q1,rfl⟩
theorem a5Z {K : PySem.W.Frag} {N : Addr → Prop} {fa : Option Addr} {H : Hp} {d : D} {v : V} {ds : List D} (r : RepB K N fa H d v) (e : U5 d = some ds) : ∃ a xs,v = .ref a ∧ Sq K H a xs ∧ Reps K N fa H ds xs:= by
 cases d with
 | tup es=>
  cases e
  simp only [RepB,Rep] at r
  obtain ⟨a,ys,rfl,q,w⟩ := r
  exact ⟨a,ys,rfl,.inr q,w⟩
 | lst es=>
  cases e
  obtain ⟨a,ys,rfl,_,q,w⟩ := r
  exact ⟨a,ys,rfl,.inl (SqL.of q),w⟩
 | _ => cases e
theorem b1N {K : PySem.W.Frag} : RCF K (rLZ K) X4:= by
 intro g σ H fa O s xs ds es Q I rs e k
 match ds,e with
 | [d1,d2],e=>
  refine L6 (show (U5 d1).bind (fun xs => (U5 d2).map fun ys => List.zipWith a0n xs ys) = some es from e) fun xs1 e1 e => ?_
  refine J8 e fun ys1 e2 e => ?_
  subst e
  simp only [P2] at rs
  obtain ⟨x,zs,rfl,r1,y,zs',rfl,r2,rfl⟩ := rs
  obtain ⟨a,vs,rfl,q1,w1⟩ := a5Z r1 e1
  obtain ⟨b,us,rfl,q2,w2⟩ := a5Z r2 e2
  refine ⟨a,b,vs,us,rfl,q1,q2,fun S as nd nn hl => ?_⟩
  have nd' := List.nodup_cons.mp nd
  have ky := a5n hl
  have kin : ∀ q ∈ as.zip (prs vs us),q.1 ∈ as := fun q hq => (List.of_mem_zip hq).1
  have ndz : ((as.zip (prs vs us)).map (·.1)).Nodup := by rw [ky]; exact nd'.2
  obtain ⟨I1,s1⟩ := a5D I (as.zip (prs vs us)) ndz fun q hq => nn _ (.tail _ (kin q hq))
  have hS : F4 H (as.zip (prs vs us)) S = none:= by
   rw [a0a fun q hq (z : q.1 = S) => nd'.1 (by rw [← z]; exact kin q hq)]
   exact nn S (.head _)
  have rp := a64 (Reps.stp I s1.stp w1) (Reps.stp I s1.stp w2) hl fun q hq => a7c (b := q.1) (p := q.2) ndz hq
  exact k S (as.map V.ref) _ (s1.trans (C2 hS)) (O8 I1 hS rp) (nn S (.head _))
section
variable {X : Cx} {g : Gh} {p p' pos pos' : Pos} {e : Expr} {es : List Expr} {t : DA}
theorem a57 (hc : X.calm = true) (hgl : Gl X "list") (hml : X.mg "list" = none) (hgz : Gl X "zip") (hmz : X.mg "zip" = none) (ha : BAO X g (e :: es) t)
  (he : starEach (e :: es) X.env = (false,eval e X.env) :: starEach es X.env := by rfl) (hpl : (backTo pos' (starEach es X.env)).any (·.1) = false := by rfl)
  (he2 : starEach [.Call (.Name "zip" p') (e :: es) [] pos'] X.env = [(false,eval (.Call (.Name "zip" p') (e :: es) [] pos') X.env)] := by rfl) :
  FO X g (.Call (.Name "list" p) [.Call (.Name "zip" p') (e :: es) [] pos'] [] pos) (dCF X4 t):=
 FO.w (b0Q hc hgl hml hgz hmz ha.pe he hpl he2) (a6a b1N)
end
section
variable {X : Cx} {g : Gh} {scope : Scope} {cl : List (Str × Addr)} {idx : List Nat} {iter elt : Expr} {ifs : List Expr} {pos : Pos} {fi : DA} {fc : DT} {fe : DE} {x y : Str} {px py pp : Pos} {kt : Nat} {caps : List Str}
theorem a4v (hc : X.calm = true) (k : CompOk X scope cl (x :: y :: caps) 2 idx) (hi : IO X g (.Tuple [.Name x px,.Name y py] kt pp) iter fi) (nd : (x :: y :: caps).Nodup)
  (hx : ∀ C s0 H0 ex,(blk X (x :: y :: caps) scope cl C s0 H0 ex).env.scope.names.lookup x = some .local) (hy : ∀ C s0 H0 ex,(blk X (x :: y :: caps) scope cl C s0 H0 ex).env.scope.names.lookup y = some .local)
  (ht : ∀ C s0 H0 ex g',U7 (blk X (x :: y :: caps) scope cl C s0 H0 ex) g' ifs fc) (he : ∀ C s0 H0 ex g',EO (blk X (x :: y :: caps) scope cl C s0 H0 ex) g' elt fe) (hs : ∀ x,foldedSetIterable iter X.env x = pure x := by intro _; rfl) :
  FO X g (.ListComp elt [⟨.Tuple [.Name x px,.Name y py] kt pp,iter,ifs,0⟩] scope pos) (T0 idx fi fc fe):=
 a9b (G := a5m X.K 2 (a2N (K7 0) (a2N (K7 1) a6B))) hc k hi (fun C s0 H0 ex => a4M (X := blk X (x :: y :: caps) scope cl C s0 H0 ex) (n := 2) hc (a3e (X := blk X (x :: y :: caps) scope cl C s0 H0 ex) (o7 (X := blk X (x :: y :: caps) scope cl C s0 H0 ex) (i := 0) nd rfl (Or.inl (hx C s0 H0 ex)) (Or.inr (hx C s0 H0 ex))) (a3e (X := blk X (x :: y :: caps) scope cl C s0 H0 ex) (o7 (X := blk X (x :: y :: caps) scope cl C s0 H0 ex) (i := 1) nd rfl (Or.inl (hy C s0 H0 ex)) (Or.inr (hy C s0 H0 ex))) a60)))
  (fun a x y σ H Q h q => ⟨a,[x,y],rfl,h,rfl,x,[y],rfl,y,[],rfl,rfl,q⟩) ht he hs
end
def PC (X : Cx) (e : Expr) (te : TE) : Prop := ∀ (i : Nat) (y : Str) (py spos : Pos),X.N.Nodup → X.N[i]? = some y → Loc X.env.scope y → swapsWith e (some (.Name y py)) spos.line X.env = pure true → (X.fn y = true ∨ X.env.scope.names.lookup y = some .local) → PS X (.Assign [.Name y py] e spos) (Z9 te (K7 i))
structure CO (X : Cx) (g : Gh) (e : Expr) (f : DA) : Prop where
 pe : PC X e (liftF X.K g f)
theorem CO.w {X : Cx} {g : Gh} {e : Expr} {f : DA} {t : TE} (h : PC X e t) (w : ∀ σ H Q,liftF X.K g f σ H Q → t σ H Q) : CO X g e f:=
 ⟨fun i y py spos h1 h2 h3 h4 h5 pins s σ H D I q => h i y py spos h1 h2 h3 h4 h5 pins s σ H D I (w σ H _ q)⟩
section
variable {X : Cx} {g : Gh} {scope : Scope} {cl : List (Str × Addr)} {N' : List Str} {idx : List Nat} {iter elt tg : Expr} {ifs : List Expr} {pos : Pos} {fi : DA} {fc : DT} {fe : DE}
theorem X5 (hc : X.calm = true) (k : CompOk X scope cl N' 1 idx) (hi : IO X g tg iter fi) (hg : ∀ C s0 H0 ex,PG (blk X N' scope cl C s0 H0 ex) tg (K7 0))
  (ht : ∀ C s0 H0 ex g',U7 (blk X N' scope cl C s0 H0 ex) g' ifs fc) (he : ∀ C s0 H0 ex g',EO (blk X N' scope cl C s0 H0 ex) g' elt fe) (hs : ∀ x,foldedSetIterable iter X.env x = pure x := by intro _; rfl) :
  CO X g (.ListComp elt [⟨tg,iter,ifs,0⟩] scope pos) (D7 idx fi fc fe):=
 CO.w (fun i y py spos h1 h2 h3 h4 h5 => b1O (tc := fun σ H Q => ∃ g',liftT X.K g' fc σ H Q) (te := fun σ H Q => ∃ g',liftE X.K g' fe σ H Q) h1 h2 h3 hc k hi.pe hg (fun C s0 H0 ex pins s σ H Q I ⟨g',h⟩ => ht C s0 H0 ex g' pins s σ H Q I h) (fun C s0 H0 ex pins s σ H Q I ⟨g',h⟩ => (he C s0 H0 ex g').pe pins s σ H Q I h) hs h4 h5) (a7G k)
theorem W9 {e : Expr} {i : Nat} {x : Str} {f : DA} {pos' : Pos} (hN : X.N.Nodup) (hi : X.N[i]? = some x) (hx : Loc X.env.scope x) (he : CO X g e f) (hs : swapsWith e (some (.Name x pos')) pos.line X.env = pure true := by rfl) (hf : X.fn x = true ∨ X.env.scope.names.lookup x = some .local := by first | exact .inl rfl | exact .inr rfl | assumption) :
  SO X g (.Assign [.Name x pos'] e pos) (u9 i f) := SO.w (he.pe i x pos' pos hN hi hx hs hf) fun E σ H hQ => by
 refine hQ.elim fun fa O s fl s' I q k => ?_
 refine p8 q fun ds s1 h1 h2 => ?_
 by_cases hl : i < s1.sl.length
 ·simp only [] at h2
  rw [if_pos hl] at h2
  cases h2
  refine ⟨fa,O,s,ds,s1,I,h1,fun p xs H1 f1 O1 a1 L hp => ?_⟩
  have np : p ∉ O1 := fun z => by
   obtain ⟨ys,e⟩ := I.owned (a1.sub p z)
   rw [hp] at e; cases e
  obtain ⟨P,sub,I'⟩ := L.put i hl (I.st.mon p hp) np
  refine k _ H1 f1 P ⟨fun b hb => ?_,a1.fe,fun b u e _ n => a1.same b u e n,a1.mon⟩ I'
  rcases sub b hb with y | y
  ·exact .inr (by rw [y]; exact hp)
  ·exact .inl (a1.sub b y)
 ·simp only [] at h2
  rw [if_neg hl] at h2; cases h2
end
theorem a5E : ∀ ns : List Int,D.plains (ns.map .int) = true
 | [] => rfl
 | n :: r => by simp only [List.map_cons,D.plains,D.plain,a5E r,Bool.and_self]
theorem a4T : ∀ ns : List Int,PyData.canLayAll0 (D.pys (ns.map .int)) = true
 | [] => rfl
 | n :: r => by simp only [List.map_cons,D.pys,D.py,PyData.canLayAll0,PyData.canLay0,a4T r,Bool.and_self]
theorem a6n : ∀ ns : List Int,PyData.depthAll (D.pys (ns.map .int)) = 0
 | [] => rfl
 | n :: r => by simp only [List.map_cons,D.pys,D.py,PyData.depthAll,PyData.depth,a6n r,Nat.max_self]
theorem a4t (ns : List Int) : u7 (.lst (ns.map .int)) = true:= by
 simp [u7,D.plain,a5E,D.py,SeqAt.shaped,PyData.canLay0,a4T,PyData.depth,a6n]
end DL
namespace L2
open PySem PySem.Spec PyProof.Rows
section
variable {X : Cx} {pins : List (Addr × Obj)} {σ : List (Option V)} {H : Hp} {s : Shared} {h' : Heap}
theorem Inv.turned2 {t' : Nat} {a b : Addr} (I : Inv X pins σ H s) (k : ∀ c o,c ≠ a → c ≠ b → s.heap.get? c = some o → h'.get? c = some o) (fa : F8 X pins H a) (fb : F8 X pins H b) : Inv X pins σ H { s with heap := h',toks := t' }:= by
 have na : ∀ c u,H c = some u → c ≠ a := fun c u e z => by rw [z,fa.1] at e; cases e
 have nb : ∀ c u,H c = some u → c ≠ b := fun c u e z => by rw [z,fb.1] at e; cases e
 refine I.step (g' := s.gens) (d' := s.drawn) (ch := [a,b]) (fun c hc => ?_) (fun c o _ _ hc e _ => k c o (fun z => hc (by simp [z])) (fun z => hc (by simp [z])) e) (fun c o _ _ hc e _ => ⟨o.slots,k c o (fun z => hc (by simp [z])) (fun z => hc (by simp [z])) e⟩) (fun _ _ _ _ n => n)
  (fun c o hc e => ⟨o,k c o (fun z => hc (by simp [z])) (fun z => hc (by simp [z])) e⟩) (fun _ _ e => e) (fun _ _ _ e => e) (fun c ps e => ⟨#[],by rw [e]; simp⟩) (fun m hm => ?_) (fun c u e => ?_) I.bare
 ·simp only [List.mem_cons,List.not_mem_nil,or_false] at hc
  rcases hc with rfl | rfl
  ·exact ⟨fa.2.2.2.1,fa.2.1,fa.2.2.2.2.1,fa.2.2.2.2.2⟩
  ·exact ⟨fb.2.2.2.1,fb.2.1,fb.2.2.2.2.1,fb.2.2.2.2.2⟩
 ·obtain ⟨o,es,ep,ho,r⟩ := hm
  exact ⟨o,es,ep,k _ o (Ne.symm fa.2.1) (Ne.symm fb.2.1) ho,r⟩
 ·refine (I.hok c u e).stay (fun d v hd q => k d v ?_ ?_ q) (fun _ q => q) fun _ _ q => q
  ·rcases hd with z | z
   ·rw [z]; exact na c u e
   ·exact na d _ z
  ·rcases hd with z | z
   ·rw [z]; exact nb c u e
   ·exact nb d _ z
end
section
variable {X : Cx}
theorem b1v : bootBuiltins ("enumerate" : Str) = some (.type "enumerate") := by decide +kernel
end
end L2
namespace DL
open PySem PySem.Spec L2 PyProof.Rows
def G9 (ds : List D) : List D := ds.zipIdx.map fun p => .tup [.int (p.2 : Int),p.1]
theorem a4u {ds : List D} {i : Nat} {d : D} (h : ds[i]? = some d) : (G9 ds)[i]? = some (.tup [.int (i : Int),d]):= by
 unfold G9
 rw [List.getElem?_map,List.getElem?_zipIdx,h]
 simp
def a25 (s : DS) (i : Nat) : Option (List D) := match s.sl[i]? with
 | some (.own ds) => some ds
 | _ => none
theorem b19 {s : DS} {i : Nat} {ds : List D} (h : a25 s i = some ds) : s.sl[i]? = some (.own ds):= by
 unfold a25 at h
 cases q : s.sl[i]? with
 | none => rw [q] at h; cases h
 | some z=>
  rw [q] at h
  cases z with
  | own ds => cases h; rfl
  | no => cases h
  | val _ => cases h
end DL
namespace DL
open PySem PySem.Spec L2
theorem on1 {α : Type _} {P : List α → Prop} (h : ∀ a1 : α,P [a1]) : ∀ us : List α,us.length = 1 → P us:= by
 intro us e
 match us,e with | [a1],_ => exact h a1
theorem on2 {α : Type _} {P : List α → Prop} (h : ∀ a1 a2 : α,P [a1,a2]) : ∀ us : List α,us.length = 2 → P us:= by
 intro us e
 match us,e with | [a1,a2],_ => exact h a1 a2
theorem on3 {α : Type _} {P : List α → Prop} (h : ∀ a1 a2 a3 : α,P [a1,a2,a3]) : ∀ us : List α,us.length = 3 → P us:= by
 intro us e
 match us,e with | [a1,a2,a3],_ => exact h a1 a2 a3
theorem on4 {α : Type _} {P : List α → Prop} (h : ∀ a1 a2 a3 a4 : α,P [a1,a2,a3,a4]) : ∀ us : List α,us.length = 4 → P us:= by
 intro us e
 match us,e with | [a1,a2,a3,a4],_ => exact h a1 a2 a3 a4
structure GF (K : PySem.W.Frag) (mg : Str → Option Value) (n : Str) (st : Stmt) (f : Addr) (fd : FuncData) : Prop where
 F : Fun K n n st f fd
 m : mg n = some (.ref f)
section
variable {K : PySem.W.Frag} {h : Heap} {mg : Str → Option Value} {n : Str} {st : Stmt} {f : Addr} {fd : FuncData}
theorem gf_mk (X : K.In h) (G : h.Ns mainGlobals mg) {oc : Value} {od an : Option Addr} {osl : Array (Option Value)} {kV doc pm cdv ct : Value} (a : PySem.W.nsIn K mainGlobals n = some (some (.ref f))) (l : K.lookup f = some ⟨oc,od,.func (PySem.W.fnOf n n (Q6 st) (G5 st) (l3 st) .none kV doc pm an cdv ct),osl⟩)
  (c : PySem.W.codeIn K cdv n = true) (k : PySem.W.keepIn K (.ref f) = true) : GF K mg n st f (PySem.W.fnOf n n (Q6 st) (G5 st) (l3 st) .none kV doc pm an cdv ct) := ⟨b2k l c k,PySem.W.mg_of X G a⟩
theorem a97 {x : Str} (F : Fun K n n st f fd) (q : ∀ (kV doc pm : Value) (an : Option Addr) (cdv ct : Value) (s : Shared) (v : Value),BindsTo s (PySem.W.fnOf n n (Q6 st) (G5 st) (l3 st) .none kV doc pm an cdv ct) ⟨[v],[]⟩ [(x,v)]) : ∀ (s : Shared) (v : Value),BindsTo s fd ⟨[v],[]⟩ [(x,v)]:= by
 obtain ⟨oc,od,kV,doc,pm,an,cdv,ct,osl,rfl,lk,hcd⟩ := F.ex
 exact fun s v => q kV doc pm an cdv ct s v
theorem blt_mk (X : K.In h) (G : h.Ns mainGlobals mg) (z0 : PySem.W.nsIn K mainGlobals "len" = some none) (z1 : PySem.W.nsIn K mainGlobals "range" = some none) (z2 : PySem.W.nsIn K mainGlobals "abs" = some none) (z3 : PySem.W.nsIn K mainGlobals "tuple" = some none) (z4 : PySem.W.nsIn K mainGlobals "list" = some none) (z5 : PySem.W.nsIn K mainGlobals "int" = some none) (z6 : PySem.W.nsIn K mainGlobals "bool" = some none) (z7 : PySem.W.nsIn K mainGlobals "str" = some none) (z8 : PySem.W.nsIn K mainGlobals "repr" = some none) (z9 : PySem.W.nsIn K mainGlobals "all" = some none) (z10 : PySem.W.nsIn K mainGlobals "isinstance" = some none) (z11 : PySem.W.nsIn K mainGlobals "zip" = some none) (z12 : PySem.W.nsIn K mainGlobals "enumerate" = some none) (z13 : PySem.W.nsIn K mainGlobals "min" = some none) (z14 : PySem.W.nsIn K mainGlobals "max" = some none) (z15 : PySem.W.nsIn K mainGlobals "reversed" = some none) (z16 : PySem.W.nsIn K mainGlobals "any" = some none) (z17 : PySem.W.nsIn K mainGlobals "sum" = some none) (z18 : PySem.W.nsIn K mainGlobals "sorted" = some none) : Blt mg := ⟨PySem.W.mg_none_of X G z0,PySem.W.mg_none_of X G z1,PySem.W.mg_none_of X G z2,PySem.W.mg_none_of X G z3,PySem.W.mg_none_of X G z4,PySem.W.mg_none_of X G z5,PySem.W.mg_none_of X G z6,PySem.W.mg_none_of X G z7,PySem.W.mg_none_of X G z8,PySem.W.mg_none_of X G z9,PySem.W.mg_none_of X G z10,PySem.W.mg_none_of X G z11,PySem.W.mg_none_of X G z12,PySem.W.mg_none_of X G z13,PySem.W.mg_none_of X G z14,PySem.W.mg_none_of X G z15,PySem.W.mg_none_of X G z16,PySem.W.mg_none_of X G z17,PySem.W.mg_none_of X G z18⟩
theorem r8 {P : Program} {w : World} {base : Heap} {N ps : List Str} {k : Nat} {b : DM} (F : GF K mg n st f fd) (q : ∀ (kV doc pm : Value) (an : Option Addr) (cdv ct : Value) (us : List Value),us.length = ps.length → bindArgs (PySem.W.fnOf n n (Q6 st) (G5 st) (l3 st) .none kV doc pm an cdv ct) ⟨us,[]⟩ = pure (ps.zip us)) (S : FnScope N ps (l3 st))
  (hbody : ∀ (cdv : Value) (A : Around) (outer : List Env) (s : Shared) (H : Hp) (E : XK) (g : Gh),Room k (A.deeper (PyProof.Rows.envOfC n (l3 st) s.heap.objs.size f cdv)) → SSO (P5 CX0 P w K mg base N n (l3 st) f cdv A outer s H E).nox g (G5 st) b) :
  Cal P w K mg base (k + 1) n ps (mFn N.length b) := b2h F.F F.m (F.F.binds q) S hbody
end
end DL
namespace DL
open PySem PySem.Spec L2 PyProof.Rows
def a1k (i : Nat) : DM := fun s => (a25 s i).bind fun ds => if ds.length ≤ sizeLine then some (.next,{ s with sl := s.sl.set i (.own ds.reverse) }) else none
theorem b0l {i : Nat} {s : DS} {r : Fl × DS} (q : a1k i s = some r) : ∃ ds,s.sl[i]? = some (.own ds) ∧ ds.length ≤ sizeLine ∧ (Fl.next,{ s with sl := s.sl.set i (.own ds.reverse) }) = r:= by
 refine L6 q fun ds h2 q => ?_
 by_cases hl : ds.length ≤ sizeLine
 ·exact ⟨ds,b19 h2,hl,Option.some.inj ((if_pos hl).symm.trans q)⟩
 ·cases (if_neg hl).symm.trans q
section
variable {X : Cx} {g : Gh} {i n j : Nat} {x : Str} {e : Expr} {fe : DE} {pos pos' p1 p2 p3 p4 : Pos}
theorem b0j (hv : PE X (.Name x p1) (P6 i)) (hbase : attributeBase (.Name x p1) ("reverse" : Str) X.env (eval (.Name x p1) X.env) = eval (.Name x p1) X.env := by rfl)
  (hline : (p2.endLine == p3.line) = true := by rfl) (hsw : swapsWith (.Call (.Attribute (.Name x p1) ("reverse" : Str) p2) [] [] p3) none p4.line X.env = pure false := by rfl) :
  SO X g (.Expr (.Call (.Attribute (.Name x p1) ("reverse" : Str) p2) [] [] p3) p4) (a1k i):=
 SO.w (a4n (b0F PySem.F.plainAttrs_list PySem.F.slot_list_reverse PySem.F.type_list_reverse b2P hv hbase hline) hsw) fun E σ H hQ => by
  refine hQ.elim fun fa O s fl s' I q k => ?_
  obtain ⟨ds,h2,hl,e⟩ := b0l q
  cases e
  obtain ⟨b,xs,e3,m1,e4,r1⟩ := SlR.own I.sl h2
  have rl := r1.length
  obtain ⟨I2,a2⟩ := I.rew h2 e3 m1 e4 r1.reverse
  exact ⟨_,e3,.inl ⟨rfl,xs,SqL.of e4⟩,b,xs,rfl,rfl,e4,k σ _ fa O a2 I2⟩
end
end DL
namespace DL
open PySem PySem.Spec L2
mutual
def D.flat : D → Bool
 | .non => true
 | .bl _ => true
 | .int _ => true
 | .str _ => true
 | .tup ds => D.flats ds
 | .lst _ => false
 | .feed => false
 | .scr _ => true
def D.flats : List D → Bool
 | [] => true
 | d :: r => D.flat d && D.flats r
end
section
variable {K : PySem.W.Frag} {N N' : Addr → Prop} {fa fa' : Option Addr} {H : Hp}
mutual
theorem Rep.flt : ∀ (d : D) (v : V),d.flat = true → Rep K N fa H d v → Rep K N' fa' H d v
 | .non,v,_,h => by simpa only [Rep] using h
 | .bl b,v,_,h => by simpa only [Rep] using h
 | .int i,v,_,h => by simpa only [Rep] using h
 | .str x,v,_,h => by simpa only [Rep] using h
 | .tup ds,v,q,h => by
  simp only [Rep] at h ⊢
  obtain ⟨a,xs,e,s,r⟩ := h
  exact ⟨a,xs,e,s,Reps.flt ds xs q r⟩
 | .lst ds,v,q,h => by cases q
 | .feed,v,q,h => by cases q
 | .scr ns,v,_,h => by simpa only [Rep] using h
theorem Reps.flt : ∀ (ds : List D) (xs : List V),D.flats ds = true → Reps K N fa H ds xs → Reps K N' fa' H ds xs
 | [],xs,_,h => by simpa only [Reps] using h
 | d :: r,xs,q,h => by
  simp only [Reps] at h ⊢
  have q : (D.flat d && D.flats r) = true := q
  rw [Bool.and_eq_true] at q
  obtain ⟨x,ys,e,h1,h2⟩ := h
  exact ⟨x,ys,e,Rep.flt d x q.1 h1,Reps.flt r ys q.2 h2⟩
end
end
def frD (y : D × Option FS) : Option (List D) := match y with
 | (.lst ds,none) => if D.flats ds = true then some ds else none
 | _ => none
theorem a9U {d : D} {fs : Option FS} {ds : List D} (h : frD (d,fs) = some ds) : d = .lst ds ∧ fs = none ∧ D.flats ds = true:= by
 cases d with
 | lst es=>
  cases fs with
  | none=>
   have h : (if D.flats es = true then some es else none) = some ds := h
   by_cases q : D.flats es = true
   ·rw [if_pos q] at h; cases h; exact ⟨rfl,rfl,q⟩
   ·rw [if_neg q] at h; cases h
  | some f => cases h
 | _ => cases h
def W7 (m : DFn) (t : DA) : DA := fun s => (t s).bind fun x => if D.flats x.1 = true then ((m x.1 none).bind frD).map fun ds => (ds,x.2) else none
theorem b3w {N : Addr → Prop} {H : Hp} {fa : Option Addr} (h : FeedR N H fa none) : fa = none:= by
 cases fa with
 | none => rfl
 | some a => exact (show False from h).elim
section
variable {X : Cx} {g : Gh} {k : Nat} {f : Addr} {fd : FuncData} {ps : List Str} {m : DFn} {x : Str} {p pos : Pos} {e : Expr} {es : List Expr} {t : DA}
theorem a9D {n : Nat} (hn : ∀ s ds s',t s = some (ds,s') → ds.length = n) (σ : L2.St) (H : Hp) (Q : VK) (h : liftF X.K g (W7 m t) σ H Q) : a1O (spD X.K n m) [] E0 (liftA X.K g t) σ H Q:= by
 obtain ⟨fa,O,s,ds,s',I,q,k⟩ := h
 refine p8 q fun as s1 h1 h2 => ?_
 by_cases hf : D.flats as = true
 ·have h2 : (if D.flats as = true then ((m as none).bind frD).map fun ds => (ds,s1) else none) = some (ds,s') := h2
  rw [if_pos hf] at h2
  refine J8 h2 fun ds1 h3 h4 => ?_
  cases h4
  refine p8 h3 fun d1 fs1 h5 h6 => ?_
  obtain ⟨rfl,rfl,fl⟩ := a9U h6
  refine ⟨fa,O,s,as,s',I,h1,fun vs H1 f1 O1 a1 I1 r => ?_⟩
  show spD X.K n m (vs ++ []) H1 Q E0
  rw [List.append_nil]
  refine ⟨fun b => H1 b ≠ none,none,as,none,_,none,fun b hb => hb,fun a ha => (by cases ha),Reps.flt as vs hf r,trivial,h5,hn s as s' h1,fun v H2 f2 a2 fd2 r2 => ?_⟩
  cases b3w fd2
  simp only [Rep] at r2
  obtain ⟨p,xs,rfl,np,lp,rp⟩ := r2
  have hp : H1 p = none := Classical.byContradiction fun z => np (.inl z)
  have sm : ∀ b u,H1 b = some u → H2 b = some u := fun b u e => a2.same b u e (by simp) (by simp)
  have a3 : StE f1 O1 H1 f1 O1 H2 := ⟨fun b hb => hb,.inl rfl,fun b u e _ => sm b u e,a2.mon⟩
  have c := I1.car a3.stp
  have c2 : Car X.K (NN g.F f1 O1) f1 H1 (fun b => NN g.F f1 O1 b ∨ b = p) f1 H2 := ⟨fun b xs n q => ⟨sm b _ q,fun z => by
   rcases z with z | z
   ·exact n z
   ·rw [z,hp] at q; cases q⟩,c.tp,c.fz,c.fe⟩
  have ff : ∀ a,f1 = some a → H2 a = H1 a := fun a ha => by
   have n := I1.nn_tracked (b := a) (.inr (.inr ha))
   cases e : H1 a with
   | none => exact absurd e n
   | some u => exact sm a u e
  have st' : Stp f1 [] H1 f1 [] H2 := ⟨fun b hb => (by cases hb),.inl rfl,fun b u e _ _ => sm b u e,a2.mon⟩
  have G2 : GI X.K g σ H2 f1 O1 s' := ⟨I1.nd,SlR.go c (fun b xs _ e => sm b _ e) I1.sl,I1.fr,I1.st.trans st',I1.tr,I1.ff,I1.fd.car c ff,I1.nf⟩
  refine k p xs H2 f1 O1 (a1.trans a3) ⟨G2,lp,SlR.go c2 (fun b xs _ e => sm b _ e) I1.sl,I1.fd.car c2 ff,Reps.flt _ _ fl rp,fun z => I1.nn_tracked (b := p) (.inr (.inr z)) hp⟩ ?_
  exact a1.mon p hp
 ·have h2 : (if D.flats as = true then ((m as none).bind frD).map fun ds => (ds,s1) else none) = some (ds,s') := h2
  rw [if_neg hf] at h2; cases h2
theorem b2e (F : FnD X.prog X.w X.K X.mg X.base k f fd ps m) (hr : Room k X.A) (hg : Gl X x) (hm : X.mg x = some (.ref f)) (hk : PySem.W.keepIn X.K (.ref f) = true) (hb : Binds X.K fd ps [])
  (ha : AO X g (e :: es) t) (hn : ∀ s ds s',t s = some (ds,s') → ds.length = ps.length) (hdb : (x == ("__debug__" : Str)) = false := by decide) (he : starEach (e :: es) X.env = (false,eval e X.env) :: starEach es X.env := by rfl) (hpl : (backTo pos (starEach es X.env)).any (·.1) = false := by rfl) :
  FO X g (.Call (.Name x p) (e :: es) [] pos) (W7 m t) := FO.w (a4s F hr hg hm hk hb .nil a6W ha.pe hdb he hpl) (a9D hn)
theorem b4d (C : Cal X.prog X.w X.K X.mg X.base k x ps m) (k' : Nat) (hr : Room k' X.A) (hk : k ≤ k') (hg : Gl X x)
  (ha : AO X g (e :: es) t) (hn : ∀ s ds s',t s = some (ds,s') → ds.length = ps.length) (hdb : (x == ("__debug__" : Str)) = false := by decide) (he : starEach (e :: es) X.env = (false,eval e X.env) :: starEach es X.env := by rfl) (hpl : (backTo pos (starEach es X.env)).any (·.1) = false := by rfl) :
  FO X g (.Call (.Name x p) (e :: es) [] pos) (W7 m t):= by
 obtain ⟨f,fd,F,hm,hkp,hb⟩ := C.ex
 exact b2e F (hr.mono hk) hg hm hkp hb ha hn hdb he hpl
end
end DL
namespace L2
open PySem PySem.Spec PyProof.Rows
open AutoSeq1 (wpAny_loadPart')
abbrev Y2 (l : Addr) : Obj := { cls := .type "tuple_iterator",data := .fields #[.ref l,.int 0 0] }
abbrev a3H (a : Addr) : Obj := { cls := .type "enumerate",data := .fields #[.none,.bool false,.ref a,rawInt 0,.none,.none] }
theorem b3j (l : Addr) (its : Array Value) (n : Nat) (dc : Option Addr) (sl : Array (Option Value)) :
  Meets (Builtin.«enumerate.__new__» ⟨[.type "enumerate",.ref l],[]⟩) (fun _ R s => s.heap.get? l = some { cls := .type "tuple",dict := dc,data := .seq its n,slots := sl } ∧
   R (.ok (.ret (.ref (s.heap.push (Y2 l)).objs.size))) { s with heap := (s.heap.push (Y2 l)).push (a3H s.heap.objs.size) }):=
 .of_wp fun prog w A R s q => by
  obtain ⟨hp,g,d,tk,os⟩ := s
  obtain ⟨hl,q⟩ := q
  have hu := sub_enumerate
  have hT : Heap.IsTuple (Shared.heap ⟨hp,g,d,tk,os⟩) l its := ⟨_,hl,rfl,n,rfl⟩
  wp_walk using wpAny_loadPart' hl
  refine wpAny_stack_any fun st0 => wpAny_pure ?_
  split
  ·rename_i c _ _ _ _ _
   cases (c == Value.type "enumerate")
   ·wp_walk using wpAny_loadPart' hl,wpAny_pyIter_tuple hT
    exact ⟨_,rfl,q⟩
   ·wp_walk using wpAny_loadPart' hl,wpAny_pyIter_tuple hT
    exact ⟨_,rfl,q⟩
  ·wp_walk using wpAny_loadPart' hl,wpAny_pyIter_tuple hT
   exact ⟨_,rfl,q⟩
section
variable {prog : Program} {w : World} {A : Around} {E : Value → Shared → Prop} {s : Shared}
theorem b0P {l : Addr} {its : Array Value} {Q : Value → Shared → Prop} (hT : s.heap.IsTuple l its)
  (h : ∀ h',IsEnum h' (s.heap.objs.size + 1) s.heap.objs.size 0 .none → h'.IsTupleIter s.heap.objs.size l 0 →
   (∀ b o,s.heap.get? b = some o → h'.get? b = some o) → Q (.ref (s.heap.objs.size + 1)) { s with heap := h' }) : wpAny (model prog w) A (call (.type "enumerate") [.ref l]) Q E s:= by
 obtain ⟨⟨c,dc,dt,sl⟩,hl,hc,n,hd⟩ := hT
 replace hc : c = .type "tuple" := hc
 replace hd : dt = .seq its n := hd
 subst hc hd
 refine callType_new F.called_enumerate (by decide) (F.typeCall_enumerate_1 _) (F.newCall_enumerate_1 _) (fun o => F.args_object_init_2 o _) F.entry_enumerate_new (b3j l its n dc sl) ⟨hl,?_⟩
 have hz : (s.heap.push (Y2 l)).objs.size = s.heap.objs.size + 1 := Heap.size_push ..
 show _ ∧ _
 rw [hz]
 have he : IsEnum ((s.heap.push (Y2 l)).push (a3H s.heap.objs.size)) (s.heap.objs.size + 1) s.heap.objs.size 0 .none:= by
  have z := Heap.get?_push_size (s.heap.push (Y2 l)) (o := a3H s.heap.objs.size) rfl
  rw [hz] at z; exact z
 exact ⟨⟨_,he,rfl⟩,h _ he ⟨_,Heap.get?_push_of_some _ (Heap.get?_push_size _ rfl),rfl,rfl⟩ fun b o x => Heap.get?_push_of_some _ (Heap.get?_push_of_some _ x)⟩
theorem a7K {it l : Addr} {its : Array Value} (hh : A.handled = none) (hne : l ≠ it) : Draws prog w A it [it,l] its.size (fun i x => its[i]? = some x) (fun i h => h.IsTupleIter it l i ∧ h.IsTuple l its) where
 live := fun i h st => by obtain ⟨o,q,_⟩ := st.1; exact ⟨o,q⟩
 frame := fun i h h' st k => by
  obtain ⟨⟨o,q,r⟩,⟨o',q',r'⟩⟩ := st
  exact ⟨⟨o,k it (by simp) o q,r⟩,⟨o',k l (by simp) o' q',r'⟩⟩
 item := fun i s Q E hi st hQ => DL.nextOf_tup_item st.1 st.2 (Array.getElem?_eq_getElem hi) fun h' a hs => hQ _ h' s.toks (Array.getElem?_eq_getElem hi) ⟨a,st.2.extBut hs.extBut hne⟩ hs
 done := fun s Q E st hE => DL.nextOf_tup_end hh st.1 st.2 (by simp) hE
end
def a0e (K : PySem.W.Frag) (a : Addr) : It:=
 ⟨fun i H => ∃ xs x,SqT K H a xs ∧ xs[i]? = some x,fun i H v H' => ∃ p x,H p = none ∧ v = .ref p ∧ H' = upd H p (.tup [.int (i : Int),x]) ∧ ∀ xs,SqT K H a xs → xs[i]? = some x,fun i H => ∃ xs,SqT K H a xs ∧ xs.length ≤ i⟩
theorem a8b {P : Program} {w : World} {K : PySem.W.Frag} {elts : List Expr} {x1} {pos : Pos} (a e it : Addr) (hne : e ≠ it) : Turn P w K (.Tuple elts x1 pos) (a0e K a) [e,it] e (fun i h => (∃ old,IsEnum h e it ((i : Nat) : Int) old) ∧ h.IsTupleIter it a i) where
 mem := by simp
 obj := fun i h st b hb => by
  obtain ⟨⟨old,he⟩,hi⟩ := st
  simp only [List.mem_cons,List.not_mem_nil,or_false] at hb
  rcases hb with rfl | rfl
  ·exact ⟨_,he,fun v z => by
    have z' : Data.fields _ = Data.cell v := z
    cases z'⟩
  ·obtain ⟨o,q,c,d⟩ := hi
   exact ⟨o,q,fun v z => by rw [d] at z; cases z⟩
 keep := fun i h h' st k => by
  obtain ⟨⟨old,he⟩,o,q,r⟩ := st
  exact ⟨⟨old,k e (by simp) _ he⟩,o,k it (by simp) o q,r⟩
 item:= by
  intro X hP hw hK hc i pins s σ H E I hf st hg
  subst hP hw hK
  obtain ⟨xs,x,hq,hx⟩ := hg
  obtain ⟨⟨old,he⟩,hit⟩ := st
  obtain ⟨its,rv,p,hz⟩ := I.tuple hq
  obtain ⟨u,hu,ru⟩ := rv.get hx
  have fe := hf e (by simp)
  have fi := hf it (by simp)
  have hes : e < s.heap.objs.size := Heap.lt_size he
  have his : it < s.heap.objs.size := by obtain ⟨o,q,_⟩ := id hit; exact Heap.lt_size q
  have hai : a ≠ it := fun z => by
   obtain ⟨o,q,c,_⟩ := id hit
   obtain ⟨o',q',c',_⟩ := id p
   rw [z,q] at q'; cases q'
   rw [c] at c'; exact absurd c' (by decide)
  have hea : e ≠ a := fun z => by
   obtain ⟨o',q',c',_⟩ := id p
   rw [← z] at q'
   have he' := he.symm.trans q'
   cases he'
   exact absurd (show Value.type "enumerate" = Value.type "tuple" from c') (by decide)
  have hil : i < its.toArray.size:= by
   rw [List.size_toArray]
   exact (List.getElem?_eq_some_iff.mp hu).1
  refine wpAny_pyNext_enum_itemD (a7K (l := a) (its := its.toArray) (I.ok.hd hc) hai) he ⟨hit,p⟩ hil hne (by simp [hne,hea]) fun v h₁ tk hv heo hit₁ ht₁ hz₁ hk₁ => ?_
  have ev : v = u:= by
   have hv : its[i]? = some v := by simpa using hv
   rw [hu] at hv; exact (Option.some.inj hv).symm
  subst ev
  refine ⟨_,rfl,wpAny_letOwnedTupleGo_enum heo fun h₂ he₂ hs₂ => ?_⟩
  replace hs₂ : Heap.SameBut e h₁ h₂ := hs₂
  have hn : H s.heap.objs.size = none := I.hok.fresh (Nat.le_refl _)
  have I1 : Inv X pins σ (upd H s.heap.objs.size (.tup [.int (i : Int),x])) { s with heap := s.heap.push { cls := .type "tuple",data := .seq #[.int i tk,v] },toks := tk }:=
   I.laid (t' := tk) (fun b o q => Heap.get?_push_of_some _ q) (Nat.le_refl _) ⟨by show 2 ≤ sizeLine; decide,[.int i tk,v],.cons ⟨_,rfl⟩ (.cons ru .nil),⟨_,Heap.get?_push_size _ rfl,rfl,_,rfl⟩⟩
  have up : ∀ b,b < s.heap.objs.size → F8 X pins H b → F8 X pins (upd H s.heap.objs.size (.tup [.int (i : Int),x])) b := fun b hb f => ⟨by rw [o9 (Nat.ne_of_lt hb)]; exact f.1,f.2⟩
  have I2 := I1.turned2 (h' := h₂) (t' := tk + 1) (a := e) (b := it) (fun c o ce ci q => by
   rcases Heap.get?_push_cases q with ⟨rfl,rfl⟩ | q1
   ·exact (hs₂.2 _ ce).trans ht₁
   ·exact (hs₂.2 _ ce).trans (hk₁ c o ce ci q1)) (up e hes fe) (up it his fi)
  refine ⟨.ref s.heap.objs.size,_,I2,rfl,⟨_,x,hn,rfl,rfl,fun ys hy => by rw [I.tuple_inj hy hq]; exact hx⟩,⟨⟨v,?_⟩,?_⟩,fun b hb => ?_⟩
  ·have : ((i + 1 : Nat) : Int) = (i : Int) + 1 := by push_cast; rfl
   rw [this]; exact he₂
  ·obtain ⟨o,q,r⟩ := hit₁.1
   exact ⟨o,hs₂.extBut _ _ (Ne.symm hne) q,r⟩
  ·simp only [List.mem_cons,List.not_mem_nil,or_false] at hb
   rcases hb with rfl | rfl
   ·exact (up _ hes fe).1
   ·exact (up _ his fi).1
 done:= by
  intro X hP hw hK hc i pins s σ H E I hf st hg
  subst hP hw hK
  obtain ⟨xs,hq,hx⟩ := hg
  obtain ⟨⟨old,he⟩,hit⟩ := st
  obtain ⟨its,rv,p,hz⟩ := I.tuple hq
  obtain ⟨f0,f1,f2,f3,f4,f5⟩ := hf it (by simp)
  have hl := rv.length
  unfold pyNext
  refine wpAny_bind (wpAny_attempt (wpAny_callSpecial?_slot (name := Str.ofString "__next__") ⟨_,he,rfl⟩ F.slot_enumerate_next (wpAny_call_entry F.slot_enumerate_next ⟨_,he,rfl⟩ F.entry_enumerate_next ?_ (F.args_enumerate_next_1 _))))
  show wpAny _ _ (field (.ref e) 2 >>= fun v => _) _ _ _
  refine wpAny_bind (wpAny_field he rfl (x := .ref it) rfl ?_)
  refine wpAny_bind (DL.nextOf_tup_end (I.ok.hd hc) hit p (by simp; omega) fun h' y eb hy => ?_)
  obtain ⟨o,ho,hcl⟩ := hy
  refine wpAny_bind (wpAny_isInstance (T := "StopIteration") (b := true) ⟨o,ho,hcl⟩ isSubtype_stop ?_)
  exact wpAny_pure ⟨rfl,I.turned (t' := s.toks) (fun b o hb q => eb b o hb q) f0 f1 f3 f4 f5⟩
 self := fun _ _ _ _ _ st h => by obtain ⟨⟨old,he⟩,_⟩ := st; exact wpAny_pyIter_enum he h
section
variable {X : Cx}
def b3p (K : PySem.W.Frag) (ta : TA) : TI := fun σ H R => ta σ H fun vs H1 => ∃ a,vs = [.ref a] ∧ (∃ xs,SqT K H1 a xs) ∧ R (a0e K a) H1
theorem a8k {a : Expr} {ta : TA} {p pos pt : Pos} {elts : List Expr} {x1} (hg : Gl X "enumerate") (hm : X.mg "enumerate" = none) (ha : PA X [a] ta) (hs : starEach [a] X.env = [(false,eval a X.env)] := by rfl) : PI X (.Tuple elts x1 pt) (.Call (.Name "enumerate" p) [a] [] pos) (b3p X.K ta):= by
 intro pins s σ H R I h
 refine Call_ (S7 I hg hm b1v (PyProof.Rows.callWith_type1 (thn (ha pos pins s σ H _ I h) fun us s1 ⟨vs,H1,I1,r1,q1⟩ => ?_) hs rfl))
 obtain ⟨l,e,⟨xs,hq⟩,q⟩ := q1
 subst e
 cases r1 with
 | cons r rr=>
  cases rr
  cases r
  obtain ⟨its,rv,pp,hz⟩ := I1.tuple hq
  refine b0P pp fun h' he hit hk => wpAny_pyIter_enum he ?_
  refine ⟨s1.heap.objs.size + 1,[s1.heap.objs.size + 1,s1.heap.objs.size],_,_,H1,rfl,I1.kept (t' := s1.toks) hk,a8b l (s1.heap.objs.size + 1) s1.heap.objs.size (Nat.succ_ne_self _),⟨⟨_,he⟩,hit⟩,fun b hb => ?_,q⟩
  simp only [List.mem_cons,List.not_mem_nil,or_false] at hb
  rcases hb with rfl | rfl
  ·exact I1.fpOk (Nat.le_succ _) (I1.hok.fresh (Nat.le_succ _))
  ·exact I1.fpOk (Nat.le_refl _) (I1.hok.fresh (Nat.le_refl _))
theorem b3h {K : PySem.W.Frag} {a : Addr} {xs : List V} {g : TG} {tb : TS} {D : Ends} {σ : St} {H : Hp} (Pv : Nat → St → Hp → Prop) (h0 : Pv 0 σ H) (hl : ∀ i σ H,i ≤ xs.length → Pv i σ H → SqT K H a xs)
  (hs : ∀ i x p σ H,xs[i]? = some x → H p = none → Pv i σ H → g (.ref p) σ (upd H p (.tup [.int (i : Int),x])) fun σ2 H2 => tb { D with nx := Pv (i + 1),ct := Pv (i + 1),bk := D.nx } σ2 H2) (hd : ∀ σ H,Pv xs.length σ H → D.nx σ H) :
  ∃ W : Nat → Nat → St → Hp → Prop,(∃ m,W 0 m σ H) ∧ ∀ i m σ H,W i m σ H →
   ((a0e K a).stop i H ∧ D.nx σ H) ∨ ((a0e K a).go i H ∧ ∃ N : St → Hp → Prop,(∀ σ' H',N σ' H' → ∃ m',m' < m ∧ W (i + 1) m' σ' H') ∧ ∀ x H',(a0e K a).yld i H x H' → g x σ H' fun σ2 H2 => tb { D with nx := N,ct := N,bk := D.nx } σ2 H2):= by
 refine ⟨fun i m σ H => m = xs.length - i ∧ i ≤ xs.length ∧ Pv i σ H,⟨xs.length,by simp,Nat.zero_le _,h0⟩,?_⟩
 rintro i m σ H ⟨rfl,hi,p⟩
 have q := hl i σ H hi p
 by_cases hlt : i < xs.length
 ·refine .inr ⟨⟨xs,xs[i],q,by simp [hlt]⟩,Pv (i + 1),fun σ' H' p' => ⟨xs.length - (i + 1),by omega,rfl,hlt,p'⟩,fun v H' y => ?_⟩
  obtain ⟨pp,x,hp,rfl,rfl,y⟩ := y
  exact hs i x pp σ _ (y xs q) hp p
 ·have e : i = xs.length := by omega
  subst e
  exact .inl ⟨⟨xs,q,Nat.le_refl _⟩,hd σ H p⟩
end
end L2
namespace DL
open PySem PySem.Spec L2 PyProof.Rows
def Z3 (f : DA) (t : D → DS → Option DS) (b : DM) : DM := fun s => (f s).bind fun x => match x.1 with
 | [.tup ds] => A6 t b (G9 ds) x.2
 | _ => none
theorem b2f {f : DA} {t : D → DS → Option DS} {b : DM} {s : DS} {r : Fl × DS} (q : Z3 f t b s = some r) : ∃ ds s1,f s = some ([.tup ds],s1) ∧ A6 t b (G9 ds) s1 = some r:= by
 refine p8 q fun xs s1 h1 h2 => ?_
 cases xs with
 | nil => cases h2
 | cons d xs=>
  cases xs with
  | cons _ _ => cases d <;> cases h2
  | nil=>
   cases d with
   | tup ds => exact ⟨ds,s1,h1,h2⟩
   | _ => cases h2
theorem b2N {f : DA} {t : D → DS → Option DS} {b : DM} {s s1 : DS} {ds : List D} (h : f s = some ([.tup ds],s1)) : Z3 f t b s = A6 t b (G9 ds) s1:= by
 unfold Z3
 rw [h,Option.bind_some]
section
variable {X : Cx} {g : Gh} {e : Expr} {body : List Stmt} {f : DA} {t : D → DS → Option DS} {b : DM} {pos p1 p2 pt : Pos} {elts : List Expr} {x1 : Nat}
theorem b2i (hp : PassesOwn (model X.prog X.w) X.A X.env X.xe) (hc : X.calm = true) (hgl : Gl X "enumerate") (hm : X.mg "enumerate" = none) (he : AO X g [e] f) (hg : GO X g (.Tuple elts x1 pt) t) (hb : SSO X g body b)
  (hst : starEach [e] X.env = [(false,eval e X.env)] := by rfl) (hs : ∀ x,foldedSetIterable (.Call (.Name "enumerate" p1) [e] [] p2) X.env x = pure x := by intro _; rfl) :
  SO X g (.For (.Tuple elts x1 pt) (.Call (.Name "enumerate" p1) [e] [] p2) body [] pos) (Z3 f t b) := SO.w (a0W hp hc (a8k hgl hm he.pe hst) hg.pe hb.pe hs) fun E σ H hQ => by
 refine hQ.elim fun fa O s fl sf I q k => ?_
 obtain ⟨ds,s1,h1,h2⟩ := b2f q
 refine ⟨fa,O,s,_,s1,I,h1,fun vs H1 f1 O1 a1 I1 r => ?_⟩
 have k1 := k.shift a1.stp
 ·simp only [Reps,Rep] at r
  obtain ⟨v,ys,rfl,⟨a,xs,rfl,q,w⟩,rfl⟩ := r
  refine ⟨a,rfl,⟨xs,q⟩,b3h (xs := xs) (PvD X.K g f1 O1 H1 t b (G9 ds) fl sf) ⟨f1,O1,s1,Stp.refl,I1,h2⟩ ?_ ?_ ?_⟩
  ·rintro i σ' H' _ ⟨fa',O',s',st,I',e⟩
   exact (I1.car st).tp a xs q
  ·intro i x p σ' H' hx hpn h
   obtain ⟨d,hd,rd⟩ := Reps.get' w hx
   have h' : PvD X.K g f1 O1 H1 t b (G9 ds) fl sf i σ' (upd H' p (.tup [.int (i : Int),x])):= by
    obtain ⟨fa',O',s',st,I',e⟩ := h
    exact ⟨fa',O',s',st.trans (C2 hpn).stp,I'.new hpn,e⟩
   refine a0c k1 (a4u hd) (fun fa' O' st => ?_) h'
   simp only [Rep,Reps]
   exact ⟨p,[.int (i : Int),x],rfl,SqT.of A9,_,_,rfl,rfl,_,_,rfl,Rep.stp I1 st rd,rfl⟩
  ·intro σ' H' h
   refine Z4 k1 ?_ h
   unfold G9
   rw [List.length_map,List.length_zipIdx,w.length]
   exact Nat.le_refl _
end
end DL
namespace T
open PySem PySem.Spec L2 DL
abbrev b1Z : DM := (e7 (j4 (dOp y7 (dL 2) (dL 3)) (i4 4)) (e7 (j4 (dV 3) (i4 2)) (j4 (dV 4) (i4 3))))
def a37 : DM := (e7 (j4 (dCB (one S0) (a0 (dL 0) a6)) (i4 2)) (e7 (j4 (dCB (one S0) (a0 (dL 1) a6)) (i4 3)) (e7 (G4 (dB (dOp pNe (dL 3) (dC (.int 0)))) (b1Z)) (j7 (dV 2)))))
def F5 : DFn := mFn 5 (a37)
abbrev a0r (m_divisor_of_two : DFn) : DM := (j4 (c6 m_divisor_of_two (a0 (dV 1) (a0 (dV 2) a6))) (i4 1))
def a2s (m_divisor_of_two : DFn) : DM := (e7 (j4 (dC (.int 0)) (i4 1)) (e7 (P8 (dV 0) (i4 2) (a0r m_divisor_of_two)) (j7 (dV 1))))
def T3 (m_divisor_of_two : DFn) : DFn := mFn 3 (a2s m_divisor_of_two)
def a2f (m_divisor : DFn) : DM := (e7 (j4 (c6 m_divisor (a0 (dV 0) a6)) (i4 1)) (e7 (l7 (dB (dOp (k0 (fun i j => decide (i < j))) (dOp pIx (dL 0) (dUn l6 (dC (.int 1)))) (dC (.int 0)))) (j4 (dUn l6 (dL 1)) (i4 1)) m7) (j7 (dCB (one J5) (a0 (m8 (D7 [1] (E8 (dV 0)) B4 (dOp F1 (dL 0) (dL 1)))) a6)))))
def a3B (m_divisor : DFn) : DFn := mFn 2 (a2f m_divisor)
def a0K : DM := (e7 (j4 (dOp k6 (dOp pIx (dL 0) (dC (.int 0))) (dOp pIx (dL 1) (dC (.int 2)))) (i4 2)) (e7 (j4 (dOp k6 (dOp pIx (dL 1) (dC (.int 0))) (dOp pIx (dL 0) (dC (.int 2)))) (i4 3)) (e7 (l7 (dB (dOp pNe (dL 2) (dL 3))) (j7 (dOp (k0 (fun i j => decide (i < j))) (dL 2) (dL 3))) m7) (j7 (dOp (k0 (fun i j => decide (i < j))) (dOp k6 (dOp pIx (dL 0) (dC (.int 1))) (dOp pIx (dL 1) (dC (.int 2)))) (dOp k6 (dOp pIx (dL 1) (dC (.int 1))) (dOp pIx (dL 0) (dC (.int 2)))))))))
def N2 : DFn := mFn 4 (a0K)
def a0p : DM := (e7 (l7 (dB (dOp (k0 (fun i j => decide (j < i))) (dL 0) (dC (.int 0)))) (j7 (dC (.int 1))) m7) (e7 (l7 (dB (dOp (k0 (fun i j => decide (i < j))) (dL 0) (dC (.int 0)))) (j7 (dUn l6 (dC (.int 1)))) m7) (j7 (dC (.int 0)))))
def a1s : DFn := mFn 1 (a0p)
def a0y : DM := (e7 (l7 (dTr (dL 1)) (j7 (m8 (dCF X4 (a0 (dL 0) (a0 (dOp t6 (dSl (dL 0) (dAt (dC (.int 1))) dNo) (dSl (dL 0) dNo (dAt (dC (.int 1))))) a6))))) m7) (j7 (m8 (dCF X4 (a0 (dL 0) (a0 (dSl (dL 0) (dAt (dC (.int 1))) dNo) a6))))))
def Y4 : DFn := mFn 2 (a0y)
def a38 (m_neighbours : DFn) : DM := (j7 (dCB (one J5) (a0 (c6 m_neighbours (a0 (dOp pIx (dL 0) (dC (.int 1))) (a0 (dOp pIx (dL 0) (dC (.int 0))) a6))) a6)))
def a1G (m_neighbours : DFn) : DFn := mFn 1 (a38 m_neighbours)
def a4d : DM := (j7 (dTN 0))
def P4 : DFn := mFn 1 (a4d)
def S3 : DM := (e7 (l7 (dB (dOp (k0 (fun i j => decide (j < i))) (dTG 0 2) (dC (.int 0)))) (e7 (j4 (dOp y7 (dTG 0 2) (dL 1)) (i4 2)) (e7 (dTP 0 2 (dOp F1 (dTG 0 2) (dL 1))) (j7 (dV 2)))) m7) (e7 (j4 (dTG 0 1) (i4 3)) (e7 (dTP 0 1 (dOp t6 (dL 3) (dC (.int 1)))) (e7 (j4 (dC (.int 0)) (i4 4)) (e7 (l7 (dB (dOp (k0 (fun i j => decide (j < i))) (dCB (one k9) (a0 (dTG 0 0) a6)) (dC (.int 0)))) (j4 (dOp pIx (dTG 0 0) (dOp y7 (dL 3) (dCB (one k9) (a0 (dTG 0 0) a6)))) (i4 4)) m7) (e7 (l7 (v8 (dB (dOp (k0 (fun i j => decide (j ≤ i))) (dL 4) (dOp J4 (dC (.int 10)) (dC (.int 18))))) (dB (dOp (k0 (fun i j => decide (i < j))) (dL 3) (dCB (one k9) (a0 (dTG 0 0) a6))))) (e7 (dTP 0 2 (dOp F1 (dL 4) (dL 1))) (j7 (dOp y7 (dL 4) (dL 1)))) m7) (e7 (j4 (dOp y7 (dOp k6 (dOp t6 (dOp t6 (dOp y7 (dL 4) (dC (.int 1000033))) (dOp k6 (dOp k6 (dC (.int 37)) (dL 3)) (dL 3))) (dC (.int 11))) (dC (.int 69621))) (dC (.int 999983))) (i4 5)) (j7 (dOp y7 (dOp F1 (dOp y7 (dOp k6 (dOp y7 (dOp t6 (dOp k6 (dL 5) (dC (.int 48271))) (dOp k6 (dL 3) (dC (.int 6007)))) (dC (.int 999979))) (dC (.int 40692))) (dC (.int 1048573))) (dC (.int 64))) (dL 1))))))))))
def G8 : DFn := mFn 6 (S3)
abbrev a9t : DM := (A7 0 1 (a0 (dV 1) (a0 (dOp y7 (dL 0) (dL 1)) a6)))
def a1v : DM := (e7 (A7 0 1 (a0 (dCB (one S0) (a0 (dL 0) a6)) (a0 (dCB (one S0) (a0 (dL 1) a6)) a6))) (e7 (G4 (dB (dOp (k0 (fun i j => decide (j < i))) (dL 1) (dC (.int 0)))) (a9t)) (j7 (dV 0))))
def u6 : DFn := mFn 2 (a1v)
def a3g (m_law_divisor : DFn) : DM := (e7 (j4 (c6 m_law_divisor (a0 (dV 0) (a0 (dV 1) a6))) (i4 2)) (e7 (l7 (dB (dOp (k0 (fun i j => decide (i < j))) (dL 1) (dC (.int 0)))) (j4 (dUn l6 (dL 2)) (i4 2)) m7) (j7 (i3 (a0 (dOp F1 (dL 0) (dL 2)) (a0 (dOp F1 (dL 1) (dL 2)) a6))))))
def w6 (m_law_divisor : DFn) : DFn := mFn 3 (a3g m_law_divisor)
def a56 (m_is_lesser : DFn) : DM := (j7 (dIf (dTr (c6 m_is_lesser (a0 (dV 0) (a0 (dV 1) a6)))) (i3 (a0 (dV 0) (a0 (dV 1) a6))) (i3 (a0 (dV 1) (a0 (dV 0) a6)))))
def a0k (m_is_lesser : DFn) : DFn := mFn 2 (a56 m_is_lesser)
def a3K (m_law_draw : DFn) : DM := (e7 (u9 1 (m9 (a0 (i3 (a0 (dC (.int 0)) (a0 (dC (.int 1)) a6))) (a0 (i3 (a0 (dC (.int 1)) (a0 (dC (.int 1)) a6))) (a0 (i3 (a0 (dUn l6 (dC (.int 1))) (a0 (dC (.int 2)) a6))) (a0 (i3 (a0 (dC (.int 5)) (a0 (dC (.int 3)) a6))) (a0 (i3 (a0 (dUn l6 (dC (.int 7))) (a0 (dC (.int 1)) a6))) (a0 (i3 (a0 (dC (.int 3)) (a0 (dC (.int 2)) a6))) a6)))))))) (e7 (j4 (dOp pIx (dL 1) (c6 m_law_draw (a0 (dV 0) (a0 (dC (.int 6)) a6)))) (i4 2)) (j7 (i3 (a0 (dV 2) (a0 (dOp pIx (dL 1) (c6 m_law_draw (a0 (dV 0) (a0 (dC (.int 6)) a6)))) a6))))))
def a0P (m_law_draw : DFn) : DFn := mFn 3 (a3K m_law_draw)
def a9V (m_law_low : DFn) : DM := (j7 (c6 m_law_low (a0 (dOp k6 (dOp pIx (dL 0) (dC (.int 0))) (dOp pIx (dL 1) (dC (.int 0)))) (a0 (dOp k6 (dOp pIx (dL 0) (dC (.int 1))) (dOp pIx (dL 1) (dC (.int 1)))) a6))))
def R7 (m_law_low : DFn) : DFn := mFn 2 (a9V m_law_low)
def a2D (m_law_divisor : DFn) : DM := (e7 (j4 (i3 (a0 (dOp k6 (dOp pIx (dL 0) (dC (.int 0))) (dOp pIx (dL 1) (dC (.int 1)))) (a0 (dOp k6 (dOp pIx (dL 1) (dC (.int 0))) (dOp pIx (dL 0) (dC (.int 1)))) (a0 (dOp k6 (dOp pIx (dL 0) (dC (.int 1))) (dOp pIx (dL 1) (dC (.int 1)))) a6)))) (i4 2)) (e7 (j4 (c6 m_law_divisor (a0 (c6 m_law_divisor (a0 (dOp pIx (dL 2) (dC (.int 0))) (a0 (dOp pIx (dL 2) (dC (.int 1))) a6))) (a0 (dOp pIx (dL 2) (dC (.int 2))) a6))) (i4 3)) (j7 (dCB (one J5) (a0 (m8 (D7 [3] (E8 (dV 2)) B4 (dOp F1 (dL 0) (dL 1)))) a6)))))
def O5 (m_law_divisor : DFn) : DFn := mFn 4 (a2D m_law_divisor)
def b1y (m_law_low : DFn) : DM := (j7 (c6 m_law_low (a0 (dOp t6 (dOp k6 (dOp pIx (dL 0) (dC (.int 0))) (dOp pIx (dL 1) (dC (.int 1)))) (dOp k6 (dOp pIx (dL 1) (dC (.int 0))) (dOp pIx (dL 0) (dC (.int 1))))) (a0 (dOp k6 (dOp pIx (dL 0) (dC (.int 1))) (dOp pIx (dL 1) (dC (.int 1)))) a6))))
def R9 (m_law_low : DFn) : DFn := mFn 2 (b1y m_law_low)
abbrev a0A (m_law_spot : DFn) (m_law_plus : DFn) (m_law_product : DFn) (m_law_start : DFn) (m_law_draw : DFn) : DM := (e7 (j4 (c6 m_law_product (a0 (dV 7) (a0 (i3 (a0 (dOp t9 (dOp k6 (dL 11) (dL 4)) (dOp k6 (dL 12) (dL 5))) (a0 (dV 6) a6))) a6))) (i4 13)) (e7 (j4 (c6 m_law_product (a0 (dV 7) (a0 (i3 (a0 (dOp t6 (dOp k6 (dL 11) (dL 5)) (dOp k6 (dL 12) (dL 4))) (a0 (dV 6) a6))) a6))) (i4 14)) (F2 10 (c6 m_law_spot (a0 (c6 m_law_plus (a0 (dV 8) (a0 (dV 13) a6))) (a0 (c6 m_law_plus (a0 (dV 9) (a0 (dV 14) a6))) a6))))))
def a3E (m_law_spot : DFn) (m_law_plus : DFn) (m_law_product : DFn) (m_law_start : DFn) (m_law_draw : DFn) : DM := (e7 (u9 1 (m9 (a0 (i3 (a0 (i3 (a0 (dC (.int 0)) (a0 (dC (.int 0)) a6))) (a0 (i3 (a0 (dC (.int 4)) (a0 (dC (.int 0)) a6))) (a0 (i3 (a0 (dC (.int 0)) (a0 (dC (.int 3)) a6))) a6)))) (a0 (i3 (a0 (i3 (a0 (dC (.int 0)) (a0 (dC (.int 0)) a6))) (a0 (i3 (a0 (dC (.int 14)) (a0 (dC (.int 0)) a6))) (a0 (i3 (a0 (dC (.int 5)) (a0 (dC (.int 12)) a6))) a6)))) (a0 (i3 (a0 (i3 (a0 (dC (.int 0)) (a0 (dC (.int 0)) a6))) (a0 (i3 (a0 (dC (.int 2)) (a0 (dC (.int 0)) a6))) (a0 (i3 (a0 (dC (.int 2)) (a0 (dC (.int 2)) a6))) (a0 (i3 (a0 (dC (.int 0)) (a0 (dC (.int 2)) a6))) a6))))) a6))))) (e7 (u9 1 (E4 L0 (dL 1) (m8 (m9 (a0 (i3 (a0 (i3 (a0 (dC (.int 0)) (a0 (dC (.int 0)) a6))) (a0 (i3 (a0 (dC (.int 3)) (a0 (dC (.int 4)) a6))) (a0 (i3 (a0 (dC (.int 3)) (a0 (dC (.int 0)) a6))) (a0 (i3 (a0 (dC (.int 0)) (a0 (dC (.int 4)) a6))) a6))))) (a0 (i3 (a0 (i3 (a0 (dC (.int 0)) (a0 (dC (.int 0)) a6))) (a0 (i3 (a0 (dC (.int 5)) (a0 (dC (.int 0)) a6))) (a0 (i3 (a0 (dC (.int 0)) (a0 (dC (.int 0)) a6))) (a0 (i3 (a0 (dC (.int 3)) (a0 (dC (.int 4)) a6))) a6))))) a6)))))) (e7 (u9 1 (E4 L0 (dL 1) (m8 (m9 (a0 (i3 (a0 (i3 (a0 (dC (.int 0)) (a0 (dC (.int 0)) a6))) (a0 (i3 (a0 (dC (.int 3)) (a0 (dC (.int 0)) a6))) (a0 (i3 (a0 (dC (.int 3)) (a0 (dC (.int 4)) a6))) (a0 (i3 (a0 (dC (.int 6)) (a0 (dC (.int 8)) a6))) (a0 (i3 (a0 (dC (.int 0)) (a0 (dC (.int 8)) a6))) (a0 (i3 (a0 (dC (.int 3)) (a0 (dC (.int 4)) a6))) a6))))))) a6))))) (e7 (u9 1 (E4 L0 (dL 1) (m8 (m9 (a0 (i3 (a0 (i3 (a0 (dC (.int 0)) (a0 (dC (.int 0)) a6))) (a0 (i3 (a0 (dC (.int 6)) (a0 (dC (.int 0)) a6))) (a0 (i3 (a0 (dC (.int 6)) (a0 (dC (.int 2)) a6))) (a0 (i3 (a0 (dC (.int 2)) (a0 (dC (.int 2)) a6))) (a0 (i3 (a0 (dC (.int 2)) (a0 (dC (.int 4)) a6))) (a0 (i3 (a0 (dC (.int 6)) (a0 (dC (.int 4)) a6))) (a0 (i3 (a0 (dC (.int 6)) (a0 (dC (.int 6)) a6))) (a0 (i3 (a0 (dC (.int 0)) (a0 (dC (.int 6)) a6))) a6))))))))) a6))))) (e7 (j4 (dOp pIx (dL 1) (c6 m_law_draw (a0 (dV 0) (a0 (dC (.int 7)) a6)))) (i4 2)) (e7 (j4 (c6 m_law_draw (a0 (dV 0) (a0 (dCB (one k9) (a0 (dL 2) a6)) a6))) (i4 3)) (e7 (j4 (a0V (dOp t6 (dSl (dL 2) (dAt (dL 3)) dNo) (dSl (dL 2) dNo (dAt (dL 3)))) (dOp t9 (dC (.int 1)) (dOp k6 (dC (.int 2)) (c6 m_law_draw (a0 (dV 0) (a0 (dC (.int 2)) a6)))))) (i4 2)) (e7 (j4 (dOp pIx (m8 (m9 (a0 (i3 (a0 (dC (.int 1)) (a0 (dC (.int 0)) (a0 (dC (.int 1)) a6)))) (a0 (i3 (a0 (dC (.int 0)) (a0 (dC (.int 1)) (a0 (dC (.int 1)) a6)))) (a0 (i3 (a0 (dC (.int 3)) (a0 (dC (.int 4)) (a0 (dC (.int 5)) a6)))) (a0 (i3 (a0 (dUn l6 (dC (.int 4))) (a0 (dC (.int 3)) (a0 (dC (.int 5)) a6)))) (a0 (i3 (a0 (dC (.int 5)) (a0 (dC (.int 12)) (a0 (dC (.int 13)) a6)))) a6))))))) (c6 m_law_draw (a0 (dV 0) (a0 (dC (.int 5)) a6)))) (u3 3 (m5 (i4 4) (m5 (i4 5) (m5 (i4 6) u5))))) (e7 (j4 (dOp pIx (m8 (m9 (a0 (i3 (a0 (dC (.int 1)) (a0 (dC (.int 1)) a6))) (a0 (i3 (a0 (dC (.int 1)) (a0 (dC (.int 2)) a6))) (a0 (i3 (a0 (dC (.int 3)) (a0 (dC (.int 1)) a6))) a6))))) (c6 m_law_draw (a0 (dV 0) (a0 (dC (.int 3)) a6)))) (i4 7)) (e7 (j4 (c6 m_law_start (a0 (dV 0) a6)) (u3 2 (m5 (i4 8) (m5 (i4 9) u5)))) (e7 (u9 10 (m9 a6)) (e7 (P8 (dV 2) (u3 2 (m5 (i4 11) (m5 (i4 12) u5))) (a0A m_law_spot m_law_plus m_law_product m_law_start m_law_draw)) (j7 (i3 (a0 (dC (.bl true)) (a0 (dCB (one J5) (a0 (dL 10) a6)) a6))))))))))))))))
def a3P (m_law_spot : DFn) (m_law_plus : DFn) (m_law_product : DFn) (m_law_start : DFn) (m_law_draw : DFn) : DFn := mFn 15 (a3E m_law_spot m_law_plus m_law_product m_law_start m_law_draw)
abbrev a1T (m_law_draw : DFn) : DM := (u9 7 (E4 L0 (dL 7) (m8 (m9 (a0 (i3 (a0 (dV 8) (a0 (dV 9) (a0 (dV 6) a6)))) (a0 (i3 (a0 (dUn l6 (dL 9)) (a0 (dV 8) (a0 (dV 6) a6)))) (a0 (i3 (a0 (dUn l6 (dL 8)) (a0 (dUn l6 (dL 9)) (a0 (dV 6) a6)))) (a0 (i3 (a0 (dV 9) (a0 (dUn l6 (dL 8)) (a0 (dV 6) a6)))) a6))))))))
def Z7 (m_law_draw : DFn) : DM := (e7 (j4 (dOp pIx (m8 (m9 (a0 (dC (.int 1)) (a0 (dC (.int 1)) (a0 (dC (.int 1)) (a0 (dC (.int 1)) (a0 (dC (.int 1)) (a0 (dC (.int 1)) (a0 (dC (.int 1)) (a0 (dOp J4 (dC (.int 10)) (dC (.int 12))) a6)))))))))) (c6 m_law_draw (a0 (dV 0) (a0 (dC (.int 8)) a6)))) (i4 1)) (e7 (j4 (c6 m_law_draw (a0 (dV 0) (a0 (dC (.int 5)) a6))) (i4 2)) (e7 (l7 (dB (dOp pEq (dL 2) (dC (.int 0)))) (e7 (u9 3 (m9 (a0 (i3 (a0 (dC (.int 1)) (a0 (dC (.int 1)) a6))) (a0 (i3 (a0 (dC (.int 2)) (a0 (dC (.int 1)) a6))) (a0 (i3 (a0 (dC (.int 1)) (a0 (dC (.int 2)) a6))) (a0 (i3 (a0 (dC (.int 40)) (a0 (dC (.int 1)) a6))) (a0 (i3 (a0 (dC (.int 7)) (a0 (dC (.int 3)) a6))) a6))))))) (j7 (i3 (a0 (m8 (m9 (a0 (i3 (a0 (dC (.int 1)) (a0 (dC (.int 0)) (a0 (dC (.int 1)) a6)))) (a0 (i3 (a0 (dC (.int 0)) (a0 (dC (.int 1)) (a0 (dC (.int 1)) a6)))) (a0 (i3 (a0 (dUn l6 (dC (.int 1))) (a0 (dC (.int 0)) (a0 (dC (.int 1)) a6)))) (a0 (i3 (a0 (dC (.int 0)) (a0 (dUn l6 (dC (.int 1))) (a0 (dC (.int 1)) a6)))) a6)))))) (a0 (m8 (T0 [1] (E8 (dV 3)) B4 (i3 (a0 (dOp k6 (dL 2) (dL 0)) (a0 (dV 1) a6))))) a6))))) m7) (e7 (j4 (dOp pIx (m8 (m9 (a0 (i3 (a0 (dC (.int 3)) (a0 (dC (.int 4)) (a0 (dC (.int 5)) a6)))) (a0 (i3 (a0 (dC (.int 3)) (a0 (dC (.int 4)) (a0 (dC (.int 5)) a6)))) (a0 (i3 (a0 (dC (.int 5)) (a0 (dC (.int 12)) (a0 (dC (.int 13)) a6)))) (a0 (i3 (a0 (dC (.int 8)) (a0 (dC (.int 15)) (a0 (dC (.int 17)) a6)))) a6)))))) (dOp t9 (dL 2) (dC (.int 1)))) (u3 3 (m5 (i4 4) (m5 (i4 5) (m5 (i4 6) u5))))) (e7 (u9 7 (m9 (a0 (i3 (a0 (dV 6) (a0 (dC (.int 0)) (a0 (dV 6) a6)))) (a0 (i3 (a0 (dC (.int 0)) (a0 (dV 6) (a0 (dV 6) a6)))) (a0 (i3 (a0 (dUn l6 (dL 6)) (a0 (dC (.int 0)) (a0 (dV 6) a6)))) (a0 (i3 (a0 (dC (.int 0)) (a0 (dUn l6 (dL 6)) (a0 (dV 6) a6)))) a6)))))) (e7 (P8 (m8 (m9 (a0 (i3 (a0 (dV 4) (a0 (dV 5) a6))) (a0 (i3 (a0 (dV 5) (a0 (dV 4) a6))) a6)))) (u3 2 (m5 (i4 8) (m5 (i4 9) u5))) (a1T m_law_draw)) (j7 (i3 (a0 (dV 7) (a0 (m8 (T0 [1] (E8 (m8 (m9 (a0 (i3 (a0 (dV 6) (a0 (dC (.int 1)) a6))) (a0 (i3 (a0 (dC (.int 1)) (a0 (dC (.int 1)) a6))) (a0 (i3 (a0 (dV 6) (a0 (dC (.int 2)) a6))) (a0 (i3 (a0 (dC (.int 2)) (a0 (dC (.int 1)) a6))) a6))))))) B4 (i3 (a0 (dOp k6 (dL 2) (dL 0)) (a0 (dV 1) a6))))) a6))))))))))
def a2O (m_law_draw : DFn) : DFn := mFn 10 (Z7 m_law_draw)
abbrev a1l (m_law_spot : DFn) (m_law_plus : DFn) (m_law_product : DFn) (m_law_draw : DFn) (m_law_start : DFn) (m_law_menu : DFn) : DM := (e7 (u9 9 (D7 [7] (E8 (dV 2)) (dB (dOp pNe (dL 0) (dL 1))) (dV 0))) (e7 (j4 (dOp pIx (dL 9) (c6 m_law_draw (a0 (dV 0) (a0 (dCB (one k9) (a0 (dL 9) a6)) a6)))) (i4 7)) (e7 (j4 (dOp pIx (dL 3) (c6 m_law_draw (a0 (dV 0) (a0 (dCB (one k9) (a0 (dL 3) a6)) a6)))) (i4 10)) (e7 (j4 (c6 m_law_plus (a0 (dV 4) (a0 (c6 m_law_product (a0 (dV 10) (a0 (i3 (a0 (dOp pIx (dL 7) (dC (.int 0))) (a0 (dOp pIx (dL 7) (dC (.int 2))) a6))) a6))) a6))) (i4 4)) (e7 (j4 (c6 m_law_plus (a0 (dV 5) (a0 (c6 m_law_product (a0 (dV 10) (a0 (i3 (a0 (dOp pIx (dL 7) (dC (.int 1))) (a0 (dOp pIx (dL 7) (dC (.int 2))) a6))) a6))) a6))) (i4 5)) (F2 6 (c6 m_law_spot (a0 (dV 4) (a0 (dV 5) a6)))))))))
def a28 (m_law_spot : DFn) (m_law_plus : DFn) (m_law_product : DFn) (m_law_draw : DFn) (m_law_start : DFn) (m_law_menu : DFn) : DM := (e7 (j4 (c6 m_law_menu (a0 (dV 0) a6)) (u3 2 (m5 (i4 2) (m5 (i4 3) u5)))) (e7 (j4 (c6 m_law_start (a0 (dV 0) a6)) (u3 2 (m5 (i4 4) (m5 (i4 5) u5)))) (e7 (u9 6 (m9 (a0 (c6 m_law_spot (a0 (dV 4) (a0 (dV 5) a6))) a6))) (e7 (j4 (dC .non) (i4 7)) (e7 (J7 (a0 (dOp t6 (dC (.int 1)) (c6 m_law_draw (a0 (dV 0) (a0 (dOp t9 (dL 1) (dC (.int 1))) a6)))) a6) (i4 8) (a1l m_law_spot m_law_plus m_law_product m_law_draw m_law_start m_law_menu)) (j7 (i3 (a0 (dC (.bl false)) (a0 (dCB (one J5) (a0 (dL 6) a6)) a6)))))))))
def a1C (m_law_spot : DFn) (m_law_plus : DFn) (m_law_product : DFn) (m_law_draw : DFn) (m_law_start : DFn) (m_law_menu : DFn) : DFn := mFn 11 (a28 m_law_spot m_law_plus m_law_product m_law_draw m_law_start m_law_menu)
def a8F (m_law_draw : DFn) (m_law_closed : DFn) (m_law_open : DFn) : DM := (j7 (dIf (dB (dOp pEq (c6 m_law_draw (a0 (dV 0) (a0 (dC (.int 3)) a6))) (dC (.int 0)))) (c6 m_law_closed (a0 (dV 0) a6)) (c6 m_law_open (a0 (dV 0) (a0 (dV 1) a6)))))
def a2w (m_law_draw : DFn) (m_law_closed : DFn) (m_law_open : DFn) : DFn := mFn 2 (a8F m_law_draw m_law_closed m_law_open)
def a2Q : DM := (e7 (j4 (dV 0) (u3 2 (m5 (i4 1) (m5 (i4 2) u5)))) (e7 (u9 3 (D7 [2] (a1g (a0 (dOp t9 (dCB (one k9) (a0 (dL 2) a6)) (dC (.int 1))) a6)) B4 (i3 (a0 (dOp pIx (dL 1) (dL 0)) (a0 (dOp pIx (dL 1) (dOp t6 (dL 0) (dC (.int 1)))) a6))))) (j7 (m8 (E4 L0 (dL 3) (m8 (E4 O6 (m8 (m9 (a0 (i3 (a0 (dOp pIx (dL 2) (dUn l6 (dC (.int 1)))) (a0 (dOp pIx (dL 2) (dC (.int 0))) a6))) a6))) (dCB (one N5) (a0 (dL 1) a6)))))))))
def K8 : DFn := mFn 4 (a2Q)
def a77 (m_law_low : DFn) : DM := (j7 (i3 (a0 (c6 m_law_low (a0 (dOp pIx (dL 0) (dC (.int 0))) (a0 (dOp pIx (dL 0) (dC (.int 2))) a6))) (a0 (c6 m_law_low (a0 (dOp pIx (dL 0) (dC (.int 1))) (a0 (dOp pIx (dL 0) (dC (.int 2))) a6))) a6))))
def N4 (m_law_low : DFn) : DFn := mFn 1 (a77 m_law_low)
def b36 (m_law_low : DFn) : DM := (j7 (c6 m_law_low (a0 (dOp t9 (dOp k6 (dOp pIx (dL 0) (dC (.int 0))) (dOp pIx (dL 1) (dC (.int 1)))) (dOp k6 (dOp pIx (dL 1) (dC (.int 0))) (dOp pIx (dL 0) (dC (.int 1))))) (a0 (dOp k6 (dOp pIx (dL 0) (dC (.int 1))) (dOp pIx (dL 1) (dC (.int 1)))) a6))))
def T5 (m_law_low : DFn) : DFn := mFn 2 (b36 m_law_low)
def a3G (m_law_spot : DFn) (m_law_low : DFn) (m_law_draw : DFn) : DM := (e7 (j4 (c6 m_law_low (a0 (dOp t9 (c6 m_law_draw (a0 (dV 0) (a0 (dC (.int 13)) a6))) (dC (.int 6))) (a0 (dOp pIx (m8 (m9 (a0 (dC (.int 1)) (a0 (dC (.int 1)) (a0 (dC (.int 2)) (a0 (dC (.int 3)) a6)))))) (c6 m_law_draw (a0 (dV 0) (a0 (dC (.int 4)) a6)))) a6))) (i4 1)) (j7 (c6 m_law_spot (a0 (dV 1) (a0 (c6 m_law_low (a0 (dOp t9 (c6 m_law_draw (a0 (dV 0) (a0 (dC (.int 13)) a6))) (dC (.int 6))) (a0 (dOp pIx (m8 (m9 (a0 (dC (.int 1)) (a0 (dC (.int 1)) (a0 (dC (.int 2)) (a0 (dC (.int 3)) a6)))))) (c6 m_law_draw (a0 (dV 0) (a0 (dC (.int 4)) a6)))) a6))) a6)))))
def a0D (m_law_spot : DFn) (m_law_low : DFn) (m_law_draw : DFn) : DFn := mFn 2 (a3G m_law_spot m_law_low m_law_draw)
def a8O : DM := (j7 (i3 (a0 (dOp t9 (dOp k6 (dOp pIx (dL 1) (dC (.int 0))) (dOp pIx (dL 0) (dC (.int 2)))) (dOp k6 (dOp pIx (dL 0) (dC (.int 0))) (dOp pIx (dL 1) (dC (.int 2))))) (a0 (dOp t9 (dOp k6 (dOp pIx (dL 1) (dC (.int 1))) (dOp pIx (dL 0) (dC (.int 2)))) (dOp k6 (dOp pIx (dL 0) (dC (.int 1))) (dOp pIx (dL 1) (dC (.int 2))))) a6))))
def W4 : DFn := mFn 2 (a8O)
def a2X (m_law_way : DFn) : DM := (e7 (A7 3 4 (a0 (c6 m_law_way (a0 (dV 0) (a0 (dV 1) a6))) (a0 (c6 m_law_way (a0 (dV 1) (a0 (dV 2) a6))) a6))) (j7 (o6 (dOp pEq (dOp k6 (dOp pIx (dL 3) (dC (.int 0))) (dOp pIx (dL 4) (dC (.int 1)))) (dOp k6 (dOp pIx (dL 3) (dC (.int 1))) (dOp pIx (dL 4) (dC (.int 0))))) (dOp (k0 (fun i j => decide (j < i))) (dOp t6 (dOp k6 (dOp pIx (dL 3) (dC (.int 0))) (dOp pIx (dL 4) (dC (.int 0)))) (dOp k6 (dOp pIx (dL 3) (dC (.int 1))) (dOp pIx (dL 4) (dC (.int 1))))) (dC (.int 0))))))
def a0u (m_law_way : DFn) : DFn := mFn 5 (a2X m_law_way)
abbrev W5 (m_law_spot : DFn) (m_law_plus : DFn) (m_law_xy : DFn) (m_law_goes_on : DFn) (m_law_draw : DFn) (m_law_near : DFn) : DM := (e7 (j4 (dIf (dB (dOp (k0 (fun i j => decide (j < i))) (c6 m_law_draw (a0 (dV 0) (a0 (dC (.int 4)) a6))) (dC (.int 0)))) (c6 m_law_near (a0 (dV 0) a6)) (dOp pIx (dL 3) (c6 m_law_draw (a0 (dV 0) (a0 (dCB (one k9) (a0 (dL 3) a6)) a6))))) (i4 6)) (l7 (v8 (dB (dOp (k0 (fun i j => decide (i < j))) (dCB (one k9) (a0 (dL 3) a6)) (dL 4))) (v8 (dB (dOp pNe (dL 6) (dOp pIx (dL 3) (dUn l6 (dC (.int 1)))))) (dOr (dB (dOp (k0 (fun i j => decide (i < j))) (dCB (one k9) (a0 (dL 3) a6)) (dC (.int 2)))) (y0 (dTr (c6 m_law_goes_on (a0 (dOp pIx (dL 3) (dUn l6 (dC (.int 2)))) (a0 (dOp pIx (dL 3) (dUn l6 (dC (.int 1)))) (a0 (dV 6) a6))))))))) (F2 3 (dV 6)) m7))
def a1E (m_law_spot : DFn) (m_law_plus : DFn) (m_law_xy : DFn) (m_law_goes_on : DFn) (m_law_draw : DFn) (m_law_near : DFn) : DM := (e7 (u9 3 (dCF (one a66) (a0 (dL 1) a6))) (e7 (j4 (dOp t6 (dC (.int 2)) (c6 m_law_draw (a0 (dV 0) (a0 (dOp t9 (dL 2) (dC (.int 1))) a6)))) (i4 4)) (e7 (J7 (a0 (dC (.int 14)) a6) (i4 5) (W5 m_law_spot m_law_plus m_law_xy m_law_goes_on m_law_draw m_law_near)) (e7 (l7 (dB (dOp (k0 (fun i j => decide (i < j))) (dCB (one k9) (a0 (dL 3) a6)) (dC (.int 2)))) (e7 (j4 (c6 m_law_xy (a0 (dOp pIx (dL 3) (dC (.int 0))) a6)) (u3 2 (m5 (i4 7) (m5 (i4 8) u5)))) (F2 3 (c6 m_law_spot (a0 (dV 7) (a0 (c6 m_law_plus (a0 (dV 8) (a0 (i3 (a0 (dC (.int 1)) (a0 (dC (.int 1)) a6))) a6))) a6))))) m7) (j7 (dCB (one J5) (a0 (dL 3) a6)))))))
def a2y (m_law_spot : DFn) (m_law_plus : DFn) (m_law_xy : DFn) (m_law_goes_on : DFn) (m_law_draw : DFn) (m_law_near : DFn) : DFn := mFn 9 (a1E m_law_spot m_law_plus m_law_xy m_law_goes_on m_law_draw m_law_near)
def a1Y (m_law_draw : DFn) (m_law_goes_on : DFn) (m_law_chain : DFn) (m_law_near : DFn) : DM := (e7 (u9 2 (m9 (a0 (c6 m_law_near (a0 (dV 0) a6)) a6))) (e7 (l7 (dB (dOp pEq (c6 m_law_draw (a0 (dV 0) (a0 (dC (.int 4)) a6))) (dC (.int 0)))) (u9 2 (m9 (a0 (dOp pIx (m8 (m9 (a0 (i3 (a0 (dC (.int 9999)) (a0 (dUn l6 (dC (.int 5))) (a0 (dC (.int 1)) a6)))) (a0 (i3 (a0 (dUn l6 (dOp J4 (dC (.int 10)) (dC (.int 9)))) (a0 (dC (.int 2)) (a0 (dC (.int 1)) a6)))) (a0 (i3 (a0 (dOp J4 (dC (.int 10)) (dC (.int 20))) (a0 (dUn l6 (dC (.int 3))) (a0 (dC (.int 7)) a6)))) a6))))) (c6 m_law_draw (a0 (dV 0) (a0 (dC (.int 3)) a6)))) a6))) m7) (e7 (j4 (c6 m_law_chain (a0 (dV 0) (a0 (dV 2) (a0 (dV 1) a6)))) (i4 3)) (e7 (j4 (o6 (S9 (k0 (fun i j => decide (i < j))) (k0 (fun i j => decide (i < j))) (dC (.int 2)) (dCB (one k9) (a0 (dL 3) a6)) (dC (.int 9))) (o6 (dOp pNe (dOp pIx (dL 3) (dC (.int 0))) (dOp pIx (dL 3) (dUn l6 (dC (.int 1))))) (y8 (c6 m_law_goes_on (a0 (dOp pIx (dL 3) (dUn l6 (dC (.int 2)))) (a0 (dOp pIx (dL 3) (dUn l6 (dC (.int 1)))) (a0 (dOp pIx (dL 3) (dC (.int 0))) a6))))))) (i4 4)) (e7 (j4 (o6 (dV 4) (y8 (c6 m_law_goes_on (a0 (dOp pIx (dL 3) (dUn l6 (dC (.int 1)))) (a0 (dOp pIx (dL 3) (dC (.int 0))) (a0 (dOp pIx (dL 3) (dC (.int 1))) a6)))))) (i4 4)) (j7 (i3 (a0 (o6 (dV 4) (dOp pEq (c6 m_law_draw (a0 (dV 0) (a0 (dC (.int 2)) a6))) (dC (.int 0)))) (a0 (dV 3) a6)))))))))
def a18 (m_law_draw : DFn) (m_law_goes_on : DFn) (m_law_chain : DFn) (m_law_near : DFn) : DFn := mFn 5 (a1Y m_law_draw m_law_goes_on m_law_chain m_law_near)
def b3N : DM := (j7 (dOp (k0 (fun i j => decide (i < j))) (dOp k6 (dOp pIx (dL 0) (dC (.int 0))) (dOp pIx (dL 1) (dC (.int 1)))) (dOp k6 (dOp pIx (dL 1) (dC (.int 0))) (dOp pIx (dL 0) (dC (.int 1))))))
def K3 : DFn := mFn 2 (b3N)
def b1K (m_law_low : DFn) : DM := (j7 (c6 m_law_low (a0 (dOp k6 (dOp pIx (dL 0) (dC (.int 0))) (dOp pIx (dL 1) (dC (.int 1)))) (a0 (dOp k6 (dOp pIx (dL 0) (dC (.int 1))) (dOp pIx (dL 1) (dC (.int 0)))) a6))))
def a0O (m_law_low : DFn) : DFn := mFn 2 (b1K m_law_low)
def a2g (m_law_minus : DFn) (m_law_xy : DFn) : DM := (e7 (j4 (i3 (a0 (c6 m_law_xy (a0 (dV 0) a6)) (a0 (c6 m_law_xy (a0 (dV 1) a6)) a6))) (u3 2 (m5 (u3 2 (m5 (i4 2) (m5 (i4 3) u5))) (m5 (u3 2 (m5 (i4 4) (m5 (i4 5) u5))) u5)))) (j7 (i3 (a0 (c6 m_law_minus (a0 (dV 4) (a0 (dV 2) a6))) (a0 (c6 m_law_minus (a0 (dV 5) (a0 (dV 3) a6))) a6)))))
def X6 (m_law_minus : DFn) (m_law_xy : DFn) : DFn := mFn 6 (a2g m_law_minus m_law_xy)
def b0i (m_law_minus : DFn) (m_law_product : DFn) : DM := (j7 (c6 m_law_minus (a0 (c6 m_law_product (a0 (dOp pIx (dL 0) (dC (.int 0))) (a0 (dOp pIx (dL 1) (dC (.int 1))) a6))) (a0 (c6 m_law_product (a0 (dOp pIx (dL 0) (dC (.int 1))) (a0 (dOp pIx (dL 1) (dC (.int 0))) a6))) a6))))
def a13 (m_law_minus : DFn) (m_law_product : DFn) : DFn := mFn 2 (b0i m_law_minus m_law_product)
def a3M (m_law_spot : DFn) (m_law_plus : DFn) (m_law_product : DFn) (m_law_far : DFn) (m_law_xy : DFn) : DM := (e7 (j4 (c6 m_law_xy (a0 (dV 0) a6)) (u3 2 (m5 (i4 3) (m5 (i4 4) u5)))) (e7 (j4 (c6 m_law_far (a0 (dV 0) (a0 (dV 1) a6))) (u3 2 (m5 (i4 5) (m5 (i4 6) u5)))) (j7 (c6 m_law_spot (a0 (c6 m_law_plus (a0 (dV 3) (a0 (c6 m_law_product (a0 (dV 2) (a0 (dV 5) a6))) a6))) (a0 (c6 m_law_plus (a0 (dV 4) (a0 (c6 m_law_product (a0 (dV 2) (a0 (dV 6) a6))) a6))) a6))))))
def a02 (m_law_spot : DFn) (m_law_plus : DFn) (m_law_product : DFn) (m_law_far : DFn) (m_law_xy : DFn) : DFn := mFn 7 (a3M m_law_spot m_law_plus m_law_product m_law_far m_law_xy)
def a95 (m_law_plus : DFn) (m_law_product : DFn) : DM := (j7 (c6 m_law_plus (a0 (c6 m_law_product (a0 (dOp pIx (dL 0) (dC (.int 0))) (a0 (dOp pIx (dL 1) (dC (.int 0))) a6))) (a0 (c6 m_law_product (a0 (dOp pIx (dL 0) (dC (.int 1))) (a0 (dOp pIx (dL 1) (dC (.int 1))) a6))) a6))))
def a2v (m_law_plus : DFn) (m_law_product : DFn) : DFn := mFn 2 (a95 m_law_plus m_law_product)
def a0X (m_law_far : DFn) (m_law_on_the_way : DFn) (m_law_below : DFn) (m_law_over : DFn) (m_law_with : DFn) : DM := (e7 (j4 (c6 m_law_far (a0 (dOp pIx (dL 0) (dC (.int 0))) (a0 (dOp pIx (dL 0) (dC (.int 1))) a6))) (i4 2)) (e7 (u9 3 (D7 [2,0] (E8 (dV 1)) B4 (c6 m_law_over (a0 (c6 m_law_with (a0 (c6 m_law_far (a0 (dOp pIx (dL 2) (dC (.int 0))) (a0 (dV 0) a6))) (a0 (dV 1) a6))) (a0 (c6 m_law_with (a0 (dV 1) (a0 (dV 1) a6))) a6))))) (e7 (l7 (dTr (c6 m_law_below (a0 (dOp pIx (dL 3) (dC (.int 1))) (a0 (dOp pIx (dL 3) (dC (.int 0))) a6)))) (a1k 3) m7) (e7 (j4 (dIf (dB (dOp (k0 (fun i j => decide (i < j))) (dOp pIx (dOp pIx (dL 3) (dC (.int 0))) (dC (.int 0))) (dC (.int 0)))) (i3 (a0 (dC (.int 0)) (a0 (dC (.int 1)) a6))) (dOp pIx (dL 3) (dC (.int 0)))) (i4 4)) (e7 (j4 (dIf (dTr (c6 m_law_below (a0 (i3 (a0 (dC (.int 1)) (a0 (dC (.int 1)) a6))) (a0 (dOp pIx (dL 3) (dC (.int 1))) a6)))) (i3 (a0 (dC (.int 1)) (a0 (dC (.int 1)) a6))) (dOp pIx (dL 3) (dC (.int 1)))) (i4 5)) (e7 (l7 (dTr (c6 m_law_below (a0 (dV 5) (a0 (dV 4) a6)))) (j7 (dC .non)) m7) (e7 (u9 6 (D7 [0] (E8 (m8 (m9 (a0 (dV 4) (a0 (dV 5) a6))))) B4 (c6 m_law_on_the_way (a0 (dOp pIx (dL 1) (dC (.int 0))) (a0 (dOp pIx (dL 1) (dC (.int 1))) (a0 (dV 0) a6)))))) (e7 (l7 (dB (dOp pEq (dOp pIx (dL 6) (dC (.int 0))) (dOp pIx (dL 6) (dC (.int 1))))) (j7 (i3 (a0 (dC (.str "at")) (a0 (dOp pIx (dL 6) (dC (.int 0))) a6)))) m7) (e7 (j4 (c6 m_law_far (a0 (dOp pIx (dL 6) (dC (.int 0))) (a0 (dOp pIx (dL 6) (dC (.int 1))) a6))) (i4 2)) (e7 (j4 (A3 (dOp (k0 (fun i j => decide (j < i))) (dOp pIx (dOp pIx (dL 2) (dC (.int 0))) (dC (.int 0))) (dC (.int 0))) (o6 (dOp pEq (dOp pIx (dOp pIx (dL 2) (dC (.int 0))) (dC (.int 0))) (dC (.int 0))) (dOp (k0 (fun i j => decide (j < i))) (dOp pIx (dOp pIx (dL 2) (dC (.int 1))) (dC (.int 0))) (dC (.int 0))))) (i4 7)) (j7 (dIf (dTr (dL 7)) (i3 (a0 (dC (.str "along")) (a0 (dOp pIx (dL 6) (dC (.int 0))) (a0 (dOp pIx (dL 6) (dC (.int 1))) a6)))) (i3 (a0 (dC (.str "along")) (a0 (dOp pIx (dL 6) (dC (.int 1))) (a0 (dOp pIx (dL 6) (dC (.int 0))) a6))))))))))))))))
def a2Z (m_law_far : DFn) (m_law_on_the_way : DFn) (m_law_below : DFn) (m_law_over : DFn) (m_law_with : DFn) : DFn := mFn 8 (a0X m_law_far m_law_on_the_way m_law_below m_law_over m_law_with)
def b0m (m_law_below : DFn) : DM := (j7 (o6 (dOp (k0 (fun i j => decide (j ≤ i))) (dOp pIx (dL 0) (dC (.int 0))) (dC (.int 0))) (y8 (c6 m_law_below (a0 (i3 (a0 (dC (.int 1)) (a0 (dC (.int 1)) a6))) (a0 (dV 0) a6))))))
def a3Z (m_law_below : DFn) : DFn := mFn 1 (b0m m_law_below)
def a3h (m_law_on_the_way : DFn) (m_law_is_share : DFn) (m_law_over : DFn) (m_law_athwart : DFn) (m_law_alongside : DFn) (m_law_far : DFn) : DM := (e7 (A7 2 3 (a0 (c6 m_law_far (a0 (dOp pIx (dL 0) (dC (.int 0))) (a0 (dOp pIx (dL 0) (dC (.int 1))) a6))) (a0 (c6 m_law_far (a0 (dOp pIx (dL 1) (dC (.int 0))) (a0 (dOp pIx (dL 1) (dC (.int 1))) a6))) a6))) (e7 (j4 (c6 m_law_far (a0 (dOp pIx (dL 0) (dC (.int 0))) (a0 (dOp pIx (dL 1) (dC (.int 0))) a6))) (i4 4)) (e7 (j4 (c6 m_law_athwart (a0 (dV 2) (a0 (dV 3) a6))) (i4 5)) (e7 (l7 (dB (dOp pEq (dOp pIx (dL 5) (dC (.int 0))) (dC (.int 0)))) (j7 (dIf (dB (dOp pEq (dOp pIx (c6 m_law_athwart (a0 (dV 4) (a0 (dV 2) a6))) (dC (.int 0))) (dC (.int 0)))) (c6 m_law_alongside (a0 (dV 0) (a0 (dV 1) a6))) (dC .non))) m7) (e7 (j4 (c6 m_law_over (a0 (c6 m_law_athwart (a0 (dV 4) (a0 (dV 3) a6))) (a0 (dV 5) a6))) (i4 6)) (e7 (l7 (dOr (y0 (dTr (c6 m_law_is_share (a0 (dV 6) a6)))) (y0 (dTr (c6 m_law_is_share (a0 (c6 m_law_over (a0 (c6 m_law_athwart (a0 (dV 4) (a0 (dV 2) a6))) (a0 (dV 5) a6))) a6))))) (j7 (dC .non)) m7) (j7 (i3 (a0 (dC (.str "at")) (a0 (c6 m_law_on_the_way (a0 (dOp pIx (dL 0) (dC (.int 0))) (a0 (dOp pIx (dL 0) (dC (.int 1))) (a0 (dV 6) a6)))) a6))))))))))
def a10 (m_law_on_the_way : DFn) (m_law_is_share : DFn) (m_law_over : DFn) (m_law_athwart : DFn) (m_law_alongside : DFn) (m_law_far : DFn) : DFn := mFn 7 (a3h m_law_on_the_way m_law_is_share m_law_over m_law_athwart m_law_alongside m_law_far)
def a7P : DM := (j7 (i3 (a0 (dOp t9 (dOp k6 (dOp pIx (dL 0) (dC (.int 1))) (dOp pIx (dL 1) (dC (.int 2)))) (dOp k6 (dOp pIx (dL 0) (dC (.int 2))) (dOp pIx (dL 1) (dC (.int 1))))) (a0 (dOp t9 (dOp k6 (dOp pIx (dL 0) (dC (.int 2))) (dOp pIx (dL 1) (dC (.int 0)))) (dOp k6 (dOp pIx (dL 0) (dC (.int 0))) (dOp pIx (dL 1) (dC (.int 2))))) (a0 (dOp t9 (dOp k6 (dOp pIx (dL 0) (dC (.int 0))) (dOp pIx (dL 1) (dC (.int 1)))) (dOp k6 (dOp pIx (dL 0) (dC (.int 1))) (dOp pIx (dL 1) (dC (.int 0))))) a6)))))
def W6 : DFn := mFn 2 (a7P)
def b4m (m_upright : DFn) : DM := (j7 (c6 m_upright (a0 (dV 0) (a0 (dV 1) a6))))
def a3R (m_upright : DFn) : DFn := mFn 2 (b4m m_upright)
def b0W (m_sign : DFn) : DM := (j7 (c6 m_sign (a0 (dOp t6 (dOp t6 (dOp k6 (dOp pIx (dL 0) (dC (.int 0))) (dOp pIx (dL 1) (dC (.int 0)))) (dOp k6 (dOp pIx (dL 0) (dC (.int 1))) (dOp pIx (dL 1) (dC (.int 1))))) (dOp k6 (dOp pIx (dL 0) (dC (.int 2))) (dOp pIx (dL 1) (dC (.int 2))))) a6)))
def a3v (m_sign : DFn) : DFn := mFn 2 (b0W m_sign)
def a3F (m_is_lesser : DFn) : DM := (e7 (j4 (dIf (dTr (c6 m_is_lesser (a0 (dOp pIx (dL 0) (dC (.int 0))) (a0 (dOp pIx (dL 1) (dC (.int 0))) a6)))) (dOp pIx (dL 1) (dC (.int 0))) (dOp pIx (dL 0) (dC (.int 0)))) (i4 2)) (e7 (j4 (dIf (dTr (c6 m_is_lesser (a0 (dOp pIx (dL 0) (dC (.int 1))) (a0 (dOp pIx (dL 1) (dC (.int 1))) a6)))) (dOp pIx (dL 0) (dC (.int 1))) (dOp pIx (dL 1) (dC (.int 1)))) (i4 3)) (e7 (l7 (dTr (c6 m_is_lesser (a0 (dV 3) (a0 (dV 2) a6)))) (j7 (dC .non)) m7) (e7 (l7 (dB (dOp pEq (dL 2) (dL 3))) (j7 (i3 (a0 (dC (.str "at")) (a0 (dV 2) a6)))) m7) (j7 (i3 (a0 (dC (.str "along")) (a0 (dV 2) (a0 (dV 3) a6)))))))))
def a3c (m_is_lesser : DFn) : DFn := mFn 4 (a3F m_is_lesser)
def a8D (m_lowest : DFn) (m_upright : DFn) : DM := (j7 (c6 m_lowest (a0 (c6 m_upright (a0 (dV 0) (a0 (dV 1) a6))) a6)))
def a1V (m_lowest : DFn) (m_upright : DFn) : DFn := mFn 2 (a8D m_lowest m_upright)
def a2P (m_crossing : DFn) (m_side_of : DFn) (m_common_along : DFn) (m_span : DFn) (m_straight : DFn) : DM := (e7 (j4 (c6 m_straight (a0 (dOp pIx (dL 0) (dC (.int 0))) (a0 (dOp pIx (dL 0) (dC (.int 1))) a6))) (i4 2)) (e7 (j4 (c6 m_straight (a0 (dOp pIx (dL 1) (dC (.int 0))) (a0 (dOp pIx (dL 1) (dC (.int 1))) a6))) (i4 3)) (e7 (u9 4 (D7 [2] (E8 (dV 1)) B4 (c6 m_side_of (a0 (dV 1) (a0 (dV 0) a6))))) (e7 (l7 (dB (dOp pEq (dL 4) (m8 (m9 (a0 (dC (.int 0)) (a0 (dC (.int 0)) a6)))))) (j7 (c6 m_common_along (a0 (c6 m_span (a0 (dOp pIx (dL 0) (dC (.int 0))) (a0 (dOp pIx (dL 0) (dC (.int 1))) a6))) (a0 (c6 m_span (a0 (dOp pIx (dL 1) (dC (.int 0))) (a0 (dOp pIx (dL 1) (dC (.int 1))) a6))) a6)))) m7) (e7 (u9 5 (D7 [3] (E8 (dV 0)) B4 (c6 m_side_of (a0 (dV 1) (a0 (dV 0) a6))))) (e7 (l7 (dOr (dB (dOp pEq (dOp k6 (dOp pIx (dL 4) (dC (.int 0))) (dOp pIx (dL 4) (dC (.int 1)))) (dC (.int 1)))) (dB (dOp pEq (dOp k6 (dOp pIx (dL 5) (dC (.int 0))) (dOp pIx (dL 5) (dC (.int 1)))) (dC (.int 1))))) (j7 (dC .non)) m7) (j7 (i3 (a0 (dC (.str "at")) (a0 (c6 m_crossing (a0 (dV 2) (a0 (dV 3) a6))) a6))))))))))
def a3U (m_crossing : DFn) (m_side_of : DFn) (m_common_along : DFn) (m_span : DFn) (m_straight : DFn) : DFn := mFn 6 (a2P m_crossing m_side_of m_common_along m_span m_straight)
abbrev Y0 (m_law_common : DFn) (m_law_pairs : DFn) : DM := (e7 (j4 (c6 m_law_common (a0 (dOp pIx (dL 1) (dL 3)) (a0 (dOp pIx (dL 1) (dL 4)) a6))) (i4 5)) (e7 (u9 6 (E4 O6 (m8 (m9 (a0 (dOp pIx (dOp pIx (dL 1) (dL 3)) (dC (.int 1))) a6))) (dCB (one N5) (a0 (dOp pEq (dL 4) (dOp t6 (dL 3) (dC (.int 1)))) a6)))) (e7 (u9 6 (E4 L0 (dL 6) (m8 (E4 O6 (m8 (m9 (a0 (dOp pIx (dOp pIx (dL 1) (dL 3)) (dC (.int 0))) a6))) (dCB (one N5) (a0 (o6 (dOp pIx (dL 0) (dC (.int 0))) (o6 (dOp pEq (dL 3) (dC (.int 0))) (dOp pEq (dL 4) (dOp t9 (dCB (one k9) (a0 (dL 1) a6)) (dC (.int 1)))))) a6)))))) (l7 (v8 (dB (dOp a0f (dL 5) (dC .non))) (dB (dOp a1d (dL 5) (m8 (D7 [] (E8 (dV 6)) B4 (i3 (a0 (dC (.str "at")) (a0 (dV 0) a6)))))))) (F2 2 (i3 (a0 (dV 3) (a0 (dV 4) (a0 (dV 5) a6))))) m7))))
abbrev a0G (m_law_common : DFn) (m_law_pairs : DFn) : DM := (J7 (a0 (dOp t6 (dL 3) (dC (.int 1))) (a0 (dCB (one k9) (a0 (dL 1) a6)) a6)) (i4 4) (Y0 m_law_common m_law_pairs))
def a1W (m_law_common : DFn) (m_law_pairs : DFn) : DM := (e7 (j4 (c6 m_law_pairs (a0 (dV 0) a6)) (i4 1)) (e7 (u9 2 (m9 a6)) (e7 (J7 (a0 (dCB (one k9) (a0 (dL 1) a6)) a6) (i4 3) (a0G m_law_common m_law_pairs)) (j7 (dV 2)))))
def a1H (m_law_common : DFn) (m_law_pairs : DFn) : DFn := mFn 7 (a1W m_law_common m_law_pairs)
def a3z : DM := (e7 (j4 (A3 (dOp pEq (dL 2) (dOp t6 (dL 1) (dC (.int 1)))) (o6 (dOp pIx (dL 0) (dC (.int 0))) (o6 (dOp pEq (dL 1) (dC (.int 0))) (dOp pEq (dL 2) (dOp t9 (dCB (one k9) (a0 (dOp pIx (dL 0) (dC (.int 1))) a6)) (dC (.int 1))))))) (i4 4)) (j7 (o6 (dV 4) (dOp pEq (dOp pIx (dL 3) (dC (.int 0))) (dC (.str "at"))))))
def M6 : DFn := mFn 5 (a3z)
abbrev a06 (m_is_mere_joint : DFn) (m_common : DFn) (m_pieces : DFn) : DM := (e7 (j4 (c6 m_common (a0 (dV 4) (a0 (dOp pIx (dL 1) (dL 5)) a6))) (i4 6)) (l7 (v8 (dB (dOp a0f (dL 6) (dC .non))) (y0 (dTr (c6 m_is_mere_joint (a0 (dV 0) (a0 (dV 3) (a0 (dV 5) (a0 (dV 6) a6)))))))) (F2 2 (i3 (a0 (dV 3) (a0 (dV 5) (a0 (dV 6) a6))))) m7))
abbrev a0s (m_is_mere_joint : DFn) (m_common : DFn) (m_pieces : DFn) : DM := (J7 (a0 (dOp t6 (dL 3) (dC (.int 1))) (a0 (dCB (one k9) (a0 (dL 1) a6)) a6)) (i4 5) (a06 m_is_mere_joint m_common m_pieces))
def a16 (m_is_mere_joint : DFn) (m_common : DFn) (m_pieces : DFn) : DM := (e7 (j4 (c6 m_pieces (a0 (dV 0) a6)) (i4 1)) (e7 (u9 2 (m9 a6)) (e7 (Z3 (a0 (dV 1) a6) (u3 2 (m5 (i4 3) (m5 (i4 4) u5))) (a0s m_is_mere_joint m_common m_pieces)) (j7 (dV 2)))))
def a3X (m_is_mere_joint : DFn) (m_common : DFn) (m_pieces : DFn) : DFn := mFn 7 (a16 m_is_mere_joint m_common m_pieces)
abbrev a1f (m_crossings : DFn) (m_law_due : DFn) (m_law_exact : DFn) (m_law_any : DFn) (m_law_new_tape : DFn) : DM := (e7 (u9 6 (W7 m_crossings (a0 (dV 3) a6))) (e7 (l7 (dB (dOp pNe (dCB (one P7) (a0 (dL 6) a6)) (dCB (one P7) (a0 (dL 4) a6)))) (j7 (dC (.bl false))) m7) (F2 6 (dC .non))))
abbrev a0S (m_crossings : DFn) (m_law_due : DFn) (m_law_exact : DFn) (m_law_any : DFn) (m_law_new_tape : DFn) : DM := (e7 (j4 (dIf (dB (dOp pEq (dOp y7 (dL 2) (dC (.int 2))) (dC (.int 1)))) (c6 m_law_exact (a0 (dV 1) (a0 (dC (.int 5)) a6))) (c6 m_law_any (a0 (dV 1) (a0 (dC (.int 7)) a6)))) (i4 3)) (e7 (j4 (c6 m_law_due (a0 (dV 3) a6)) (i4 4)) (J7 (a0 (dC (.int 2)) a6) (i4 5) (a1f m_crossings m_law_due m_law_exact m_law_any m_law_new_tape))))
def a21 (m_crossings : DFn) (m_law_due : DFn) (m_law_exact : DFn) (m_law_any : DFn) (m_law_new_tape : DFn) : DM := (e7 (j4 (c6 m_law_new_tape (a0 (dV 0) a6)) (i4 1)) (e7 (J7 (a0 (dC (.int 4)) a6) (i4 2) (a0S m_crossings m_law_due m_law_exact m_law_any m_law_new_tape)) (j7 (dC (.bl true)))))
def a2Y (m_crossings : DFn) (m_law_due : DFn) (m_law_exact : DFn) (m_law_any : DFn) (m_law_new_tape : DFn) : DFn := mFn 7 (a21 m_crossings m_law_due m_law_exact m_law_any m_law_new_tape)
end T
namespace DL
open PySem L2
theorem Y7 {n k : Nat} (hk : 0 < k) (h : n < 2 ^ k) : n.log2 < k:= by
 by_cases h0 : n = 0
 ·subst h0; simpa using hk
 ·exact (Nat.log2_lt h0).mpr h
theorem U9 {i : Int} (h : i.natAbs < 2 ^ 200) : v7 i = true:= by
 have := Y7 (by decide) h
 exact decide_eq_true (by omega)
theorem a9l {j : Int} (h0 : j ≠ 0) (h : j.natAbs < 2 ^ 200) : D8 j = true:= by
 have := Y7 (by decide) h
 unfold D8
 rw [decide_eq_true h0,Bool.true_and]
 exact decide_eq_true (by omega)
theorem a6K (i : Int) : u7 (.int i) = true := by simp [u7,D.plain,D.py,SeqAt.shaped,PyData.canLay0,PyData.depth]
theorem a3N (i j : Int) : pNe (.int i) (.int j) = some (.bl (!decide (i = j))):= by
 simp only [pNe,a6K,Bool.and_self,if_true,D.py,PyData.eqv,Bool.beq_eq_decide_eq]
theorem C3 (i j : Int) : pEq (.int i) (.int j) = some (.bl (decide (i = j))):= by
 simp only [pEq,a6K,Bool.and_self,if_true,D.py,PyData.eqv,Bool.beq_eq_decide_eq]
theorem b1s (x y : Str) : pNe (.str x) (.str y) = some (.bl (!decide (x = y))) := rfl
theorem b2m {i : Int} (h : i.natAbs.log2 < 1920) : (PySem.Str.ofString (toString i)).length ≤ 1921 := PyProof.Rows.int_text_len_1921 h
theorem a96 {d : D} (h : R5 d = true) : P7 d = some (.str d.py.shown) := by unfold P7; rw [if_pos h]
theorem a3f {α : Type} {xs : List α} {i : Int} (h0 : 0 ≤ i) (h1 : i < xs.length) : atI xs i = xs[i.toNat]?:= by
 unfold atI ixN
 rw [if_pos h0,if_pos h1]
 rfl
theorem M1 {a b : Int} (h : 0 < b) : 0 ≤ a.fmod b ∧ a.fmod b < b:= by
 rw [Int.fmod_eq_emod_of_nonneg a (by omega)]
 exact ⟨Int.emod_nonneg a (by omega),Int.emod_lt_of_pos a h⟩
theorem i9 {a b : DM} {s s1 : DS} (h : a s = some (.next,s1)) : e7 a b s = b s1 := by simp [e7,h,C5]
theorem G3 {a b : DM} {s s1 : DS} {d : D} (h : a s = some (.ret d,s1)) : e7 a b s = some (.ret d,s1) := by simp [e7,h,C5]
theorem a1I {m : DFn} {a : DA} {s s1 : DS} {xs : List D} {d : D} {fs : Option FS} (ha : a s = some (xs,s1)) (hm : m xs s1.fs = some (d,fs)) : c6 m a s = some (d,{ s1 with fs := fs }):= by
 unfold c6
 rw [ha,Option.bind_some,hm]
 rfl
theorem a8 {p : D → D → Option D} {a b : DE} {s s1 s2 : DS} {x y z : D} (h1 : a s = some (x,s1)) (h2 : b s1 = some (y,s2)) (h3 : p x y = some z) : dOp p a b s = some (z,s2):= by
 unfold dOp
 rw [h1,Option.bind_some,h2,Option.bind_some,h3]
 rfl
theorem e8 {a : DE} {b : DA} {s s1 s2 : DS} {x : D} {xs : List D} (h1 : a s = some (x,s1)) (h2 : b s1 = some (xs,s2)) : a0 a b s = some (x :: xs,s2):= by
 unfold a0
 rw [h1,Option.bind_some,h2]
 rfl
theorem l5 {f : DE} {t : D → DS → Option DS} {s s1 s2 : DS} {d : D} (h1 : f s = some (d,s1)) (h2 : t d s1 = some s2) : j4 f t s = some (.next,s2):= by
 unfold j4
 rw [h1,Option.bind_some,h2]
 rfl
theorem C6 {c : DT} {a b : DM} {s s1 : DS} (h : c s = some (true,s1)) : l7 c a b s = a s1 := by simp [l7,h]
theorem L9 {c : DT} {a b : DM} {s s1 : DS} (h : c s = some (false,s1)) : l7 c a b s = b s1 := by simp [l7,h]
theorem m6 {f : DE} {s s1 : DS} {d : D} (h : f s = some (d,s1)) : j7 f s = some (.ret d,s1) := by simp [j7,h]
theorem t7 {f : DE} {s s1 : DS} {b : Bool} (h : f s = some (.bl b,s1)) : dB f s = some (b,s1) := by simp [dB,h]
theorem n8 {n : Nat} {b : DM} {ds : List D} {fs : Option FS} {d : D} {s : DS} (h : b ⟨ds.map .val ++ List.replicate (n - ds.length) .no,fs⟩ = some (.ret d,s)) : mFn n b ds fs = some (d,s.fs) := by simp [mFn,h]
theorem j8 {m : DFn} {a : DA} {sl : List Sl} {fs : Option FS} {xs : List D} {d : D} (ha : a ⟨sl,fs⟩ = some (xs,⟨sl,fs⟩)) (hm : m xs fs = some (d,fs)) : c6 m a ⟨sl,fs⟩ = some (d,⟨sl,fs⟩) := a1I (s1 := ⟨sl,fs⟩) ha hm
theorem p7 {m : DFn} {a : DA} {sl : List Sl} {fs fs' : Option FS} {xs : List D} {d : D} (ha : a ⟨sl,fs⟩ = some (xs,⟨sl,fs⟩)) (hm : m xs fs = some (d,fs')) : c6 m a ⟨sl,fs⟩ = some (d,⟨sl,fs'⟩) := a1I (s1 := ⟨sl,fs⟩) ha hm
theorem a0Z {m : DFn} {a : DA} {sl sl' : List Sl} {fs fs' fs2 : Option FS} {xs : List D} {d : D} (ha : a ⟨sl,fs⟩ = some (xs,⟨sl',fs'⟩)) (hm : m xs fs' = some (d,fs2)) : c6 m a ⟨sl,fs⟩ = some (d,⟨sl',fs2⟩) := a1I (s1 := ⟨sl',fs'⟩) ha hm
theorem S8 {a b c : DE} {s s1 s2 s3 : DS} {x y z : D} (h1 : a s = some (x,s1)) (h2 : b s1 = some (y,s2)) (h3 : c s2 = some (z,s3)) : i3 (a0 a (a0 b (a0 c a6))) s = some (.tup [x,y,z],s3):= by
 unfold i3
 rw [e8 h1 (e8 h2 (e8 h3 rfl)),Option.bind_some]
 exact if_pos (e := (none : Option (D × DS))) (show 3 ≤ sizeLine by decide)
theorem a3T {t : D → DS → Option DS} {b : DM} {d : D} {r : List D} {s s1 s2 : DS} (h1 : t d s = some s1) (h2 : b s1 = some (.next,s2)) : A6 t b (d :: r) s = A6 t b r s2:= by
 rw [A6,h1,Option.bind_some,h2]
 rfl
theorem y9 {a b : DE} {s s1 s2 : DS} {x y : D} (h1 : a s = some (x,s1)) (h2 : b s1 = some (y,s2)) : i3 (a0 a (a0 b a6)) s = some (.tup [x,y],s2):= by
 unfold i3
 rw [e8 h1 (e8 h2 rfl),Option.bind_some]
 exact if_pos (e := (none : Option (D × DS))) (show 2 ≤ sizeLine by decide)
theorem a4Y {i j : Nat} {f : DA} {s s1 s2 : DS} {a b : D} (h : f s = some ([a,b],s1)) (e : { s1 with sl := (s1.sl.set i (.val a)).set j (.val b) } = s2) : A7 i j f s = some (.next,s2):= by
 unfold A7
 rw [h]
 exact congrArg (fun z => some (Fl.next,z)) e
theorem D3 {f : DE} {s s1 : DS} {b : Bool} (h : f s = some (.bl b,s1)) : dTr f s = some (b,s1):= by
 unfold dTr
 rw [h]
 rfl
theorem a0U {a : DT} {s s1 : DS} {b : Bool} (h : a s = some (b,s1)) : y0 a s = some (!b,s1):= by
 unfold y0
 rw [h]
 rfl
theorem Q7 {a b : DT} {s s1 : DS} {r : Option (Bool × DS)} (h1 : a s = some (true,s1)) (h2 : b s1 = r) : v8 a b s = r:= by
 unfold v8
 rw [h1,Option.bind_some,if_pos rfl]
 exact h2
theorem Z6 {a b : DT} {s s1 : DS} (h1 : a s = some (false,s1)) : v8 a b s = some (false,s1):= by
 unfold v8
 rw [h1,Option.bind_some,if_neg Bool.false_ne_true]
theorem a2W {a b : DT} {s s1 : DS} (h1 : a s = some (true,s1)) : dOr a b s = some (true,s1):= by
 unfold dOr
 rw [h1,Option.bind_some,if_pos rfl]
theorem Y3 {a b : DT} {s s1 : DS} {r : Option (Bool × DS)} (h1 : a s = some (false,s1)) (h2 : b s1 = r) : dOr a b s = r:= by
 unfold dOr
 rw [h1,Option.bind_some,if_neg Bool.false_ne_true]
 exact h2
theorem K2 {c : DT} {a : DM} {s s1 : DS} (h : c s = some (false,s1)) : l7 c a m7 s = some (.next,s1):= by
 rw [L9 h]
 rfl
theorem B2 {i : Nat} {f : DA} {s s1 : DS} {ds : List D} (h : f s = some (ds,s1)) (hi : i < s1.sl.length) : u9 i f s = some (.next,{ s1 with sl := s1.sl.set i (.own ds) }):= by
 unfold u9
 rw [h,Option.bind_some,if_pos hi]
theorem a7j {idx : List Nat} {fi : DA} {fc : DT} {fe : DE} {s s1 : DS} {ds R : List D} {fs' : Option FS} (h : fi s = some (ds,s1)) (hz : ds.length ≤ sizeLine) (c : B9 (mk2 idx s1.sl) fc fe ds s1.fs = some (R,fs')) : T0 idx fi fc fe s = some (R,{ s1 with fs := fs' }):= by
 unfold T0
 rw [h,Option.bind_some,if_pos hz,c]
 rfl
theorem C0 {f : DA} {s s1 : DS} {ds : List D} (h : f s = some (ds,s1)) : m8 f s = some (.lst ds,s1):= by
 unfold m8
 rw [h]
 rfl
theorem O9 {p : D → D → Option (List D)} {a b : DE} {s s1 s2 : DS} {x y : D} {z : List D} (h1 : a s = some (x,s1)) (h2 : b s1 = some (y,s2)) (h3 : p x y = some z) : E4 p a b s = some (z,s2):= by
 unfold E4
 rw [h1,Option.bind_some,h2,Option.bind_some,h3]
 rfl
theorem M4 {idx : List Nat} {fi : DA} {fc : DT} {fe : DE} {s s1 : DS} {ds R : List D} (h : fi s = some (ds,s1)) (hz : ds.length ≤ sizeLine) (c : B9 (fun d => some (.val d :: J9 idx s1.sl)) fc fe ds s1.fs = some (R,s1.fs)) : D7 idx fi fc fe s = some (R,s1):= by
 unfold D7
 rw [h,Option.bind_some,if_pos hz,c]
 rfl
theorem U1 {i : Nat} {f : DE} {s s1 : DS} {ds ds0 : List D} {d : D} (h0 : s.sl[i]? = some (.own ds0)) (h : f s = some (d,s1)) (h1 : s1.sl[i]? = some (.own ds)) (hl : ds.length < sizeLine) : F2 i f s = some (.next,{ s1 with sl := s1.sl.set i (.own (ds ++ [d])) }):= by
 unfold F2
 rw [h0]
 show (f s).bind _ = _
 rw [h,Option.bind_some]
 show (match s1.sl[i]? with | some (.own ds) => _ | _ => _) = _
 rw [h1]
 exact if_pos hl
theorem V7 {a : DE} {s s1 : DS} {x : D} (h : a s = some (x,s1)) : m9 (a0 a a6) s = some ([x],s1):= by
 unfold m9
 rw [e8 h rfl,Option.bind_some]
 exact if_pos (e := (none : Option (List D × DS))) (show 1 ≤ sizeLine by decide)
theorem B1 {p : D → Option D} {a : DE} {s s1 : DS} {x d : D} (h : a s = some (x,s1)) (hp : p x = some d) : dCB (one p) (a0 a a6) s = some (d,s1):= by
 unfold dCB
 rw [e8 h rfl,Option.bind_some]
 show (p x).map _ = _
 rw [hp]
 rfl
theorem M3 {c : DT} {a b : DE} {s s1 : DS} (h : c s = some (true,s1)) : dIf c a b s = a s1:= by
 unfold dIf
 rw [h]
 rfl
theorem M8 {c : DT} {a b : DE} {s s1 : DS} (h : c s = some (false,s1)) : dIf c a b s = b s1:= by
 unfold dIf
 rw [h]
 rfl
def fr (p : Rat) : D := .tup [.int p.num,.int p.den]
def Sz (k : Nat) (p : Rat) : Prop := p.num.natAbs < 2 ^ k ∧ p.den < 2 ^ k
theorem Sz.mono {k l : Nat} {p : Rat} (h : Sz k p) (hl : k ≤ l) : Sz l p:=
 ⟨Nat.lt_of_lt_of_le h.1 (Nat.pow_le_pow_right (by decide) hl),Nat.lt_of_lt_of_le h.2 (Nat.pow_le_pow_right (by decide) hl)⟩
theorem a6O {a b : Int} (hb : b ≠ 0) : (Rat.divInt a b).num.natAbs ≤ a.natAbs ∧ (Rat.divInt a b).den ≤ b.natAbs:= by
 constructor
 ·rw [Rat.num_divInt,Int.natAbs_ediv_of_dvd (Int.dvd_mul_of_dvd_right (Int.gcd_dvd_right ..))]
  rw [Int.natAbs_mul,Int.natAbs_sign_of_ne_zero hb,Nat.one_mul]
  exact Nat.div_le_self _ _
 ·rw [Rat.den_divInt,if_neg hb]
  exact Nat.div_le_self _ _
theorem Sz.of_divInt {k : Nat} {a b : Int} (hb : b ≠ 0) (h1 : a.natAbs < 2 ^ k) (h2 : b.natAbs < 2 ^ k) : Sz k (Rat.divInt a b):=
 ⟨Nat.lt_of_le_of_lt (a6O hb).1 h1,Nat.lt_of_le_of_lt (a6O hb).2 h2⟩
theorem a6c {a b k l : Nat} (h1 : a < 2 ^ k) (h2 : b < 2 ^ l) : a * b < 2 ^ (k + l):= by
 rw [Nat.pow_add]
 exact Nat.mul_lt_mul_of_lt_of_lt h1 h2
theorem b3R {a b k : Nat} (h1 : a < 2 ^ k) (h2 : b < 2 ^ k) : a + b < 2 ^ (k + 1):= by
 rw [Nat.pow_succ]; omega
def Bd (k : Nat) (i : Int) : Prop := i.natAbs < 2 ^ k
theorem Bd.mono {k l : Nat} {i : Int} (h : Bd k i) (hl : k ≤ l) : Bd l i := Nat.lt_of_lt_of_le h (Nat.pow_le_pow_right (by decide) hl)
theorem Bd.mul {k l : Nat} {i j : Int} (h1 : Bd k i) (h2 : Bd l j) : Bd (k + l) (i * j):= by
 unfold Bd; rw [Int.natAbs_mul]; exact a6c h1 h2
theorem Bd.add {k l : Nat} {i j : Int} (h1 : Bd k i) (h2 : Bd l j) : Bd (max k l + 1) (i + j):=
 Nat.lt_of_le_of_lt (Int.natAbs_add_le i j) (b3R (h1.mono (Nat.le_max_left ..)) (h2.mono (Nat.le_max_right ..)))
theorem Bd.neg {k : Nat} {i : Int} (h1 : Bd k i) : Bd k (-i) := by unfold Bd; rw [Int.natAbs_neg]; exact h1
theorem Bd.sub {k l : Nat} {i j : Int} (h1 : Bd k i) (h2 : Bd l j) : Bd (max k l + 1) (i - j) := by rw [Int.sub_eq_add_neg]; exact h1.add h2.neg
theorem Bd.gcd {k : Nat} {i : Int} {j : Int} (h : Bd k j) (hj : j ≠ 0) : Bd k (Int.gcd i j : Int):= by
 have : Int.gcd i j ≤ j.natAbs := Nat.le_of_dvd (by omega) (Nat.gcd_dvd_right i.natAbs j.natAbs)
 exact Nat.lt_of_le_of_lt this h
theorem Bd.bits {k : Nat} {i : Int} (h : Bd k i) (hk : k ≤ 8000) : v7 i = true:= by
 have := Y7 (k := 8000) (by decide) (h.mono hk)
 exact decide_eq_true (by omega)
theorem Bd.div {k : Nat} {i : Int} (h : Bd k i) (h0 : i ≠ 0) (hk : k ≤ 8000) : D8 i = true:= by
 have := Y7 (k := 8000) (by decide) (h.mono hk)
 unfold D8
 rw [decide_eq_true h0,Bool.true_and]
 exact decide_eq_true (by omega)
theorem Sz.num {k : Nat} {p : Rat} (h : Sz k p) : Bd k p.num := h.1
theorem Sz.den {k : Nat} {p : Rat} (h : Sz k p) : Bd k (p.den : Int) := h.2
theorem F3 (p : Rat) : (p.den : Int) ≠ 0 := by have := p.den_nz; omega
theorem a1D (p : Rat) : (0 : Int) < p.den := by have := p.den_nz; omega
theorem a0E (p : Rat) : p = Rat.divInt p.num p.den := (Rat.num_divInt_den p).symm
theorem Sz.mul {k l : Nat} {p q : Rat} (h1 : Sz k p) (h2 : Sz l q) : Sz (k + l) (p * q):= by
 rw [a0E p,a0E q,Rat.divInt_mul_divInt]
 exact Sz.of_divInt (Int.mul_ne_zero (F3 p) (F3 q)) (Bd.mul h1.num h2.num) (Bd.mul h1.den h2.den)
theorem Sz.add {k l : Nat} {p q : Rat} (h1 : Sz k p) (h2 : Sz l q) : Sz (k + l + 1) (p + q):= by
 rw [a0E p,a0E q,Rat.divInt_add_divInt _ _ (F3 p) (F3 q)]
 refine Sz.of_divInt (Int.mul_ne_zero (F3 p) (F3 q)) ?_ (Bd.mono (Bd.mul h1.den h2.den) (by omega))
 have e1 := Bd.mul h1.num h2.den
 have e2 := Bd.mul h2.num h1.den
 exact Bd.mono (Bd.add e1 e2) (by omega)
theorem Sz.neg {k : Nat} {p : Rat} (h : Sz k p) : Sz k (-p) := ⟨by rw [Rat.neg_num,Int.natAbs_neg]; exact h.1,h.2⟩
theorem Sz.sub {k l : Nat} {p q : Rat} (h1 : Sz k p) (h2 : Sz l q) : Sz (k + l + 1) (p - q) := by rw [Rat.sub_eq_add_neg]; exact h1.add h2.neg
theorem Sz.lit {k : Nat} {p : Rat} (h : decide (p.num.natAbs < 2 ^ k ∧ p.den < 2 ^ k) = true) : Sz k p := by unfold Sz; exact of_decide_eq_true h
abbrev Pt := Rat × Rat
def pL (a : Pt) : Int := ((Nat.lcm a.1.den a.2.den : Nat) : Int)
def pX (a : Pt) : Int := a.1.num * ((Nat.lcm a.1.den a.2.den / a.1.den : Nat) : Int)
def pY (a : Pt) : Int := a.2.num * ((Nat.lcm a.1.den a.2.den / a.2.den : Nat) : Int)
def pt (a : Pt) : D := .tup [.int (pX a),.int (pY a),.int (pL a)]
theorem lcm_pos (p q : Rat) : 0 < Nat.lcm p.den q.den := Nat.lcm_pos (by have := p.den_nz; omega) (by have := q.den_nz; omega)
theorem a5R (a : Pt) : 0 < pL a := by have := lcm_pos a.1 a.2; unfold pL; omega
theorem a3d (a : Pt) : pL a ≠ 0 := by have := a5R a; omega
theorem T8 (a : Pt) : (0 : Rat) < (pL a : Rat) := Rat.intCast_pos.mpr (a5R a)
theorem S6 (a : Pt) : (pL a : Rat) ≠ 0 := fun h => a3d a (Rat.intCast_eq_zero_iff.mp h)
theorem a0g (p : Rat) : (p.num : Rat) = p * ((p.den : Int) : Rat):= by
 have e := Rat.num_divInt_den p
 rw [Rat.divInt_eq_div] at e
 have hd : ((p.den : Int) : Rat) ≠ 0 := fun h => F3 p (Rat.intCast_eq_zero_iff.mp h)
 have : (p.num : Rat) / ((p.den : Int) : Rat) * ((p.den : Int) : Rat) = (p.num : Rat) := Rat.div_mul_cancel hd
 rw [e] at this
 exact this.symm
theorem M0 (a : Pt) : (pX a : Rat) = a.1 * (pL a : Rat):= by
 unfold pX pL
 obtain ⟨c,hc⟩ := Nat.dvd_lcm_left a.1.den a.2.den
 have hd := a.1.den_nz
 have e : Nat.lcm a.1.den a.2.den / a.1.den = c := Nat.div_eq_of_eq_mul_right (by omega) hc
 rw [e,hc,Int.natCast_mul,Rat.intCast_mul,Rat.intCast_mul,a0g]
 grind
theorem K9 (a : Pt) : (pY a : Rat) = a.2 * (pL a : Rat):= by
 unfold pY pL
 obtain ⟨c,hc⟩ := Nat.dvd_lcm_right a.1.den a.2.den
 have hd := a.2.den_nz
 have e : Nat.lcm a.1.den a.2.den / a.2.den = c := Nat.div_eq_of_eq_mul_right (by omega) hc
 rw [e,hc,Int.natCast_mul,Rat.intCast_mul,Rat.intCast_mul,a0g]
 grind
theorem a40 {x d : Int} {p : Rat} (hd : 0 < d) (h : (x : Rat) = p * (d : Rat)) : ∃ c : Int,d = p.den * c ∧ x = p.num * c:= by
 have h1 : x * p.den = p.num * d:= by
  have e := a0g p
  have : ((x * p.den : Int) : Rat) = ((p.num * d : Int) : Rat):= by
   rw [Rat.intCast_mul,Rat.intCast_mul,h,e]; grind
  exact Rat.intCast_inj.mp this
 have dv : (p.den : Int) ∣ p.num * d := ⟨x,by rw [← h1,Int.mul_comm]⟩
 have dv2 : p.den ∣ p.num.natAbs * d.natAbs:= by
  have := Int.natAbs_dvd_natAbs.mpr dv
  rwa [Int.natAbs_mul,Int.natAbs_natCast] at this
 have dv3 : p.den ∣ d.natAbs := Nat.Coprime.dvd_of_dvd_mul_left (Nat.Coprime.symm p.reduced) dv2
 obtain ⟨c,hc⟩ : (p.den : Int) ∣ d := Int.dvd_natAbs.mp (Int.ofNat_dvd.mpr dv3)
 refine ⟨c,hc,?_⟩
 have hp := a1D p
 have : (p.den : Int) * x = p.den * (p.num * c) := by rw [Int.mul_comm,h1,hc]; grind
 exact Int.eq_of_mul_eq_mul_left (by omega) this
theorem a2E {x y d : Int} {a : Pt} (hd : 0 < d) (hg : Int.gcd (Int.gcd x y : Int) d = 1) (hx : (x : Rat) = a.1 * (d : Rat)) (hy : (y : Rat) = a.2 * (d : Rat)) : x = pX a ∧ y = pY a ∧ d = pL a:= by
 obtain ⟨c1,e1,f1⟩ := a40 hd hx
 obtain ⟨c2,e2,f2⟩ := a40 hd hy
 obtain ⟨D,rfl⟩ := Int.eq_ofNat_of_zero_le (show 0 ≤ d by omega)
 have dl : Nat.lcm a.1.den a.2.den ∣ D := Nat.lcm_dvd (Int.ofNat_dvd.mp ⟨c1,e1⟩) (Int.ofNat_dvd.mp ⟨c2,e2⟩)
 obtain ⟨m,hm⟩ := dl
 have key : ∀ z : Int,∀ r : Rat,(z : Rat) = r * ((D : Int) : Rat) → ∀ w : Int,(w : Rat) = r * (pL a : Rat) → z = w * m:= by
  intro z r h1 w h2
  have : (z : Rat) = ((w * m : Int) : Rat):= by
   rw [h1,Rat.intCast_mul,h2,hm]
   have : (((Nat.lcm a.1.den a.2.den * m : Nat) : Int) : Rat) = (pL a : Rat) * ((m : Int) : Rat):= by
    rw [Int.natCast_mul,Rat.intCast_mul]; rfl
   rw [this]; grind
  exact Rat.intCast_inj.mp this
 have kx := key x a.1 hx (pX a) (M0 a)
 have ky := key y a.2 hy (pY a) (K9 a)
 have kd : (D : Int) = pL a * m := by rw [hm,Int.natCast_mul]; rfl
 have m1 : (m : Int) ∣ 1:= by
  have h : (m : Int) ∣ (Int.gcd (Int.gcd x y : Int) (D : Int) : Int):= by
   refine Int.dvd_coe_gcd (Int.dvd_coe_gcd ?_ ?_) ?_
   ·exact ⟨pX a,by rw [kx,Int.mul_comm]⟩
   ·exact ⟨pY a,by rw [ky,Int.mul_comm]⟩
   ·exact ⟨pL a,by rw [kd,Int.mul_comm]⟩
  rwa [hg] at h
 have m2 : m = 1 := Nat.eq_one_of_dvd_one (Int.ofNat_dvd.mp m1)
 subst m2
 exact ⟨by rw [kx]; simp,by rw [ky]; simp,by rw [kd]; simp⟩
structure Ps (k : Nat) (a : Pt) : Prop where
 x : Bd k (pX a)
 y : Bd k (pY a)
 l : Bd k (pL a)
theorem Ps.of {k l : Nat} {a : Pt} (h1 : Sz k a.1) (h2 : Sz l a.2) : Ps (k + l) a:= by
 have hl : Nat.lcm a.1.den a.2.den ≤ a.1.den * a.2.den := Nat.le_of_dvd (Nat.mul_pos (by have := a.1.den_nz; omega) (by have := a.2.den_nz; omega)) (Nat.lcm_dvd_mul ..)
 have b := a6c h1.2 h2.2
 have dl : Nat.lcm a.1.den a.2.den / a.1.den ≤ a.2.den:= by
  rw [Nat.div_le_iff_le_mul_add_pred (by have := a.1.den_nz; omega)]; omega
 have dr : Nat.lcm a.1.den a.2.den / a.2.den ≤ a.1.den:= by
  rw [Nat.div_le_iff_le_mul_add_pred (by have := a.2.den_nz; omega),Nat.mul_comm a.2.den]; omega
 refine ⟨?_,?_,?_⟩
 ·exact Bd.mul h1.num (show Bd l ((_ : Nat) : Int) from Nat.lt_of_le_of_lt dl h2.2)
 ·have := Bd.mul h2.num (show Bd k ((_ : Nat) : Int) from Nat.lt_of_le_of_lt dr h1.2)
  rw [Nat.add_comm]; exact this
 ·exact Nat.lt_of_le_of_lt hl b
def i5 (a b c : Pt) : Rat := (b.1 - a.1) * (c.2 - a.2) - (b.2 - a.2) * (c.1 - a.1)
def sgn (r : Rat) : Int := if 0 < r then 1 else if r < 0 then -1 else 0
def a0j (n : Int) : Int := if 0 < n then 1 else if n < 0 then -1 else 0
theorem b1p {n : Int} {c r : Rat} (hc : 0 < c) (h : (n : Rat) = c * r) : a0j n = sgn r:= by
 unfold a0j sgn
 have h1 : 0 < n ↔ 0 < r:= by
  rw [← Rat.intCast_pos,h]; exact Rat.mul_pos_iff_of_pos_left hc
 have h2 : n < 0 ↔ r < 0:= by
  rw [← Rat.intCast_neg_iff,h]; exact Rat.mul_neg_iff_of_pos_left hc
 simp only [h1,h2]
def lsB (a b : Pt) : Bool := decide (a.1 < b.1) || (decide (a.1 = b.1) && decide (a.2 < b.2))
end DL
namespace DL
def w8 (x y : Rat) : Prop := 0 < x ∨ (x = 0 ∧ 0 < y)
theorem V4 (a b : Pt) : lsB a b = true ↔ w8 (b.1 - a.1) (b.2 - a.2):= by
 unfold lsB w8
 rw [Bool.or_eq_true,Bool.and_eq_true,decide_eq_true_iff,decide_eq_true_iff,decide_eq_true_iff]
 constructor
 ·rintro (h | ⟨h1,h2⟩)
  ·left; grind
  ·right; constructor <;> grind
 ·rintro (h | ⟨h1,h2⟩)
  ·left; grind
  ·right; constructor <;> grind
theorem a5g (x y : Rat) (h : ¬ (x = 0 ∧ y = 0)) : w8 x y ∨ w8 (-x) (-y):= by
 unfold w8
 grind
theorem a5X (x y : Rat) (h : w8 x y) : ¬ w8 (-x) (-y):= by
 unfold w8 at *
 grind
theorem a6G {x y s : Rat} (hs : 0 < s) : w8 (s * x) (s * y) ↔ w8 x y:= by
 unfold w8
 have h1 : 0 < s * x ↔ 0 < x := Rat.mul_pos_iff_of_pos_left hs
 have h2 : 0 < s * y ↔ 0 < y := Rat.mul_pos_iff_of_pos_left hs
 have h3 : s * x = 0 ↔ x = 0:= by
  rw [Rat.mul_eq_zero]
  constructor
  ·rintro (h | h)
   ·rw [h] at hs; exact absurd hs Rat.lt_irrefl
   ·exact h
  ·exact fun h => .inr h
 rw [h1,h2,h3]
theorem a4H : ¬ w8 0 0 := by unfold w8; grind
theorem a1a {x y : Rat} (h : w8 x y) (s : Rat) : w8 (s * x) (s * y) ↔ 0 < s:= by
 constructor
 ·intro q
  rcases Rat.le_total (a := s) (b := 0) with z | z
  ·rcases (Rat.le_iff_lt_or_eq).mp z with z | z
   ·have : w8 (-s * x) (-s * y) := (a6G (by grind)).mpr h
    rw [Rat.neg_mul,Rat.neg_mul] at this
    exact absurd this (a5X _ _ q)
   ·rw [z,Rat.zero_mul,Rat.zero_mul] at q; exact absurd q a4H
  ·rcases (Rat.le_iff_lt_or_eq).mp z with z | z
   ·exact z
   ·rw [← z,Rat.zero_mul,Rat.zero_mul] at q; exact absurd q a4H
 ·intro hs; exact (a6G hs).mpr h
def j6 (a b : Pt) (s : Rat) : Pt := (a.1 + s * (b.1 - a.1),a.2 + s * (b.2 - a.2))
theorem V9 {a b c : Pt} (hab : a ≠ b) (h : i5 a b c = 0) : ∃ s,c = j6 a b s:= by
 unfold i5 at h
 by_cases h1 : b.1 - a.1 = 0
 ·have h2 : b.2 - a.2 ≠ 0 := fun z => hab (Prod.ext (by grind) (by grind))
  refine ⟨(c.2 - a.2) / (b.2 - a.2),?_⟩
  unfold j6
  refine Prod.ext ?_ ?_
  ·show c.1 = _
   have : (b.2 - a.2) * (c.1 - a.1) = 0 := by grind
   rcases Rat.mul_eq_zero.mp this with z | z
   ·exact absurd z h2
   ·grind
  ·show c.2 = _
   grind
 ·refine ⟨(c.1 - a.1) / (b.1 - a.1),?_⟩
  unfold j6
  refine Prod.ext ?_ ?_
  ·show c.1 = _
   grind
  ·show c.2 = _
   have e : (b.1 - a.1) * (c.2 - a.2) = (b.2 - a.2) * (c.1 - a.1) := by grind
   have : c.2 - a.2 = (c.1 - a.1) / (b.1 - a.1) * (b.2 - a.2) := by grind
   grind
def dsq (a b : Pt) : Rat := (a.1 - b.1) * (a.1 - b.1) + (a.2 - b.2) * (a.2 - b.2)
end DL
namespace T
open DL
def crs (u v : Pt) : Rat := u.1 * v.2 - u.2 * v.1
def J0 (u v : Pt) : Rat := u.1 * v.1 + u.2 * v.2
def vec (a b : Pt) : Pt := (b.1 - a.1,b.2 - a.2)
def lxM (x y : Pt) : Pt := if lsB x y then y else x
def lxm (x y : Pt) : Pt := if lsB x y then x else y
def spn (a b : Pt) : Pt × Pt := if lsB a b then (a,b) else (b,a)
abbrev Res := Option (Pt × Option Pt)
def alg (u v : Pt × Pt) : Res := if lsB (lxm u.2 v.2) (lxM u.1 v.1) then none else if lxM u.1 v.1 = lxm u.2 v.2 then some (lxM u.1 v.1,none) else some (lxM u.1 v.1,some (lxm u.2 v.2))
def nmX (a b c d : Pt) : Rat := (b.1 - a.1) * (c.1 * d.2 - c.2 * d.1) - (a.1 * b.2 - a.2 * b.1) * (d.1 - c.1)
def nmY (a b c d : Pt) : Rat := (a.1 * b.2 - a.2 * b.1) * (c.2 - d.2) - (a.2 - b.2) * (c.1 * d.2 - c.2 * d.1)
def xpt (a b c d : Pt) : Pt := (nmX a b c d / crs (vec a b) (vec c d),nmY a b c d / crs (vec a b) (vec c d))
def cmn (a b c d : Pt) : Res:=
 if i5 a b c = 0 ∧ i5 a b d = 0 then alg (spn a b) (spn c d)
 else if 0 < i5 a b c * i5 a b d ∨ 0 < i5 c d a * i5 c d b then none
 else some (xpt a b c d,none)
theorem a4h {x y : Pt} (h1 : ¬ lsB x y = true) (h2 : ¬ lsB y x = true) : x = y:= by
 by_cases e : x = y
 ·exact e
 ·have nz : ¬ (y.1 - x.1 = 0 ∧ y.2 - x.2 = 0) := fun h => e (Prod.ext (by grind) (by grind))
  rcases a5g _ _ nz with z | z
  ·exact absurd ((V4 x y).mpr z) h1
  ·refine absurd ((V4 y x).mpr ?_) h2
   have q1 : -(y.1 - x.1) = x.1 - y.1 := by grind
   have q2 : -(y.2 - x.2) = x.2 - y.2 := by grind
   rwa [q1,q2] at z
theorem a4f {x y : Pt} (h1 : lsB x y = true) : ¬ lsB y x = true := fun h2 => by
 have a := (V4 x y).mp h1
 have b := (V4 y x).mp h2
 have q1 : -(y.1 - x.1) = x.1 - y.1 := by grind
 have q2 : -(y.2 - x.2) = x.2 - y.2 := by grind
 rw [← q1,← q2] at b
 exact a5X _ _ a b
theorem a8L (x y : Pt) : lxM x y = lxM y x:= by
 unfold lxM
 by_cases h : lsB x y = true
 ·rw [if_pos h,if_neg (a4f h)]
 ·by_cases k : lsB y x = true
  ·rw [if_neg h,if_pos k]
  ·rw [if_neg h,if_neg k,a4h h k]
theorem a73 (x y : Pt) : lxm x y = lxm y x:= by
 unfold lxm
 by_cases h : lsB x y = true
 ·rw [if_pos h,if_neg (a4f h)]
 ·by_cases k : lsB y x = true
  ·rw [if_neg h,if_pos k]
  ·rw [if_neg h,if_neg k,a4h h k]
theorem b0r (x y : Pt) : spn x y = spn y x:= by
 unfold spn
 by_cases h : lsB x y = true
 ·rw [if_pos h,if_neg (a4f h)]
 ·by_cases k : lsB y x = true
  ·rw [if_neg h,if_pos k]
  ·rw [if_neg h,if_neg k,a4h h k]
theorem b16 (u v : Pt × Pt) : alg u v = alg v u:= by
 unfold alg
 rw [a8L u.1 v.1,a73 u.2 v.2]
theorem a4A {x y : Rat} : -x / -y = x / y:= by
 by_cases h : y = 0
 ·subst h
  rw [Rat.div_def,Rat.div_def]
  have : (-0 : Rat) = 0 := by decide
  rw [this,Rat.inv_zero,Rat.mul_zero,Rat.mul_zero]
 ·have h2 : -y ≠ 0 := fun z => h (by grind)
  have e1 := Rat.div_mul_cancel (a := -x) h2
  have e2 := Rat.div_mul_cancel (a := x) h
  have : (-x / -y - x / y) * y = 0 := by grind
  rcases Rat.mul_eq_zero.mp this with z | z
  ·grind
  ·exact absurd z h
theorem a7T (a b c d : Pt) : xpt c d a b = xpt a b c d:= by
 unfold xpt
 have e1 : nmX c d a b = -nmX a b c d := by unfold nmX; grind
 have e2 : nmY c d a b = -nmY a b c d := by unfold nmY; grind
 have e3 : crs (vec c d) (vec a b) = -crs (vec a b) (vec c d) := by unfold crs vec; grind
 rw [e1,e2,e3,a4A,a4A]
theorem a6N {a b c d : Pt} (hab : a ≠ b) (h : i5 a b c = 0 ∧ i5 a b d = 0) : i5 c d a = 0 ∧ i5 c d b = 0:= by
 obtain ⟨s,hs⟩ := V9 hab h.1
 obtain ⟨t,ht⟩ := V9 hab h.2
 rw [hs,ht]
 unfold j6 i5
 constructor <;> grind
theorem b3e {a b c d : Pt} (hab : a ≠ b) (hcd : c ≠ d) : cmn c d a b = cmn a b c d:= by
 unfold cmn
 have e0 : (i5 c d a = 0 ∧ i5 c d b = 0) ↔ (i5 a b c = 0 ∧ i5 a b d = 0) := ⟨a6N hcd,a6N hab⟩
 have e1 : (0 < i5 c d a * i5 c d b ∨ 0 < i5 a b c * i5 a b d) ↔ (0 < i5 a b c * i5 a b d ∨ 0 < i5 c d a * i5 c d b) := Or.comm
 simp only [e0,e1,b16 (spn c d),a7T c d a b]
def loS (x : Rat) : Rat := if x < 0 then 0 else x
def hiS (x : Rat) : Rat := if 1 < x then 1 else x
def shr (a b c : Pt) : Rat := J0 (vec a c) (vec a b) / J0 (vec a b) (vec a b)
open Classical in
def U0 (a b : Pt) (lo hi : Rat) : Res := if hi < lo then none else if j6 a b lo = j6 a b hi then some (j6 a b lo,none) else if w8 (vec (j6 a b lo) (j6 a b hi)).1 (vec (j6 a b lo) (j6 a b hi)).2 then some (j6 a b lo,some (j6 a b hi)) else some (j6 a b hi,some (j6 a b lo))
def a0l (a b : Pt) (x y : Rat) : Res := if y < x then U0 a b (loS y) (hiS x) else U0 a b (loS x) (hiS y)
def a1m (a b c d : Pt) : Res:=
 if crs (vec a b) (vec c d) = 0 then (if crs (vec a c) (vec a b) = 0 then a0l a b (shr a b c) (shr a b d) else none)
 else if ¬ (0 ≤ crs (vec a c) (vec c d) / crs (vec a b) (vec c d) ∧ crs (vec a c) (vec c d) / crs (vec a b) (vec c d) ≤ 1) ∨ ¬ (0 ≤ crs (vec a c) (vec a b) / crs (vec a b) (vec c d) ∧ crs (vec a c) (vec a b) / crs (vec a b) (vec c d) ≤ 1) then none
 else some (j6 a b (crs (vec a c) (vec c d) / crs (vec a b) (vec c d)),none)
theorem a4S {a b : Pt} (h : a ≠ b) : ¬ (b.1 - a.1 = 0 ∧ b.2 - a.2 = 0) := fun ⟨x,y⟩ => h (Prod.ext (by grind) (by grind))
theorem a6R (x : Rat) : 0 ≤ x * x:= by
 rcases Rat.le_total (a := 0) (b := x) with z | z
 ·exact Rat.mul_nonneg z z
 ·have := Rat.mul_nonneg (show 0 ≤ -x by grind) (show 0 ≤ -x by grind)
  grind
theorem a2A {a b : Pt} (h : a ≠ b) : 0 < J0 (vec a b) (vec a b):= by
 have nz := a4S h
 unfold J0 vec
 have s1 := a6R (b.1 - a.1)
 have s2 := a6R (b.2 - a.2)
 have n : ¬ ((b.1 - a.1) * (b.1 - a.1) + (b.2 - a.2) * (b.2 - a.2) = 0) := fun z => by
  have z1 : (b.1 - a.1) * (b.1 - a.1) = 0 := by grind
  have z2 : (b.2 - a.2) * (b.2 - a.2) = 0 := by grind
  exact nz ⟨by rcases Rat.mul_eq_zero.mp z1 with q | q <;> exact q,by rcases Rat.mul_eq_zero.mp z2 with q | q <;> exact q⟩
 grind
theorem a2J {x : Rat} (h : 0 < x) : x ≠ 0 := fun z => by rw [z] at h; exact absurd h Rat.lt_irrefl
theorem a1t {a b : Pt} (h : a ≠ b) (s : Rat) : shr a b (j6 a b s) = s:= by
 unfold shr
 have nz := a2J (a2A h)
 have e : J0 (vec a (j6 a b s)) (vec a b) = s * J0 (vec a b) (vec a b):= by
  unfold J0 vec j6
  grind
 rw [e,Rat.mul_div_cancel nz]
theorem a1i (a b : Pt) (s t : Rat) : vec (j6 a b s) (j6 a b t) = ((t - s) * (b.1 - a.1),(t - s) * (b.2 - a.2)):= by
 unfold vec j6
 exact Prod.ext (by grind) (by grind)
theorem a9P {a b : Pt} (h : w8 (b.1 - a.1) (b.2 - a.2)) (s t : Rat) : lsB (j6 a b s) (j6 a b t) = true ↔ s < t:= by
 rw [V4]
 have e := a1i a b s t
 have e1 : (j6 a b t).1 - (j6 a b s).1 = (t - s) * (b.1 - a.1) := congrArg Prod.fst e
 have e2 : (j6 a b t).2 - (j6 a b s).2 = (t - s) * (b.2 - a.2) := congrArg Prod.snd e
 rw [e1,e2,a1a h]
 constructor <;> intro z <;> grind
theorem b0N {a b : Pt} (h : w8 (-(b.1 - a.1)) (-(b.2 - a.2))) (s t : Rat) : lsB (j6 a b s) (j6 a b t) = true ↔ t < s:= by
 rw [V4]
 have e := a1i a b s t
 have e1 : (j6 a b t).1 - (j6 a b s).1 = (s - t) * -(b.1 - a.1) := (congrArg Prod.fst e).trans (by grind)
 have e2 : (j6 a b t).2 - (j6 a b s).2 = (s - t) * -(b.2 - a.2) := (congrArg Prod.snd e).trans (by grind)
 rw [e1,e2,a1a h]
 constructor <;> intro z <;> grind
theorem P0 (a b : Pt) : j6 a b 0 = a := by unfold j6; exact Prod.ext (by grind) (by grind)
theorem P1 (a b : Pt) : j6 a b 1 = b := by unfold j6; exact Prod.ext (by grind) (by grind)
theorem a5U {a b : Pt} (h : a ≠ b) {x y : Rat} (hxy : x < y) : U0 a b (loS x) (hiS y) = alg (spn a b) (spn (j6 a b x) (j6 a b y)):= by
 rcases a5g _ _ (a4S h) with p | p
 ·have L := a9P p
  have sab : spn a b = (j6 a b 0,j6 a b 1):= by
   unfold spn
   have := (L 0 1).mpr (by decide)
   rw [P0,P1] at this
   rw [if_pos this,P0,P1]
  have scd : spn (j6 a b x) (j6 a b y) = (j6 a b x,j6 a b y):= by
   unfold spn
   rw [if_pos ((L x y).mpr hxy)]
  have lo : lxM (j6 a b 0) (j6 a b x) = j6 a b (loS x):= by
   unfold lxM loS
   by_cases c : 0 < x
   ·rw [if_pos ((L 0 x).mpr c),if_neg (fun z => by grind)]
   ·rw [if_neg (fun z => c ((L 0 x).mp z))]
    by_cases c2 : x < 0
    ·rw [if_pos c2]
    ·rw [if_neg c2,show x = 0 by grind]
  have hi : lxm (j6 a b 1) (j6 a b y) = j6 a b (hiS y):= by
   unfold lxm hiS
   by_cases c : 1 < y
   ·rw [if_pos ((L 1 y).mpr c),if_pos c]
   ·rw [if_neg (fun z => c ((L 1 y).mp z)),if_neg c]
  rw [sab,scd]
  unfold alg
  simp only [lo,hi]
  unfold U0
  by_cases c : hiS y < loS x
  ·rw [if_pos c,if_pos ((L _ _).mpr c)]
  ·rw [if_neg c,if_neg (fun z => c ((L _ _).mp z))]
   by_cases e : j6 a b (loS x) = j6 a b (hiS y)
   ·rw [if_pos e,if_pos e]
   ·rw [if_neg e,if_neg e]
    have ne : loS x ≠ hiS y := fun z => e (by rw [z])
    have lt : loS x < hiS y := by grind
    have q : w8 (vec (j6 a b (loS x)) (j6 a b (hiS y))).1 (vec (j6 a b (loS x)) (j6 a b (hiS y))).2:= by
     rw [a1i]
     exact (a1a p _).mpr (by grind)
    rw [if_pos q]
 ·have L := b0N p
  have sab : spn a b = (j6 a b 1,j6 a b 0):= by
   unfold spn
   have : ¬ lsB (j6 a b 0) (j6 a b 1) = true := fun z => by
    have := (L 0 1).mp z
    exact absurd this (by decide)
   rw [P0,P1] at this
   rw [if_neg this,P0,P1]
  have scd : spn (j6 a b x) (j6 a b y) = (j6 a b y,j6 a b x):= by
   unfold spn
   rw [if_neg (fun z => by have := (L x y).mp z; grind)]
  have lo : lxM (j6 a b 1) (j6 a b y) = j6 a b (hiS y):= by
   unfold lxM hiS
   by_cases c : y < 1
   ·rw [if_pos ((L 1 y).mpr c),if_neg (fun z => by grind)]
   ·rw [if_neg (fun z => c ((L 1 y).mp z))]
    by_cases c2 : 1 < y
    ·rw [if_pos c2]
    ·rw [if_neg c2,show y = 1 by grind]
  have hi : lxm (j6 a b 0) (j6 a b x) = j6 a b (loS x):= by
   unfold lxm loS
   by_cases c : x < 0
   ·rw [if_pos ((L 0 x).mpr c),if_pos c]
   ·rw [if_neg (fun z => c ((L 0 x).mp z)),if_neg c]
  rw [sab,scd]
  unfold alg
  simp only [lo,hi]
  unfold U0
  by_cases c : hiS y < loS x
  ·rw [if_pos c,if_pos ((L _ _).mpr c)]
  ·rw [if_neg c,if_neg (fun z => c ((L _ _).mp z))]
   by_cases e : j6 a b (loS x) = j6 a b (hiS y)
   ·rw [if_pos e,if_pos e.symm,e]
   ·rw [if_neg e]
    have ne : loS x ≠ hiS y := fun z => e (by rw [z])
    have lt : loS x < hiS y := by grind
    have q : ¬ w8 (vec (j6 a b (loS x)) (j6 a b (hiS y))).1 (vec (j6 a b (loS x)) (j6 a b (hiS y))).2:= by
     rw [a1i]
     intro z
     have e1 : (hiS y - loS x) * (b.1 - a.1) = (loS x - hiS y) * -(b.1 - a.1) := by grind
     have e2 : (hiS y - loS x) * (b.2 - a.2) = (loS x - hiS y) * -(b.2 - a.2) := by grind
     have z : w8 ((hiS y - loS x) * (b.1 - a.1)) ((hiS y - loS x) * (b.2 - a.2)) := z
     rw [e1,e2] at z
     have := (a1a p _).mp z
     grind
    rw [if_neg q,if_neg (show ¬ j6 a b (hiS y) = j6 a b (loS x) from fun z => e z.symm)]
theorem a1n {x : Rat} (h : x ≠ 0) : 0 < x * x:= by
 rcases Rat.le_total (a := 0) (b := x) with z | z
 ·exact Rat.mul_pos (by grind) (by grind)
 ·have := Rat.mul_pos (show 0 < -x by grind) (show 0 < -x by grind)
  grind
theorem a6f {W t : Rat} (hW : W ≠ 0) : 0 < (-(t * W)) * ((1 - t) * W) ↔ ¬ (0 ≤ t ∧ t ≤ 1):= by
 have e : (-(t * W)) * ((1 - t) * W) = (t * (t - 1)) * (W * W) := by grind
 have w := a1n hW
 rw [e,Rat.mul_comm,Rat.mul_pos_iff_of_pos_left w]
 constructor
 ·intro z ⟨h1,h2⟩
  have := Rat.mul_nonneg h1 (show 0 ≤ 1 - t by grind)
  grind
 ·intro z
  by_cases c : 0 ≤ t
  ·have : 1 < t:= by
    refine Rat.not_le.mp fun q => z ⟨c,q⟩
   exact Rat.mul_pos (by grind) (by grind)
  ·have := Rat.mul_pos (show 0 < -t by grind) (show 0 < 1 - t by grind)
   grind
theorem b33 {a b c d : Pt} (hab : a ≠ b) (hcd : c ≠ d) : a1m a b c d = cmn a b c d:= by
 have c1 : i5 a b c = -crs (vec a c) (vec a b) := by unfold i5 crs vec; grind
 have c2 : i5 a b d = crs (vec a b) (vec c d) - crs (vec a c) (vec a b) := by unfold i5 crs vec; grind
 have c3 : i5 c d a = crs (vec a c) (vec c d) := by unfold i5 crs vec; grind
 have c4 : i5 c d b = crs (vec a c) (vec c d) - crs (vec a b) (vec c d) := by unfold i5 crs vec; grind
 unfold a1m
 by_cases hW : crs (vec a b) (vec c d) = 0
 ·rw [if_pos hW]
  rw [hW] at c2
  by_cases h0 : crs (vec a c) (vec a b) = 0
  ·rw [if_pos h0]
   have k1 : i5 a b c = 0 := by rw [c1,h0]; grind
   have k2 : i5 a b d = 0 := by rw [c2,h0]; grind
   unfold cmn
   rw [if_pos ⟨k1,k2⟩]
   obtain ⟨s,hs⟩ := V9 hab k1
   obtain ⟨t,ht⟩ := V9 hab k2
   have ne : s ≠ t := fun z => hcd (by rw [hs,ht,z])
   rw [hs,ht,a1t hab,a1t hab]
   unfold a0l
   by_cases q : t < s
   ·rw [if_pos q]
    rw [a5U hab q,b0r (j6 a b s)]
   ·rw [if_neg q]
    exact a5U hab (by grind)
  ·rw [if_neg h0]
   unfold cmn
   have n1 : ¬ (i5 a b c = 0 ∧ i5 a b d = 0) := fun z => h0 (by have := z.1; grind)
   have p : 0 < i5 a b c * i5 a b d:= by
    have e : i5 a b c * i5 a b d = crs (vec a c) (vec a b) * crs (vec a c) (vec a b) := by rw [c1,c2]; grind
    rw [e]
    exact a1n h0
   rw [if_neg n1,if_pos (.inl p)]
 ·rw [if_neg hW]
  unfold cmn
  have n1 : ¬ (i5 a b c = 0 ∧ i5 a b d = 0) := fun z => hW (by have := z.1; have := z.2; grind)
  rw [if_neg n1]
  have es := Rat.div_mul_cancel (a := crs (vec a c) (vec c d)) hW
  have et := Rat.div_mul_cancel (a := crs (vec a c) (vec a b)) hW
  generalize hs : crs (vec a c) (vec c d) / crs (vec a b) (vec c d) = s at *
  generalize ht : crs (vec a c) (vec a b) / crs (vec a b) (vec c d) = t at *
  have q1 : i5 a b c * i5 a b d = (-(t * crs (vec a b) (vec c d))) * ((1 - t) * crs (vec a b) (vec c d)) := by rw [c1,c2,← et]; grind
  have q2 : i5 c d a * i5 c d b = (-(s * crs (vec a b) (vec c d))) * ((1 - s) * crs (vec a b) (vec c d)) := by rw [c3,c4,← es]; grind
  have q3 : (0 < i5 a b c * i5 a b d ∨ 0 < i5 c d a * i5 c d b) ↔ (¬ (0 ≤ s ∧ s ≤ 1) ∨ ¬ (0 ≤ t ∧ t ≤ 1)):= by
   rw [q1,q2,a6f hW,a6f hW]
   exact Or.comm
  simp only [q3]
  have x1 : nmX a b c d = (a.1 + s * (b.1 - a.1)) * crs (vec a b) (vec c d):= by
   have : nmX a b c d = a.1 * crs (vec a b) (vec c d) + crs (vec a c) (vec c d) * (b.1 - a.1) := by unfold nmX crs vec; grind
   rw [this,← es]
   grind
  have x2 : nmY a b c d = (a.2 + s * (b.2 - a.2)) * crs (vec a b) (vec c d):= by
   have : nmY a b c d = a.2 * crs (vec a b) (vec c d) + crs (vec a c) (vec c d) * (b.2 - a.2) := by unfold nmY crs vec; grind
   rw [this,← es]
   grind
  have xe : j6 a b s = xpt a b c d:= by
   unfold xpt j6
   rw [x1,x2,Rat.mul_div_cancel hW,Rat.mul_div_cancel hW]
  rw [xe]
end T
namespace T
open PySem L2 DL
abbrev gT : DT := dB (dOp pNe (dL 3) (dC (.int 0)))
abbrev gB : DM := e7 (j4 (dOp y7 (dL 2) (dL 3)) (i4 4)) (e7 (j4 (dV 3) (i4 2)) (j4 (dV 4) (i4 3)))
theorem a6J (a b : Sl) (g r : Int) (x : Sl) (fs : Option FS) : gT ⟨[a,b,.val (.int g),.val (.int r),x],fs⟩ = some (!decide (r = 0),⟨[a,b,.val (.int g),.val (.int r),x],fs⟩):= by
 simp [dB,dOp,dL,dC,a3N]
theorem b0A (a b : Sl) (g r : Int) (x : Sl) (fs : Option FS) (h : r ≠ 0) : gB ⟨[a,b,.val (.int g),.val (.int r),x],fs⟩ =
  some (.next,⟨[a,b,.val (.int r),.val (.int (g.fmod r)),.val (.int (g.fmod r))],fs⟩):= by
 simp [e7,C5,j4,dOp,dL,dV,i4,y7,h]
theorem b3g (a b : Sl) (fs : Option FS) (r : Nat) : ∀ (g : Nat) (x : Sl),∃ y,G4 gT gB ⟨[a,b,.val (.int g),.val (.int r),x],fs⟩ = some (.next,⟨[a,b,.val (.int (Nat.gcd g r)),.val (.int 0),y],fs⟩):= by
 induction r using Nat.strongRecOn with
 | ind r ih=>
  intro g x
  by_cases h : r = 0
  ·subst h
   refine ⟨x,?_⟩
   rw [Nat.gcd_zero_right]
   exact a46 (by rw [a6J]; rfl)
  ·have e : ((g : Int).fmod (r : Int)) = ((g % r : Nat) : Int) := by rw [Int.fmod_eq_emod_of_nonneg _ (by omega)]; rfl
   obtain ⟨y,hy⟩ := ih (g % r) (Nat.mod_lt _ (by omega)) r (.val (.int ((g : Int).fmod (r : Int))))
   refine ⟨y,?_⟩
   have hg : Nat.gcd g r = Nat.gcd r (g % r) := by rw [Nat.gcd_comm g r,Nat.gcd_rec,Nat.gcd_comm]
   rw [hg]
   refine a45 (s1 := ⟨[a,b,.val (.int g),.val (.int r),x],fs⟩) (by rw [a6J,decide_eq_false (by omega)]; rfl) (b0A _ _ _ _ _ _ (by omega)) ?_
   rw [e] at hy ⊢
   exact hy
theorem a3k (a : Int) : (if a < 0 then -a else a) = ((a.natAbs : Nat) : Int) := by split <;> omega
theorem b4c (a b : Int) (fs : Option FS) : F5 [.int a,.int b] fs = some (.int (Int.gcd a b),fs):= by
 obtain ⟨y,hy⟩ := b3g (.val (.int a)) (.val (.int b)) fs b.natAbs a.natAbs .no
 refine n8 (s := ⟨[.val (.int a),.val (.int b),.val (.int (Int.gcd a b)),.val (.int 0),y],fs⟩) ?_
 show a37 ⟨[.val (.int a),.val (.int b),.no,.no,.no],fs⟩ = _
 unfold a37
 rw [i9 (s1 := ⟨[.val (.int a),.val (.int b),.val (.int a.natAbs),.no,.no],fs⟩) (by simp [j4,dCB,a0,a6,dL,one,S0,i4,a3k])]
 rw [i9 (s1 := ⟨[.val (.int a),.val (.int b),.val (.int a.natAbs),.val (.int b.natAbs),.no],fs⟩) (by simp [j4,dCB,a0,a6,dL,one,S0,i4,a3k])]
 rw [i9 hy]
 exact m6 (by simp [dV,Int.gcd])
theorem a9L (a : Int) : Int.gcd 0 a = a.natAbs := by simp [Int.gcd]
theorem a7W (a b : Int) : Int.gcd ((a.natAbs : Nat) : Int) b = Int.gcd a b := by simp [Int.gcd]
theorem a39 (P : D) (acc x : Int) (x2 : Sl) (r : List D) (fs : Option FS) : A6 (i4 2) (a0r F5) (.int x :: r) ⟨[.val P,.val (.int acc),x2],fs⟩ = A6 (i4 2) (a0r F5) r ⟨[.val P,.val (.int (Int.gcd acc x)),.val (.int x)],fs⟩ := a3T (s1 := ⟨[.val P,.val (.int acc),.val (.int x)],fs⟩) rfl (l5 (j8 rfl (b4c acc x fs)) rfl)
theorem a7V {ds : List D} {g : Int} {x2 : Sl} {fs : Option FS} (h : A6 (i4 2) (a0r F5) ds ⟨[.val (.tup ds),.val (.int 0),.no],fs⟩ = some (.next,⟨[.val (.tup ds),.val (.int g),x2],fs⟩)) : T3 F5 [.tup ds] fs = some (.int g,fs):= by
 refine n8 (s := ⟨[.val (.tup ds),.val (.int g),x2],fs⟩) ?_
 show a2s F5 ⟨[.val (.tup ds),.no,.no],fs⟩ = _
 unfold a2s
 have lp : P8 (dV 0) (i4 2) (a0r F5) ⟨[.val (.tup ds),.val (.int 0),.no],fs⟩ = some (.next,⟨[.val (.tup ds),.val (.int g),x2],fs⟩) := h
 rw [i9 (s1 := ⟨[.val (.tup ds),.val (.int 0),.no],fs⟩) (l5 rfl rfl),i9 lp]
 exact m6 rfl
theorem b35 (a b c : Int) (fs : Option FS) : T3 F5 [.tup [.int a,.int b,.int c]] fs = some (.int (Int.gcd (Int.gcd a b : Int) c),fs) := a7V (x2 := .val (.int c)) (by
 rw [a39,a39,a39,a9L,a7W]
 rfl)
theorem K6 {a g c : Int} (hg : g ≠ 0) (e : a = g * c) : a.fdiv g = c := by subst e; exact Int.mul_fdiv_cancel_left c hg
theorem b2x (a b : Int) (hb : b ≠ 0) : let g : Int := if b < 0 then -(Int.gcd a b : Int) else (Int.gcd a b : Int)
  g ≠ 0 ∧ a.fdiv g = (Rat.divInt a b).num ∧ b.fdiv g = ((Rat.divInt a b).den : Int):= by
 intro g
 have g0 : 0 < Int.gcd a b := Int.gcd_pos_of_ne_zero_right a hb
 obtain ⟨c,hc⟩ := Int.gcd_dvd_left a b
 obtain ⟨d,hd⟩ := Int.gcd_dvd_right a b
 have e1 : (Rat.divInt a b).num = if b < 0 then -c else c:= by
  rw [Rat.num_divInt,Int.gcd_comm]
  split
  ·rename_i h
   rw [Int.sign_eq_neg_one_of_neg h]
   refine Int.ediv_eq_of_eq_mul_right (by omega) ?_
   grind
  ·rename_i h
   rw [Int.sign_eq_one_of_pos (by omega),Int.one_mul]
   exact Int.ediv_eq_of_eq_mul_right (by omega) hc
 have e2 : ((Rat.divInt a b).den : Int) = if b < 0 then -d else d:= by
  rw [Rat.den_divInt,if_neg hb,Int.gcd_comm,Int.natCast_ediv]
  split
  ·refine Int.ediv_eq_of_eq_mul_right (by omega) ?_
   grind
  ·refine Int.ediv_eq_of_eq_mul_right (by omega) ?_
   grind
 rw [e1,e2]
 by_cases h : b < 0
 ·have eg : g = -(Int.gcd a b : Int) := if_pos h
  rw [eg,if_pos h,if_pos h]
  exact ⟨by omega,K6 (by omega) (by grind),K6 (by omega) (by grind)⟩
 ·have eg : g = (Int.gcd a b : Int) := if_neg h
  rw [eg,if_neg h,if_neg h]
  exact ⟨by omega,K6 (by omega) hc,K6 (by omega) hd⟩
theorem a6L {k : Nat} {a b : Int} (hb : b ≠ 0) (h : Bd k b) (hk : k ≤ 8000) : D8 (if b < 0 then -(Int.gcd a b : Int) else (Int.gcd a b : Int)) = true:= by
 have g0 : 0 < Int.gcd a b := Int.gcd_pos_of_ne_zero_right a hb
 split
 ·exact (Bd.gcd h hb).neg.div (by omega) hk
 ·exact (Bd.gcd h hb).div (by omega) hk
theorem sz2 : (2 : Nat) ≤ sizeLine := by decide
theorem sz3 : (3 : Nat) ≤ sizeLine := by decide
theorem a9y (a b c : D) : atI [a,b,c] (-1) = some c := a0C [a,b] c
theorem b0I (a b : D) : atI [a,b] 0 = some a := rfl
theorem b2Z (a b : D) : atI [a,b] 1 = some b := rfl
theorem a5c (a b c : D) : atI [a,b,c] 0 = some a := rfl
theorem a7D (a b c : D) : atI [a,b,c] 1 = some b := rfl
theorem a6w (a b c : D) : atI [a,b,c] 2 = some c := rfl
abbrev FL : DFn := a3B (T3 F5)
theorem a1F {gg : Int} (dg : D8 gg = true) (fs : Option FS) : ∀ xs : List Int,B9 (fun d => some [.val d,.val (.int gg)]) B4 (dOp F1 (dL 0) (dL 1)) (xs.map .int) fs = some (xs.map (fun x => .int (x.fdiv gg)),fs)
 | [] => rfl
 | x :: r => by
  have e : dOp F1 (dL 0) (dL 1) ⟨[.val (.int x),.val (.int gg)],fs⟩ = some (.int (x.fdiv gg),⟨[.val (.int x),.val (.int gg)],fs⟩) := a8 rfl rfl (if_pos dg)
  have ih := a1F dg fs r
  rw [List.map_cons,B9,Option.bind_some]
  show ((dOp F1 (dL 0) (dL 1) ⟨[.val (.int x),.val (.int gg)],fs⟩).bind _) = _
  rw [e,Option.bind_some]
  show (B9 _ B4 _ (r.map .int) fs).map _ = _
  rw [ih]
  rfl
theorem b2G {ds : List D} {d g : Int} (h : atI ds (-1) = some (.int d)) (fs : Option FS) : l7 (dB (dOp (k0 (fun i j => decide (i < j))) (dOp pIx (dL 0) (dUn l6 (dC (.int 1)))) (dC (.int 0)))) (j4 (dUn l6 (dL 1)) (i4 1)) m7 ⟨[.val (.tup ds),.val (.int g)],fs⟩ = some (.next,⟨[.val (.tup ds),.val (.int (if d < 0 then -g else g))],fs⟩):= by
 have t : dB (dOp (k0 (fun i j => decide (i < j))) (dOp pIx (dL 0) (dUn l6 (dC (.int 1)))) (dC (.int 0))) ⟨[.val (.tup ds),.val (.int g)],fs⟩ = some (decide (d < 0),⟨[.val (.tup ds),.val (.int g)],fs⟩) := t7 (a8 (a8 rfl rfl (show pIx (.tup ds) (.int (-1)) = some (.int d) from h)) rfl rfl)
 by_cases nb : d < 0
 ·rw [decide_eq_true nb] at t
  rw [if_pos nb,C6 t]
  rfl
 ·rw [decide_eq_false nb] at t
  rw [if_neg nb,L9 t]
  rfl
theorem b1R {xs : List Int} {d g : Int} (fs : Option FS) (hl : xs.length ≤ 10) (hd : T3 F5 [.tup (xs.map .int)] fs = some (.int g,fs)) (h : atI (xs.map D.int) (-1) = some (.int d)) (dg : D8 (if d < 0 then -g else g) = true) : FL [.tup (xs.map .int)] fs = some (.tup (xs.map fun x => .int (x.fdiv (if d < 0 then -g else g))),fs):= by
 have nf := b2G (g := g) h fs
 have cd := a1F dg fs xs
 have ll : (xs.map D.int).length ≤ sizeLine := Nat.le_trans (by rw [List.length_map]; exact hl) (show 10 ≤ sizeLine by decide)
 generalize xs.map D.int = ds at *
 generalize (if d < 0 then -g else g) = gg at *
 refine n8 (s := ⟨[.val (.tup ds),.val (.int gg)],fs⟩) ?_
 show a2f (T3 F5) ⟨[.val (.tup ds),.no],fs⟩ = _
 unfold a2f
 rw [i9 (s1 := ⟨[.val (.tup ds),.val (.int g)],fs⟩) (l5 (j8 rfl hd) rfl),i9 nf]
 exact m6 (B1 (p := J5) (C0 (M4 (idx := [1]) (ds := ds) (s1 := ⟨[.val (.tup ds),.val (.int gg)],fs⟩) rfl ll cd)) rfl)
theorem a5r (p q : Rat) : p + q = Rat.divInt (p.num * q.den + q.num * p.den) (p.den * q.den):= by
 rw [Rat.add_def',← Rat.divInt_ofNat]; rfl
theorem b1l (p q : Rat) : p * q = Rat.divInt (p.num * q.num) (p.den * q.den):= by
 rw [Rat.mul_def',← Rat.divInt_ofNat]; rfl
theorem a11 (p q : Rat) : (p.den : Int) * q.den ≠ 0 := Int.mul_ne_zero (F3 p) (F3 q)
theorem b0h (p q : Rat) : decide (p.num * q.den < q.num * p.den) = decide (p < q):= by
 congr 1; exact propext (Rat.lt_iff p q).symm
theorem a9Y (a : Int) {b : Int} (h : b ≠ 0) : y7 (.int a) (.int b) = some (.int (a.fmod b)) := by simp [y7,h]
theorem p9 {a b : Int} (h1 : v7 a = true) (h2 : v7 b = true) : k6 (.int a) (.int b) = some (.int (a * b)) := by simp [k6,h1,h2]
theorem Q0 {α : Type} {xs : List α} {r : Int} (h0 : 0 ≤ r) (h1 : r < xs.length) : ∃ x,x ∈ xs ∧ atI xs r = some x:= by
 refine ⟨xs[r.toNat]'(by omega),List.getElem_mem _,?_⟩
 rw [a3f h0 h1,List.getElem?_eq_getElem]
theorem a4z (x y d : Int) (hd : d ≠ 0) : let G : Nat := Int.gcd (Int.gcd x y : Int) d
  let g : Int := if d < 0 then -(G : Int) else (G : Int)
  g ≠ 0 ∧ x.fdiv g = pX (Rat.divInt x d,Rat.divInt y d) ∧ y.fdiv g = pY (Rat.divInt x d,Rat.divInt y d) ∧ d.fdiv g = pL (Rat.divInt x d,Rat.divInt y d):= by
 intro G g
 have g0 : 0 < G := Int.gcd_pos_of_ne_zero_right _ hd
 obtain ⟨d',ed⟩ := Int.gcd_dvd_right (Int.gcd x y : Int) d
 have h1 := Int.gcd_dvd_left (Int.gcd x y : Int) d
 obtain ⟨x',ex⟩ := Int.dvd_trans h1 (Int.gcd_dvd_left ..)
 obtain ⟨y',ey⟩ := Int.dvd_trans h1 (Int.gcd_dvd_right ..)
 replace ed : d = (G : Int) * d' := ed
 replace ex : x = (G : Int) * x' := ex
 replace ey : y = (G : Int) * y' := ey
 have cop : Int.gcd (Int.gcd x' y' : Int) d' = 1:= by
  have e1 : Int.gcd x y = G * Int.gcd x' y':= by
   have := Int.gcd_mul_left (m := (G : Int)) (n := x') (k := y')
   rw [← ex,← ey] at this; exact this
  have e2 : Int.gcd (Int.gcd x y : Int) d = G * Int.gcd (Int.gcd x' y' : Int) d':= by
   have := Int.gcd_mul_left (m := (G : Int)) (n := (Int.gcd x' y' : Int)) (k := d')
   rw [← ed,← Int.natCast_mul,← e1] at this; exact this
  have e3 : G * Int.gcd (Int.gcd x' y' : Int) d' = G * 1 := by rw [← e2,Nat.mul_one]
  exact Nat.eq_of_mul_eq_mul_left g0 e3
 have hdr : (d : Rat) ≠ 0 := fun h => hd (Rat.intCast_eq_zero_iff.mp h)
 have hGr : ((G : Int) : Rat) ≠ 0 := fun h => by have := Rat.intCast_eq_zero_iff.mp h; omega
 have vx : ∀ z z' : Int,z = (G : Int) * z' → (z' : Rat) = Rat.divInt z d * (d' : Rat) := fun z z' e => by
  rw [Rat.divInt_eq_div]
  have ed' : (d : Rat) = ((G : Int) : Rat) * (d' : Rat) := by rw [← Rat.intCast_mul]; exact congrArg _ ed
  have ez' : (z : Rat) = ((G : Int) : Rat) * (z' : Rat) := by rw [← Rat.intCast_mul]; exact congrArg _ e
  have hd'r : (d' : Rat) ≠ 0 := fun h => hdr (by rw [ed',h]; grind)
  rw [ez',ed']
  grind
 by_cases h : d < 0
 ·have eg : g = -(G : Int) := if_pos h
  have dn : 0 < -d':= by
   rcases Int.lt_or_le d' 0 with z | z
   ·omega
   ·have : 0 ≤ (G : Int) * d' := Int.mul_nonneg (by omega) z
    omega
  obtain ⟨q1,q2,q3⟩ := a2E (x := -x') (y := -y') (d := -d') (a := (Rat.divInt x d,Rat.divInt y d)) dn (by
   have : Int.gcd (-x') (-y') = Int.gcd x' y' := by simp [Int.gcd]
   rw [this]
   have : Int.gcd (Int.gcd x' y' : Int) (-d') = Int.gcd (Int.gcd x' y' : Int) d' := by simp [Int.gcd]
   rw [this]; exact cop) (by rw [Rat.intCast_neg,Rat.intCast_neg,vx x x' ex]; grind) (by rw [Rat.intCast_neg,Rat.intCast_neg,vx y y' ey]; grind)
  rw [eg,← q1,← q2,← q3]
  exact ⟨by omega,K6 (by omega) (by grind),K6 (by omega) (by grind),K6 (by omega) (by grind)⟩
 ·have eg : g = (G : Int) := if_neg h
  have dp : 0 < d':= by
   rcases Int.lt_or_le 0 d' with z | z
   ·exact z
   ·have : (G : Int) * d' ≤ G * 0 := Int.mul_le_mul_of_nonneg_left z (by omega)
    omega
  obtain ⟨q1,q2,q3⟩ := a2E (x := x') (y := y') (d := d') (a := (Rat.divInt x d,Rat.divInt y d)) dp cop (vx x x' ex) (vx y y' ey)
  rw [eg,← q1,← q2,← q3]
  exact ⟨by omega,K6 (by omega) ex,K6 (by omega) ey,K6 (by omega) ed⟩
theorem a6z {k : Nat} {x y d : Int} (hd : d ≠ 0) (h : Bd k d) (hk : k ≤ 8000) : D8 (if d < 0 then -(Int.gcd (Int.gcd x y : Int) d : Int) else (Int.gcd (Int.gcd x y : Int) d : Int)) = true := a6L (a := (Int.gcd x y : Int)) hd h hk
theorem b2I {k : Nat} (x y d : Int) (fs : Option FS) (hd : d ≠ 0) (h : Bd k d) (hk : k ≤ 8000) : FL [.tup [.int x,.int y,.int d]] fs = some (pt (Rat.divInt x d,Rat.divInt y d),fs):= by
 obtain ⟨p0,p1,p2,p3⟩ := a4z x y d hd
 have e := b1R (xs := [x,y,d]) (d := d) fs (show 3 ≤ 10 by decide) (b35 x y d fs) (a9y _ _ _) (a6z (x := x) (y := y) hd h hk)
 unfold pt
 rw [← p1,← p2,← p3]
 exact e
theorem a9W (p q : Rat) : Rat.divInt (p.num * q.den) (p.den * q.den) = p:= by
 rw [Rat.divInt_mul_right (F3 q),Rat.num_divInt_den]
theorem b0L (p q : Rat) : Rat.divInt (q.num * p.den) (p.den * q.den) = q:= by
 rw [Int.mul_comm (p.den : Int),Rat.divInt_mul_right (F3 p),Rat.num_divInt_den]
theorem b3y (a : Pt) : Rat.divInt (pX a) (pL a) = a.1:= by
 rw [Rat.divInt_eq_div,M0,Rat.mul_div_cancel (S6 a)]
theorem b0K (a : Pt) : Rat.divInt (pY a) (pL a) = a.2:= by
 rw [Rat.divInt_eq_div,K9,Rat.mul_div_cancel (S6 a)]
theorem a8R (n : Int) (fs : Option FS) : a1s [.int n] fs = some (.int (a0j n),fs):= by
 refine n8 (s := ⟨[.val (.int n)],fs⟩) ?_
 show a0p ⟨[.val (.int n)],fs⟩ = _
 unfold a0j
 by_cases h1 : 0 < n
 ·simp [a0p,e7,C5,j4,dOp,dUn,dC,dL,dV,i4,l7,dB,j7,c6,a0,a6,i3,m7,dCB,one,m8,m9,dIf,v8,dOr,y0,o6,A3,y8,pIx,t6,t9,l6,k0,k9,u3,m5,u5,A7,dTr,D9,h1]
 ·by_cases h2 : n < 0
  ·simp [a0p,e7,C5,j4,dOp,dUn,dC,dL,dV,i4,l7,dB,j7,c6,a0,a6,i3,m7,dCB,one,m8,m9,dIf,v8,dOr,y0,o6,A3,y8,pIx,t6,t9,l6,k0,k9,u3,m5,u5,A7,dTr,D9,h1,h2]
  ·simp [a0p,e7,C5,j4,dOp,dUn,dC,dL,dV,i4,l7,dB,j7,c6,a0,a6,i3,m7,dCB,one,m8,m9,dIf,v8,dOr,y0,o6,A3,y8,pIx,t6,t9,l6,k0,k9,u3,m5,u5,A7,dTr,D9,h1,h2]
theorem b1b {a b c : Rat} (ha : 0 < a) (hb : 0 < b) (hc : 0 < c) : 0 < a * b * c := Rat.mul_pos (Rat.mul_pos ha hb) hc
theorem a5V {x y : Int} {p q c : Rat} (hc : 0 < c) (hx : (x : Rat) = c * p) (hy : (y : Rat) = c * q) : (x < y ↔ p < q) ∧ (x = y ↔ p = q):= by
 constructor
 ·rw [← Rat.intCast_lt_intCast,hx,hy]; exact Rat.mul_lt_mul_left hc
 ·rw [← Rat.intCast_inj,hx,hy]
  constructor
  ·intro h; have : c ≠ 0 := fun z => by rw [z] at hc; exact absurd hc Rat.lt_irrefl
   grind
  ·intro h; rw [h]
theorem a75 (a b : Pt) : (pX a * pL b < pX b * pL a ↔ a.1 < b.1) ∧ (pX a * pL b = pX b * pL a ↔ a.1 = b.1):=
 a5V (Rat.mul_pos (T8 a) (T8 b)) (by rw [Rat.intCast_mul,M0]; grind) (by rw [Rat.intCast_mul,M0]; grind)
theorem b2u (a b : Pt) : (pY a * pL b < pY b * pL a ↔ a.2 < b.2) ∧ (pY a * pL b = pY b * pL a ↔ a.2 = b.2):=
 a5V (Rat.mul_pos (T8 a) (T8 b)) (by rw [Rat.intCast_mul,K9]; grind) (by rw [Rat.intCast_mul,K9]; grind)
theorem a00 {k : Nat} (a b : Pt) (fs : Option FS) (ha : Ps k a) (hb : Ps k b) (hk : k ≤ 2000) : N2 [pt a,pt b] fs = some (.bl (lsB a b),fs):= by
 have a1 := ha.x.bits (by omega)
 have a2 := ha.y.bits (by omega)
 have a3 := ha.l.bits (by omega)
 have b1 := hb.x.bits (by omega)
 have b2 := hb.y.bits (by omega)
 have b3 := hb.l.bits (by omega)
 obtain ⟨x1,x2⟩ := a75 a b
 obtain ⟨y1,y2⟩ := b2u a b
 refine n8 (s := ⟨[.val (pt a),.val (pt b),.val (.int (pX a * pL b)),.val (.int (pX b * pL a))],fs⟩) ?_
 show a0K ⟨[.val (pt a),.val (pt b),.no,.no],fs⟩ = _
 by_cases h : a.1 = b.1
 ·have h' := x2.mpr h
  have n1 : ¬ a.1 < b.1 := by rw [h]; exact Rat.lt_irrefl
  simp [a0K,e7,C5,j4,dOp,dUn,dC,dL,dV,i4,l7,dB,j7,c6,a0,a6,i3,m7,dCB,one,m8,m9,dIf,v8,dOr,y0,o6,A3,y8,pIx,t6,t9,l6,k0,k9,u3,m5,u5,A7,dTr,D9,pt,a5c,a7D,a6w,k6,a1,a2,a3,b1,b2,b3,a3N,h',lsB,n1,h,y1]
 ·have h' : ¬ pX a * pL b = pX b * pL a := fun z => h (x2.mp z)
  simp [a0K,e7,C5,j4,dOp,dUn,dC,dL,dV,i4,l7,dB,j7,c6,a0,a6,i3,m7,dCB,one,m8,m9,dIf,v8,dOr,y0,o6,A3,y8,pIx,t6,t9,l6,k0,k9,u3,m5,u5,A7,dTr,D9,pt,a5c,a7D,a6w,k6,a1,a2,a3,b1,b2,b3,a3N,h',lsB,h,x1]
theorem a5e (r : Rat) : sgn r = 0 ↔ r = 0:= by
 unfold sgn
 by_cases h : 0 < r
 ·rw [if_pos h]; constructor
  ·intro z; exact absurd z (by decide)
  ·intro z; rw [z] at h; exact absurd h Rat.lt_irrefl
 ·by_cases h2 : r < 0
  ·rw [if_neg h,if_pos h2]; constructor
   ·intro z; exact absurd z (by decide)
   ·intro z; rw [z] at h2; exact absurd h2 Rat.lt_irrefl
  ·rw [if_neg h,if_neg h2]; constructor
   ·intro _; grind
   ·intro _; rfl
end T
namespace DL
open PySem L2
structure Ok (k n : Nat) (d : D) : Prop where
 pl : d.plain = true
 sh : d.py.showable = true
 la : d.py.canLay0 = true
 dp : d.py.depth ≤ k
 le : d.py.leavesShort 1921 = true
 bu : d.py.bulk ≤ n
structure OkL (k n : Nat) (ds : List D) : Prop where
 pl : D.plains ds = true
 sh : PyData.showableAll (D.pys ds) = true
 la : PyData.canLayAll0 (D.pys ds) = true
 dp : PyData.depthAll (D.pys ds) ≤ k
 le : PyData.leavesShortAll 1921 (D.pys ds) = true
 bu : PyData.bulkAll (D.pys ds) ≤ n
theorem Ok.mono {k n k' n' : Nat} {d : D} (h : Ok k n d) (hk : k ≤ k') (hn : n ≤ n') : Ok k' n' d := ⟨h.pl,h.sh,h.la,Nat.le_trans h.dp hk,h.le,Nat.le_trans h.bu hn⟩
theorem OkL.mono {k n k' n' : Nat} {ds : List D} (h : OkL k n ds) (hk : k ≤ k') (hn : n ≤ n') : OkL k' n' ds := ⟨h.pl,h.sh,h.la,Nat.le_trans h.dp hk,h.le,Nat.le_trans h.bu hn⟩
theorem Ok.non : Ok 0 0 .non := ⟨rfl,rfl,rfl,Nat.le_refl _,rfl,Nat.le_refl _⟩
theorem Ok.int {i : Int} (h : Bd 1920 i) : Ok 0 0 (.int i):= by
 have hl : i.natAbs.log2 < 1920 := Y7 (by decide) h
 refine ⟨rfl,?_,rfl,Nat.le_refl _,?_,Nat.le_refl _⟩
 ·simp only [D.py,PyData.showable]; exact decide_eq_true hl
 ·simp only [D.py,PyData.leavesShort,PyData.shown]
  exact decide_eq_true (b2m hl)
theorem Ok.str {x : Str} (h : PyData.strOk x = true) : Ok 0 x.length (.str x):= by
 refine ⟨rfl,rfl,?_,Nat.le_refl _,?_,Nat.le_refl _⟩
 ·simp only [D.py,PyData.canLay0]; exact h
 ·exact PyData.leavesShort_of_canLay0 1921 (.str x) (by simp only [PyData.canLay0]; exact h) rfl
theorem OkL.nil : OkL 0 0 [] := ⟨rfl,rfl,rfl,Nat.le_refl _,rfl,Nat.le_refl _⟩
theorem OkL.cons {k l n m : Nat} {d : D} {ds : List D} (h : Ok k n d) (hs : OkL l m ds) : OkL (max k l) (n + 1 + m) (d :: ds):= by
 refine ⟨?_,?_,?_,?_,?_,?_⟩
 ·simp only [D.plains,h.pl,hs.pl,Bool.and_self]
 ·simp only [D.pys,PyData.showableAll,h.sh,hs.sh,Bool.and_self]
 ·simp only [D.pys,PyData.canLayAll0,h.la,hs.la,Bool.and_self]
 ·have := h.dp; have := hs.dp; simp only [D.pys,PyData.depthAll]; omega
 ·simp only [D.pys,PyData.leavesShortAll,h.le,hs.le,Bool.and_self]
 ·have := h.bu; have := hs.bu; simp only [D.pys,PyData.bulkAll]; omega
theorem Ok.tup {k n : Nat} {ds : List D} (h : OkL k n ds) : Ok (k + 1) n (.tup ds):= by
 refine ⟨?_,?_,?_,?_,?_,?_⟩
 ·simp only [D.plain,h.pl]
 ·simp only [D.py,PyData.showable,h.sh]
 ·simp only [D.py,PyData.canLay0,h.la]
 ·have := h.dp; simp only [D.py,PyData.depth]; omega
 ·simp only [D.py,PyData.leavesShort,h.le]
 ·have := h.bu; simp only [D.py,PyData.bulk]; omega
theorem Ok.lst {k n : Nat} {ds : List D} (h : OkL k n ds) : Ok (k + 1) n (.lst ds):= by
 refine ⟨?_,?_,?_,?_,?_,?_⟩
 ·simp only [D.plain,h.pl]
 ·simp only [D.py,PyData.showable,h.sh]
 ·simp only [D.py,PyData.canLay0,h.la]
 ·have := h.dp; simp only [D.py,PyData.depth]; omega
 ·simp only [D.py,PyData.leavesShort,h.le]
 ·have := h.bu; simp only [D.py,PyData.bulk]; omega
theorem OkL.all {k n : Nat} : ∀ {ds : List D},(∀ d ∈ ds,Ok k n d) → OkL k (ds.length * (n + 1)) ds
 | [],_ => OkL.nil.mono (by omega) (by omega)
 | d :: r,h => by
  have := (OkL.cons (h d (List.mem_cons_self ..)) (OkL.all (ds := r) fun x hx => h x (List.mem_cons_of_mem _ hx)))
  refine this.mono (by omega) ?_
  rw [List.length_cons,Nat.add_mul,Nat.one_mul]; omega
theorem Ok.show {k n : Nat} {d : D} (h : Ok k n d) (hk : k ≤ 64 := by decide) (hn : n ≤ 8000 := by decide) : R5 d = true:= by
 have e := PyData.shown_le_bulk 1921 (by decide) d.py h.le
 have e2 : (1921 + 2) * d.py.bulk ≤ 1923 * 8000 := Nat.mul_le_mul (by decide) (Nat.le_trans h.bu hn)
 have : d.py.shown.length ≤ sizeLine := by rw [sizeLine_eq]; omega
 simp only [R5,h.pl,h.sh,h.la,Bool.true_and,Bool.and_true,decide_eq_true this,decide_eq_true (Nat.le_trans h.dp hk)]
theorem Ok.eq {k n : Nat} {d : D} (h : Ok k n d) (hk : k ≤ 64 := by decide) : u7 d = true:= by
 simp only [u7,h.pl,SeqAt.shaped,h.la,Bool.true_and,decide_eq_true (Nat.le_trans h.dp hk)]
theorem Ok.repr {k n : Nat} {d : D} (h : Ok k n d) (hk : k ≤ 64 := by decide) (hn : n ≤ 8000 := by decide) : P7 d = some (.str d.py.shown) := a96 (h.show hk hn)
theorem Ok.pt {k : Nat} {a : Pt} (h : Ps k a) (hk : k ≤ 1920 := by decide) : Ok 1 3 (pt a) := Ok.tup ((OkL.cons (Ok.int (h.x.mono hk)) (OkL.cons (Ok.int (h.y.mono hk)) (OkL.cons (Ok.int (h.l.mono hk)) OkL.nil))))
theorem b2n (x : Str) : pNe (.str x) (.str x) = some (.bl false) := by rw [b1s]; simp
theorem ixT (ds : List D) (i : Int) : pIx (.tup ds) (.int i) = atI ds i := rfl
theorem ixL (ds : List D) (i : Int) : pIx (.lst ds) (.int i) = atI ds i := rfl
theorem C7 (p : Rat) : pIx (DL.fr p) (.int 0) = some (.int p.num) := rfl
theorem C9 (p : Rat) : pIx (DL.fr p) (.int 1) = some (.int p.den) := rfl
theorem U6 (a : Pt) : pIx (DL.pt a) (.int 0) = some (.int (pX a)) := rfl
theorem S5 (a : Pt) : pIx (DL.pt a) (.int 1) = some (.int (pY a)) := rfl
theorem L5 (a : Pt) : pIx (DL.pt a) (.int 2) = some (.int (pL a)) := rfl
theorem a4a {a b : Pt} (h1 : pX a = pX b) (h2 : pY a = pY b) (h3 : pL a = pL b) : a = b:= by
 have e1 := M0 a; have e2 := M0 b; have e3 := K9 a; have e4 := K9 b
 have n := S6 b
 rw [h1,h3] at e1; rw [h2,h3] at e3
 exact Prod.ext (by grind) (by grind)
theorem a6H {k l : Nat} {a b : Pt} (ha : Ps k a) (hb : Ps l b) (hk : k ≤ 1920 := by decide) (hl : l ≤ 1920 := by decide) : pEq (pt a) (pt b) = some (.bl (decide (a = b))):= by
 have o1 := (Ok.pt ha hk).eq
 have o2 := (Ok.pt hb hl).eq
 unfold pt at *
 simp only [pEq,o1,o2,Bool.and_self,if_true,D.py,D.pys,PyData.eqv,PyData.eqvAll,Bool.beq_eq_decide_eq,Bool.and_true]
 congr 2
 rw [Bool.eq_iff_iff]
 simp only [Bool.and_eq_true,decide_eq_true_iff]
 constructor
 ·rintro ⟨h1,h2,h3⟩; exact a4a h1 h2 h3
 ·rintro rfl; exact ⟨rfl,rfl,rfl⟩
theorem a6F {k l : Nat} {a b : Pt} (ha : Ps k a) (hb : Ps l b) (hk : k ≤ 1920 := by decide) (hl : l ≤ 1920 := by decide) : pNe (pt a) (pt b) = some (.bl (!decide (a = b))):= by
 have o1 := (Ok.pt ha hk).eq
 have o2 := (Ok.pt hb hl).eq
 unfold pt at *
 simp only [pNe,o1,o2,Bool.and_self,if_true,D.py,D.pys,PyData.eqv,PyData.eqvAll,Bool.beq_eq_decide_eq,Bool.and_true]
 congr 3
 rw [Bool.eq_iff_iff]
 simp only [Bool.and_eq_true,decide_eq_true_iff]
 constructor
 ·rintro ⟨h1,h2,h3⟩; exact a4a h1 h2 h3
 ·rintro rfl; exact ⟨rfl,rfl,rfl⟩
def asc (x : Str) : Prop := ∀ c ∈ x.cps.toList,c < 128
section
variable {b b' k k' : Nat}
theorem a85 {x : Str} (h : asc x) : PyData.strOk x = true:= by
 unfold PyData.strOk
 rw [Array.all_eq_true_iff_forall_mem]
 intro c hc
 have := h c (Array.mem_toList_iff.mpr hc)
 exact decide_eq_true (by omega)
end
theorem a5k (ds : List D) (n : Nat) (h : n ≤ ds.length) : F6 ds none (some (n : Int)) = ds.take n:= by
 unfold F6 HT.sIx
 have h1 : ¬ (n : Int) < 0 := by omega
 simp only [h1,if_false,List.drop_zero,Nat.sub_zero,Int.toNat_natCast]
 rw [Nat.min_eq_left h]
theorem a4p (ds : List D) (n : Nat) (h : n ≤ ds.length) : F6 ds (some (n : Int)) none = ds.drop n:= by
 unfold F6 HT.sIx
 have h1 : ¬ (n : Int) < 0 := by omega
 simp only [h1,if_false,Int.toNat_natCast]
 rw [Nat.min_eq_left h]
 exact List.take_of_length_le (by rw [List.length_drop]; omega)
theorem N7 {t : D → DS → Option DS} {b : DM} (P : Nat → DS → Prop) : ∀ (ds : List D) (n : Nat) (s : DS),P n s → (∀ i d s,ds[i]? = some d → P (n + i) s → ∃ s1 s2,t d s = some s1 ∧ (b s1 = some (.next,s2) ∨ b s1 = some (.cont,s2)) ∧ P (n + i + 1) s2) →
  ∃ s',A6 t b ds s = some (.next,s') ∧ P (n + ds.length) s'
 | [],n,s,h,_ => ⟨s,rfl,h⟩
 | d :: r,n,s,h,k => by
  obtain ⟨s1,s2,e1,e2,h2⟩ := k 0 d s rfl h
  obtain ⟨s',e3,h3⟩ := N7 P r (n + 1) s2 h2 (fun i d' s hd hp => by
   have := k (i + 1) d' s (by simpa using hd) (by rwa [show n + 1 + i = n + (i + 1) by omega] at hp)
   rwa [show n + (i + 1) + 1 = n + 1 + i + 1 by omega] at this)
  refine ⟨s',?_,by rw [List.length_cons,show n + (r.length + 1) = n + 1 + r.length by omega]; exact h3⟩
  rw [A6,e1]
  rcases e2 with e2 | e2 <;> simp [e2,e3]
theorem T1 {f : DA} {t : D → DS → Option DS} {b : DM} {s s1 : DS} {xs ds : List D} (h1 : f s = some (xs,s1)) (h2 : L4 xs = some ds) : J7 f t b s = A6 t b ds s1:= by
 simp only [J7,h1,Option.bind_some,h2]
theorem b3G {f : DE} {t : D → DS → Option DS} {b : DM} {s s1 : DS} {ds : List D} (h1 : f s = some (.lst ds,s1)) : P8 f t b s = A6 t b ds s1:= by
 simp only [P8,h1,Option.bind_some]
theorem a1K {f : DE} {t : D → DS → Option DS} {b : DM} {s s1 : DS} {ds : List D} (h1 : f s = some (.tup ds,s1)) : P8 f t b s = A6 t b ds s1:= by
 simp only [P8,h1,Option.bind_some]
theorem Q3 {lo : Int} {n i : Nat} {d : D} (h : (ups lo n)[i]? = some d) : d = .int (lo + i) ∧ i < n:= by
 have hi : i < n := by have := (List.getElem?_eq_some_iff.mp h).1; rwa [J3] at this
 rw [a1p hi] at h
 cases h
 exact ⟨rfl,hi⟩
theorem V2 {n : Nat} (h : n < 2 ^ 30) : L4 [.int (n : Int)] = some (ups 0 n):= by
 have : -(2 ^ 62) ≤ (n : Int) ∧ (n : Int) < 2 ^ 62 := by omega
 simp only [L4,if_pos this,Int.toNat_natCast]
end DL
namespace T
open PySem L2 DL
structure PtS (k : Nat) (a : Pt) : Prop where
 x : Sz k a.1
 y : Sz k a.2
theorem PtS.ps {k : Nat} {a : Pt} (h : PtS k a) : Ps (k + k) a := Ps.of h.x h.y
theorem PtS.mono {k l : Nat} {a : Pt} (h : PtS k a) (hl : k ≤ l) : PtS l a := ⟨h.x.mono hl,h.y.mono hl⟩
theorem b2g {x : Str} (h : x.cps.toList.all (fun c => decide (c < 128)) = true) : asc x := fun c hc => of_decide_eq_true (List.all_eq_true.mp h c hc)
end T
namespace DL
open PySem L2
theorem a3n {idx : List Nat} {fe : DE} {g : D → D} (caps : List Sl) (fs : Option FS) : ∀ (ds : List D),(∀ d ∈ ds,∃ s,fe ⟨.val d :: caps,fs⟩ = some (g d,s) ∧ s.fs = fs) → B9 (fun d => some (.val d :: caps)) B4 fe ds fs = some (ds.map g,fs)
 | [],_ => rfl
 | d :: r,h => by
  obtain ⟨s,e,q⟩ := h d (List.mem_cons_self ..)
  have ih := a3n (idx := idx) caps fs r fun x hx => h x (List.mem_cons_of_mem _ hx)
  simp [B9,B4,e,q,ih]
def nbs {α : Type} (c : Bool) (l : List α) : List (α × α) := l.zip (if c then l.drop 1 ++ l.take 1 else l.drop 1)
def pr2 (p : D × D) : D := .tup [p.1,p.2]
theorem a9Q {x y d : Int} (hd : 1 ≤ d) (hg : Int.gcd (Int.gcd x y : Int) d = 1) : D.tup [.int x,.int y,.int d] = pt (Rat.divInt x d,Rat.divInt y d):= by
 have hdr : (d : Rat) ≠ 0 := fun h => by have := Rat.intCast_eq_zero_iff.mp h; omega
 have v : ∀ z : Int,(z : Rat) = Rat.divInt z d * (d : Rat) := fun z => by rw [Rat.divInt_eq_div,Rat.div_mul_cancel hdr]
 obtain ⟨q1,q2,q3⟩ := a2E (a := (Rat.divInt x d,Rat.divInt y d)) (by omega) hg (v x) (v y)
 unfold pt
 rw [← q1,← q2,← q3]
theorem a4w {α β : Type} (f : α → β) (c : Bool) (l : List α) : nbs c (l.map f) = (nbs c l).map fun p => (f p.1,f p.2):= by
 unfold nbs
 cases c
 ·simp only [Bool.false_eq_true,if_false]
  rw [← List.map_drop,List.zip_map]; rfl
 ·simp only [if_true]
  rw [← List.map_drop,← List.map_take,← List.map_append,List.zip_map]; rfl
theorem a2x {α : Type} (c : Bool) (l : List α) : (nbs c l).length ≤ l.length:= by
 unfold nbs
 rw [List.length_zip]
 exact Nat.min_le_left ..
theorem b0f {α : Type} {c : Bool} {l : List α} {p : α × α} (h : p ∈ nbs c l) : p.1 ∈ l ∧ p.2 ∈ l:= by
 unfold nbs at h
 obtain ⟨h1,h2⟩ := List.of_mem_zip (a := p.1) (b := p.2) h
 refine ⟨h1,?_⟩
 cases c
 ·simp only [Bool.false_eq_true,if_false] at h2
  exact List.mem_of_mem_drop h2
 ·simp only [if_true] at h2
  rcases List.mem_append.mp h2 with h | h
  ·exact List.mem_of_mem_drop h
  ·exact List.mem_of_mem_take h
theorem a1R : ∀ (xs ys : List D),List.zipWith a0n xs ys = (xs.zip ys).map pr2
 | [],_ => by simp
 | _ :: _,[] => by simp
 | x :: xs,y :: ys => by
  rw [List.zipWith_cons_cons,List.zip_cons_cons,List.map_cons,a1R xs ys]
  rfl
def lo (c : Bool) : Nat := if c then 3 else 2
def hi (c : Bool) : Nat := if c then 8 else 9
theorem a4J (ds : List D) : F6 ds (some 1) none = ds.drop 1:= by
 cases ds with
 | nil => rfl
 | cons d r => exact a4p (d :: r) 1 (by simp)
theorem b4h (ds : List D) : F6 ds none (some 1) = ds.take 1:= by
 cases ds with
 | nil => rfl
 | cons d r => exact a5k (d :: r) 1 (by simp)
end DL
namespace T
open PySem L2 DL
theorem b4j (ds : List D) (c : Bool) (fs : Option FS) (hl : ds.length + 1 ≤ sizeLine) : Y4 [.tup ds,.bl c] fs = some (.lst ((nbs c ds).map pr2),fs):= by
 refine n8 (s := ⟨[.val (.tup ds),.val (.bl c)],fs⟩) ?_
 show a0y ⟨[.val (.tup ds),.val (.bl c)],fs⟩ = _
 have h1 : ds.length - 1 + min 1 ds.length ≤ sizeLine := by omega
 cases c
 ·simp [a0y,e7,C5,j4,dOp,dUn,dC,dL,dV,i4,l7,dB,j7,c6,a0,a6,i3,m7,dCB,one,m8,m9,dIf,v8,dOr,y0,o6,A3,y8,t6,t9,l6,k0,k9,u3,m5,u5,A7,dTr,D9,ixT,ixL,C7,C9,U6,S5,L5,dSl,dAt,dNo,dCF,X4,U5,a4J,nbs,a1R]
 ·simp [a0y,e7,C5,j4,dOp,dUn,dC,dL,dV,i4,l7,dB,j7,c6,a0,a6,i3,m7,dCB,one,m8,m9,dIf,v8,dOr,y0,o6,A3,y8,t6,t9,l6,k0,k9,u3,m5,u5,A7,dTr,D9,ixT,ixL,C7,C9,U6,S5,L5,dSl,dAt,dNo,dCF,X4,U5,a4J,b4h,nbs,a1R,h1]
abbrev FPc : DFn := a1G Y4
theorem b1P (ds : List D) (c : Bool) (fs : Option FS) (hl : ds.length + 1 ≤ sizeLine) : FPc [.tup [.bl c,.tup ds]] fs = some (.tup ((nbs c ds).map pr2),fs):= by
 refine n8 (s := ⟨[.val (.tup [.bl c,.tup ds])],fs⟩) ?_
 show a38 Y4 ⟨[.val (.tup [.bl c,.tup ds])],fs⟩ = _
 have e := b4j ds c fs hl
 simp [a38,e7,C5,j4,dOp,dUn,dC,dL,dV,i4,l7,dB,j7,c6,a0,a6,i3,m7,dCB,one,m8,m9,dIf,v8,dOr,y0,o6,A3,y8,t6,t9,l6,k0,k9,u3,m5,u5,A7,dTr,D9,ixT,ixL,C7,C9,U6,S5,L5,b0I,b2Z,e,J5]
end T
namespace DL
open PySem L2
theorem tg0 (f : FS) (h : f.kind = 1) : f.tget 0 = some (.lst (f.cells.map .int)) := by unfold FS.tget; rw [if_neg (by omega),if_pos rfl]
end DL
namespace T
open PySem L2 DL
theorem U4 {a b : Int} (h : b ≠ 0) : y7 (.int a) (.int b) = some (.int (a.fmod b)) := if_pos h
theorem a2u {a b : Int} (h : D8 b = true) : F1 (.int a) (.int b) = some (.int (a.fdiv b)) := if_pos h
theorem a7E {i : Nat} {k n : Int} {f : DE} {s s1 : DS} {z : Fl × DS} (h : f s = some (.int n,s1)) (h2 : dTP i k (fun _ => some (.int n,s1)) s = some z) : dTP i k f s = some z:= by
 rw [← h2]
 unfold dTP
 rw [h]
abbrev LDw : DFn := G8
set_option maxHeartbeats 4000000 in
theorem b3W (f : FS) (many : Int) (hm : 0 < many) (hm2 : many < 2 ^ 100) (ht : 0 ≤ f.pos) (ht2 : f.pos < 2 ^ 40) (hk : f.kind = 1) :
  ∃ r f',LDw [.feed,.int many] (some f) = some (.int r,some f') ∧ 0 ≤ r ∧ r < many ∧ f.pos ≤ f'.pos ∧ f'.pos ≤ f.pos + 1 ∧ f'.kind = 1:= by
 have dm : D8 many = true := a9l (by omega) (by omega)
 have hne : many ≠ 0 := by omega
 obtain ⟨cs,ps,lf,tn,kd⟩ := f
 simp only at ht ht2 hk ⊢
 subst hk
 by_cases hl : 0 < lf
 ·refine ⟨lf.fmod many,⟨cs,ps,lf.fdiv many,tn,1⟩,n8 (s := ⟨[.val .feed,.val (.int many),.val (.int (lf.fmod many)),.no,.no,.no],some ⟨cs,ps,lf.fdiv many,tn,1⟩⟩) ?_,(M1 hm).1,(M1 hm).2,Int.le_refl _,Int.le_of_lt (Int.lt_succ _),rfl⟩
  have t0 : dB (dOp (k0 (fun i j => decide (j < i))) (dTG 0 2) (dC (.int 0))) ⟨[.val .feed,.val (.int many),.no,.no,.no,.no],some ⟨cs,ps,lf,tn,1⟩⟩ = some (true,⟨[.val .feed,.val (.int many),.no,.no,.no,.no],some ⟨cs,ps,lf,tn,1⟩⟩) := t7 (a8 rfl rfl (show some (D.bl (decide (0 < lf))) = _ by rw [decide_eq_true hl]))
  have e1 : dOp y7 (dTG 0 2) (dL 1) ⟨[.val .feed,.val (.int many),.no,.no,.no,.no],some ⟨cs,ps,lf,tn,1⟩⟩ = some (.int (lf.fmod many),⟨[.val .feed,.val (.int many),.no,.no,.no,.no],some ⟨cs,ps,lf,tn,1⟩⟩) := a8 rfl rfl (U4 hne)
  have e2 : dOp F1 (dTG 0 2) (dL 1) ⟨[.val .feed,.val (.int many),.val (.int (lf.fmod many)),.no,.no,.no],some ⟨cs,ps,lf,tn,1⟩⟩ = some (.int (lf.fdiv many),⟨[.val .feed,.val (.int many),.val (.int (lf.fmod many)),.no,.no,.no],some ⟨cs,ps,lf,tn,1⟩⟩) := a8 rfl rfl (a2u dm)
  show S3 ⟨[.val .feed,.val (.int many),.no,.no,.no,.no],some ⟨cs,ps,lf,tn,1⟩⟩ = _
  unfold S3
  refine G3 ?_
  rw [C6 t0,i9 (s1 := ⟨[.val .feed,.val (.int many),.val (.int (lf.fmod many)),.no,.no,.no],some ⟨cs,ps,lf,tn,1⟩⟩) (l5 e1 rfl),i9 (s1 := ⟨[.val .feed,.val (.int many),.val (.int (lf.fmod many)),.no,.no,.no],some ⟨cs,ps,lf.fdiv many,tn,1⟩⟩) (a7E e2 rfl)]
  exact m6 rfl
 ·have cell : ∃ c : Int,∀ a b : Sl,l7 (dB (dOp (k0 (fun i j => decide (j < i))) (dCB (one k9) (a0 (dTG 0 0) a6)) (dC (.int 0)))) (j4 (dOp pIx (dTG 0 0) (dOp y7 (dL 3) (dCB (one k9) (a0 (dTG 0 0) a6)))) (i4 4)) m7 ⟨[.val .feed,a,.no,.val (.int ps),.val (.int 0),b],some ⟨cs,ps + 1,lf,tn,1⟩⟩ =
    some (.next,⟨[.val .feed,a,.no,.val (.int ps),.val (.int c),b],some ⟨cs,ps + 1,lf,tn,1⟩⟩):= by
   by_cases hc : 0 < cs.length
   ·have hi := M1 (a := ps) (b := (cs.length : Int)) (by omega)
    obtain ⟨c,hg⟩ : ∃ c : Int,atI (cs.map D.int) (ps.fmod (cs.length : Int)) = some (.int c):= by
     have : (ps.fmod (cs.length : Int)).toNat < cs.length := by omega
     refine ⟨cs[(ps.fmod (cs.length : Int)).toNat],?_⟩
     rw [a3f hi.1 (by rw [List.length_map]; exact hi.2),List.getElem?_map,List.getElem?_eq_getElem this]
     rfl
    refine ⟨c,fun a b => ?_⟩
    have hn : cs ≠ [] := by intro z; rw [z] at hc; simp at hc
    simp [l7,j4,i4,dB,dOp,dCB,one,k9,a0,a6,dL,dC,k0,dTG,tg0,y7,pIx,hn,hc,hg]
   ·refine ⟨0,fun a b => ?_⟩
    have hz : cs = [] := List.eq_nil_of_length_eq_zero (by omega)
    subst hz
    simp [l7,m7,dB,dOp,dCB,one,k9,a0,a6,dL,dC,k0,dTG,tg0]
  obtain ⟨c,hcell⟩ := cell
  have hc1 := M1 (a := c) (b := 1000033) (by decide)
  have t0 : dB (dOp (k0 (fun i j => decide (j < i))) (dTG 0 2) (dC (.int 0))) ⟨[.val .feed,.val (.int many),.no,.no,.no,.no],some ⟨cs,ps,lf,tn,1⟩⟩ = some (false,⟨[.val .feed,.val (.int many),.no,.no,.no,.no],some ⟨cs,ps,lf,tn,1⟩⟩) := t7 (a8 rfl rfl (show some (D.bl (decide (0 < lf))) = _ by rw [decide_eq_false hl]))
  have pre : ∀ rest : DM,e7 (l7 (dB (dOp (k0 (fun i j => decide (j < i))) (dTG 0 2) (dC (.int 0)))) (e7 (j4 (dOp y7 (dTG 0 2) (dL 1)) (i4 2)) (e7 (dTP 0 2 (dOp F1 (dTG 0 2) (dL 1))) (j7 (dV 2)))) m7) (e7 (j4 (dTG 0 1) (i4 3)) (e7 (dTP 0 1 (dOp t6 (dL 3) (dC (.int 1)))) (e7 (j4 (dC (.int 0)) (i4 4)) (e7 (l7 (dB (dOp (k0 (fun i j => decide (j < i))) (dCB (one k9) (a0 (dTG 0 0) a6)) (dC (.int 0)))) (j4 (dOp pIx (dTG 0 0) (dOp y7 (dL 3) (dCB (one k9) (a0 (dTG 0 0) a6)))) (i4 4)) m7) rest))))
    ⟨[.val .feed,.val (.int many),.no,.no,.no,.no],some ⟨cs,ps,lf,tn,1⟩⟩ = rest ⟨[.val .feed,.val (.int many),.no,.val (.int ps),.val (.int c),.no],some ⟨cs,ps + 1,lf,tn,1⟩⟩ := fun rest => by
   rw [i9 (s1 := ⟨[.val .feed,.val (.int many),.no,.no,.no,.no],some ⟨cs,ps,lf,tn,1⟩⟩) (K2 t0)]
   rw [i9 (s1 := ⟨[.val .feed,.val (.int many),.no,.val (.int ps),.no,.no],some ⟨cs,ps,lf,tn,1⟩⟩) rfl]
   rw [i9 (s1 := ⟨[.val .feed,.val (.int many),.no,.val (.int ps),.no,.no],some ⟨cs,ps + 1,lf,tn,1⟩⟩) rfl]
   rw [i9 (s1 := ⟨[.val .feed,.val (.int many),.no,.val (.int ps),.val (.int 0),.no],some ⟨cs,ps + 1,lf,tn,1⟩⟩) rfl]
   rw [i9 (hcell _ _)]
  have test : v8 (dB (dOp (k0 (fun i j => decide (j ≤ i))) (dL 4) (dOp J4 (dC (.int 10)) (dC (.int 18))))) (dB (dOp (k0 (fun i j => decide (i < j))) (dL 3) (dCB (one k9) (a0 (dTG 0 0) a6)))) ⟨[.val .feed,.val (.int many),.no,.val (.int ps),.val (.int c),.no],some ⟨cs,ps + 1,lf,tn,1⟩⟩ =
    some (decide (1000000000000000000 ≤ c) && decide (ps < (cs.length : Int)),⟨[.val .feed,.val (.int many),.no,.val (.int ps),.val (.int c),.no],some ⟨cs,ps + 1,lf,tn,1⟩⟩):= by
   have p18 : J4 (.int 10) (.int 18) = some (.int 1000000000000000000) := by simp [J4]
   have t1 : dB (dOp (k0 (fun i j => decide (j ≤ i))) (dL 4) (dOp J4 (dC (.int 10)) (dC (.int 18)))) ⟨[.val .feed,.val (.int many),.no,.val (.int ps),.val (.int c),.no],some ⟨cs,ps + 1,lf,tn,1⟩⟩ = some (decide (1000000000000000000 ≤ c),⟨[.val .feed,.val (.int many),.no,.val (.int ps),.val (.int c),.no],some ⟨cs,ps + 1,lf,tn,1⟩⟩) := t7 (a8 rfl (a8 rfl rfl p18) rfl)
   have t2 : dB (dOp (k0 (fun i j => decide (i < j))) (dL 3) (dCB (one k9) (a0 (dTG 0 0) a6))) ⟨[.val .feed,.val (.int many),.no,.val (.int ps),.val (.int c),.no],some ⟨cs,ps + 1,lf,tn,1⟩⟩ = some (decide (ps < ((cs.map D.int).length : Int)),⟨[.val .feed,.val (.int many),.no,.val (.int ps),.val (.int c),.no],some ⟨cs,ps + 1,lf,tn,1⟩⟩) := t7 (a8 rfl (B1 (p := k9) rfl rfl) rfl)
   rw [List.length_map] at t2
   cases h1 : decide (1000000000000000000 ≤ c) with
   | true=>
    rw [h1] at t1
    exact Q7 t1 t2
   | false=>
    rw [h1] at t1
    exact Z6 t1
  by_cases hb : (decide (1000000000000000000 ≤ c) && decide (ps < (cs.length : Int))) = true
  ·refine ⟨c.fmod many,⟨cs,ps + 1,c.fdiv many,tn,1⟩,n8 (s := ⟨[.val .feed,.val (.int many),.no,.val (.int ps),.val (.int c),.no],some ⟨cs,ps + 1,c.fdiv many,tn,1⟩⟩) ?_,(M1 hm).1,(M1 hm).2,by simp; omega,by simp,rfl⟩
   show S3 ⟨[.val .feed,.val (.int many),.no,.no,.no,.no],some ⟨cs,ps,lf,tn,1⟩⟩ = _
   unfold S3
   rw [pre]
   rw [hb] at test
   refine G3 ?_
   rw [C6 test]
   rw [i9 (s1 := ⟨[.val .feed,.val (.int many),.no,.val (.int ps),.val (.int c),.no],some ⟨cs,ps + 1,c.fdiv many,tn,1⟩⟩) (a7E (a8 (s1 := ⟨[.val .feed,.val (.int many),.no,.val (.int ps),.val (.int c),.no],some ⟨cs,ps + 1,lf,tn,1⟩⟩) rfl rfl (a2u dm)) rfl)]
   exact m6 (a8 rfl rfl (U4 hne))
  ·have hb' : (decide (1000000000000000000 ≤ c) && decide (ps < (cs.length : Int))) = false := by simpa using hb
   have q : ∃ M : Int,j4 (dOp y7 (dOp k6 (dOp t6 (dOp t6 (dOp y7 (dL 4) (dC (.int 1000033))) (dOp k6 (dOp k6 (dC (.int 37)) (dL 3)) (dL 3))) (dC (.int 11))) (dC (.int 69621))) (dC (.int 999983))) (i4 5)
     ⟨[.val .feed,.val (.int many),.no,.val (.int ps),.val (.int c),.no],some ⟨cs,ps + 1,lf,tn,1⟩⟩ = some (.next,⟨[.val .feed,.val (.int many),.no,.val (.int ps),.val (.int c),.val (.int M)],some ⟨cs,ps + 1,lf,tn,1⟩⟩) ∧ 0 ≤ M ∧ M < 999983:= by
    have b1 : v7 37 = true := by decide
    have b2 : v7 ps = true := U9 (by omega)
    have b3 : v7 (37 * ps) = true := U9 (by omega)
    have p2 : 0 ≤ 37 * ps * ps := Int.mul_nonneg (by omega) (by omega)
    have p3 : 37 * ps * ps ≤ 37 * 2 ^ 40 * 2 ^ 40 := Int.mul_le_mul (by omega) (by omega) (by omega) (by decide)
    have b4 : v7 (c.fmod 1000033 + 37 * ps * ps + 11) = true := U9 (by omega)
    have b5 : v7 69621 = true := by decide
    refine ⟨((c.fmod 1000033 + 37 * ps * ps + 11) * 69621).fmod 999983,?_,M1 (by decide)⟩
    exact l5 (a8 (a8 (a8 (a8 (a8 rfl rfl (U4 (by decide))) (a8 (a8 rfl rfl (p9 b1 b2)) rfl (p9 b3 b2)) rfl) rfl rfl) rfl (p9 b4 b5)) rfl (U4 (by decide))) rfl
   obtain ⟨M,e1,m1,m2⟩ := q
   have b7 : v7 M = true := U9 (by omega)
   have b8 : v7 48271 = true := by decide
   have b9 : v7 6007 = true := by decide
   have b10 : v7 ps = true := U9 (by omega)
   have r1 := M1 (a := M * 48271 + ps * 6007) (b := 999979) (by decide)
   have b11 : v7 ((M * 48271 + ps * 6007).fmod 999979) = true := U9 (by omega)
   have b12 : v7 40692 = true := by decide
   have d64 : D8 64 = true := by decide
   refine ⟨((((M * 48271 + ps * 6007).fmod 999979 * 40692).fmod 1048573).fdiv 64).fmod many,⟨cs,ps + 1,lf,tn,1⟩,n8 (s := ⟨[.val .feed,.val (.int many),.no,.val (.int ps),.val (.int c),.val (.int M)],some ⟨cs,ps + 1,lf,tn,1⟩⟩) ?_,(M1 hm).1,(M1 hm).2,by simp; omega,by simp,rfl⟩
   show S3 ⟨[.val .feed,.val (.int many),.no,.no,.no,.no],some ⟨cs,ps,lf,tn,1⟩⟩ = _
   unfold S3
   rw [pre]
   rw [hb'] at test
   rw [i9 (by rw [L9 test]; rfl)]
   rw [i9 e1]
   exact m6 (a8 (a8 (a8 (a8 (a8 (a8 (a8 rfl rfl (p9 b7 b8)) (a8 rfl rfl (p9 b10 b9)) rfl) rfl (U4 (by decide))) rfl (p9 b11 b12)) rfl (U4 (by decide))) rfl (a2u d64)) rfl (U4 hne))
def Fd3 (n : Nat) (f : FS) : Prop := 0 ≤ f.pos ∧ f.pos ≤ n ∧ f.kind = 1
theorem Fd3.mono {n m : Nat} {f : FS} (h : Fd3 n f) (hm : n ≤ m) : Fd3 m f := ⟨h.1,by have := h.2.1; omega,h.2.2⟩
theorem B7 {n : Nat} {f : FS} (many : Int) (h : Fd3 n f) (hm : 0 < many := by omega) (hn : n < 2 ^ 30 := by omega) (hm2 : many < 2 ^ 100 := by omega) :
  ∃ r f',LDw [.feed,.int many] (some f) = some (.int r,some f') ∧ 0 ≤ r ∧ r < many ∧ Fd3 (n + 1) f':= by
 obtain ⟨r,f',e,h0,h1,h2,h3,h4⟩ := b3W f many hm hm2 h.1 (by have := h.2.1; omega) h.2.2
 exact ⟨r,f',e,h0,h1,by have := h.1; omega,by have := h.2.1; omega,h4⟩
theorem b0X (ns : List Int) : P4 [.scr ns] none = some (.feed,some ⟨ns,0,0,0,1⟩):= by
 refine n8 (s := ⟨[.val (.scr ns)],some ⟨ns,0,0,0,1⟩⟩) ?_
 show a4d ⟨[.val (.scr ns)],none⟩ = _
 simp [a4d,j7,dTN]
theorem Fd3.zero (ns : List Int) : Fd3 0 ⟨ns,0,0,0,1⟩ := ⟨by simp,by simp,rfl⟩
abbrev wgT : DT := dB (dOp (k0 (fun i j => decide (j < i))) (dL 1) (dC (.int 0)))
abbrev wgB : DM := A7 0 1 (a0 (dV 1) (a0 (dOp y7 (dL 0) (dL 1)) a6))
theorem b0y (fs : Option FS) (r : Nat) : ∀ (g : Nat),G4 wgT wgB ⟨[.val (.int g),.val (.int r)],fs⟩ = some (.next,⟨[.val (.int (Nat.gcd g r)),.val (.int 0)],fs⟩):= by
 induction r using Nat.strongRecOn with
 | ind r ih=>
  intro g
  by_cases h : r = 0
  ·subst h
   rw [Nat.gcd_zero_right]
   exact a46 (by simp [e7,C5,j4,dOp,dUn,dC,dL,dV,i4,l7,dB,j7,c6,a0,a6,i3,m7,dCB,one,m8,m9,dIf,v8,dOr,y0,o6,A3,y8,pIx,t6,t9,l6,k0,k9,u3,m5,u5,A7,dTr,D9])
  ·have e : ((g : Int).fmod (r : Int)) = ((g % r : Nat) : Int) := by rw [Int.fmod_eq_emod_of_nonneg _ (by omega)]; rfl
   have hy := ih (g % r) (Nat.mod_lt _ (by omega)) r
   have hg : Nat.gcd g r = Nat.gcd r (g % r) := by rw [Nat.gcd_comm g r,Nat.gcd_rec,Nat.gcd_comm]
   rw [hg]
   refine a45 (s1 := ⟨[.val (.int g),.val (.int r)],fs⟩) (s2 := ⟨[.val (.int r),.val (.int ((g % r : Nat) : Int))],fs⟩) (by simp [e7,C5,j4,dOp,dUn,dC,dL,dV,i4,l7,dB,j7,c6,a0,a6,i3,m7,dCB,one,m8,m9,dIf,v8,dOr,y0,o6,A3,y8,pIx,t6,t9,l6,k0,k9,u3,m5,u5,A7,dTr,D9]; omega) ?_ hy
   rw [← e]
   simp [A7,a0,a6,dV,dOp,dL,y7,h]
abbrev LGd : DFn := u6
theorem a2k (a b : Int) (fs : Option FS) : LGd [.int a,.int b] fs = some (.int (Int.gcd a b),fs):= by
 have hy := b0y fs b.natAbs a.natAbs
 refine n8 (s := ⟨[.val (.int (Nat.gcd a.natAbs b.natAbs)),.val (.int 0)],fs⟩) ?_
 show a1v ⟨[.val (.int a),.val (.int b)],fs⟩ = _
 unfold a1v
 rw [i9 (s1 := ⟨[.val (.int a.natAbs),.val (.int b.natAbs)],fs⟩) (by simp [e7,C5,j4,dOp,dUn,dC,dL,dV,i4,l7,dB,j7,c6,a0,a6,i3,m7,dCB,one,m8,m9,dIf,v8,dOr,y0,o6,A3,y8,pIx,t6,t9,l6,k0,k9,u3,m5,u5,A7,dTr,D9,S0,a3k])]
 rw [i9 hy]
 refine m6 ?_
 simp [dV,Int.gcd]
abbrev LLw : DFn := w6 LGd
theorem P9 {k : Nat} (a b : Int) (fs : Option FS) (hb : b ≠ 0) (h : Bd k b) (hk : k ≤ 8000) : LLw [.int a,.int b] fs = some (fr (Rat.divInt a b),fs):= by
 obtain ⟨p0,p1,p2⟩ := b2x a b hb
 have dg := a6L (a := a) hb h hk
 have e := a2k a b fs
 refine n8 (s := ⟨[.val (.int a),.val (.int b),.val (.int (if b < 0 then -(Int.gcd a b : Int) else (Int.gcd a b : Int)))],fs⟩) ?_
 show a3g LGd ⟨[.val (.int a),.val (.int b),.no],fs⟩ = _
 unfold a3g
 rw [i9 (s1 := ⟨[.val (.int a),.val (.int b),.val (.int (Int.gcd a b))],fs⟩) (by simp [e7,C5,j4,dOp,dUn,dC,dL,dV,i4,l7,dB,j7,c6,a0,a6,i3,m7,dCB,one,m8,m9,dIf,v8,dOr,y0,o6,A3,y8,pIx,t6,t9,l6,k0,k9,u3,m5,u5,A7,dTr,D9,e])]
 rw [i9 (s1 := ⟨[.val (.int a),.val (.int b),.val (.int (if b < 0 then -(Int.gcd a b : Int) else (Int.gcd a b : Int)))],fs⟩) (by
  by_cases nb : b < 0
  ·simp [e7,C5,j4,dOp,dUn,dC,dL,dV,i4,l7,dB,j7,c6,a0,a6,i3,m7,dCB,one,m8,m9,dIf,v8,dOr,y0,o6,A3,y8,pIx,t6,t9,l6,k0,k9,u3,m5,u5,A7,dTr,D9,nb]
  ·simp [e7,C5,j4,dOp,dUn,dC,dL,dV,i4,l7,dB,j7,c6,a0,a6,i3,m7,dCB,one,m8,m9,dIf,v8,dOr,y0,o6,A3,y8,pIx,t6,t9,l6,k0,k9,u3,m5,u5,A7,dTr,D9,nb])]
 generalize hg : (if b < 0 then -(Int.gcd a b : Int) else (Int.gcd a b : Int)) = gg at *
 refine m6 ?_
 unfold fr
 rw [← p1,← p2]
 simp [e7,C5,j4,dOp,dUn,dC,dL,dV,i4,l7,dB,j7,c6,a0,a6,i3,m7,dCB,one,m8,m9,dIf,v8,dOr,y0,o6,A3,y8,pIx,t6,t9,l6,k0,k9,u3,m5,u5,A7,dTr,D9,F1,dg,sz2]
end T
namespace DL
open PySem L2
theorem N6 {α : Type} (c : Bool) (l : List α) : (nbs c l).length = l.length - 1 + (if c then min 1 l.length else 0):= by
 unfold nbs
 cases c
 ·show (l.zip (l.drop 1)).length = l.length - 1 + 0
  rw [List.length_zip,List.length_drop,Nat.min_eq_right (Nat.sub_le ..)]
  rfl
 ·show (l.zip (l.drop 1 ++ l.take 1)).length = l.length - 1 + min 1 l.length
  rw [List.length_zip,List.length_append,List.length_drop,List.length_take]
  exact Nat.min_eq_right (by omega)
theorem a0t {α : Type} {c : Bool} {l : List α} {j : Nat} (h : j < (nbs c l).length) : ∃ a b,l[j]? = some a ∧ l[(j + 1) % l.length]? = some b ∧ (nbs c l)[j]? = some (a,b):= by
 have hl := N6 c l
 have hj : j < l.length := Nat.lt_of_lt_of_le h (a2x c l)
 cases hq : (nbs c l)[j]? with
 | none => rw [List.getElem?_eq_none_iff] at hq; omega
 | some p=>
  obtain ⟨h1,h2⟩ := List.getElem?_zip_eq_some.mp (show (l.zip (if c then l.drop 1 ++ l.take 1 else l.drop 1))[j]? = some p from hq)
  refine ⟨p.1,p.2,h1,?_,rfl⟩
  cases c
  ·simp only [Bool.false_eq_true,if_false] at h2 hl
   rw [List.getElem?_drop] at h2
   rw [Nat.mod_eq_of_lt (by omega),Nat.add_comm]
   exact h2
  ·simp only [if_true] at h2 hl
   by_cases hz : j + 1 < l.length
   ·rw [List.getElem?_append_left (by rw [List.length_drop]; omega),List.getElem?_drop] at h2
    rw [Nat.mod_eq_of_lt hz,Nat.add_comm]
    exact h2
   ·have e : j + 1 = l.length := by omega
    rw [List.getElem?_append_right (by rw [List.length_drop]; omega),List.length_drop,show j - (l.length - 1) = 0 by omega,List.getElem?_take] at h2
    rw [e,Nat.mod_self]
    simpa using h2
theorem atN {α : Type} {xs : List α} {i : Nat} {x : α} (h : xs[i]? = some x) : atI xs (i : Int) = some x:= by
 have hi := (List.getElem?_eq_some_iff.mp h).1
 rw [a3f (by omega) (by omega)]
 simpa using h
theorem a0C {α : Type} {xs : List α} {x : α} (h : xs[xs.length - 1]? = some x) : atI xs (-1) = some x:= by
 have hi := (List.getElem?_eq_some_iff.mp h).1
 unfold atI ixN
 rw [if_neg (by omega),if_pos (by omega)]
 show xs[_]? = _
 rw [show ((-1 : Int) + xs.length).toNat = xs.length - 1 by omega]
 exact h
def b0B (w : Rat × Rat × Rat) : D := .lst [fr w.1,fr w.2.1,fr w.2.2]
end DL
namespace T
open PySem L2 DL
def cr (a b : Pt) : Rat := a.1 * b.2 - a.2 * b.1
end T
namespace DL
open PySem L2
theorem a4I {α : Type} {l : List α} {j : Nat} {p : α × α} (h : (nbs false l)[j]? = some p) : l[j]? = some p.1 ∧ l[j + 1]? = some p.2:= by
 obtain ⟨h1,h2⟩ := List.getElem?_zip_eq_some.mp (show (l.zip (l.drop 1))[j]? = some p from h)
 rw [List.getElem?_drop,Nat.add_comm] at h2
 exact ⟨h1,h2⟩
end DL
namespace T
open PySem L2 DL
def w5 (w : Rat × Rat × Rat) (x : Sl) : Prop := x = .val (b0B w) ∨ x = .own [fr w.1,fr w.2.1,fr w.2.2]
theorem b2d {m : DFn} {a b : D} {l : Bool} {fs : Option FS} (e : m [a,b] fs = some (.bl l,fs)) : a0k m [a,b] fs = some (.tup (if l then [a,b] else [b,a]),fs):= by
 cases l <;> simp [a0k,mFn,a56,e7,C5,j4,dOp,dUn,dC,dL,dV,i4,l7,dB,j7,c6,a0,a6,i3,m7,dCB,one,m8,m9,dIf,v8,dOr,y0,o6,A3,y8,pIx,t6,t9,l6,k0,k9,u3,m5,u5,A7,dTr,D9,e,sz2]
def n0 : Res → D
 | none => .non
 | some (p,none) => .tup [.str "at",pt p]
 | some (p,some q) => .tup [.str "along",pt p,pt q]
abbrev W2 (x y l : Int) : D := .tup [.int x,.int y,.int l]
theorem a1b {α : Type} {caps : List Sl} {fe : DE} (fs : Option FS) (A G : α → D) : ∀ l : List α,(∀ z ∈ l,fe ⟨.val (A z) :: caps,fs⟩ = some (G z,⟨.val (A z) :: caps,fs⟩)) → B9 (fun d => some (.val d :: caps)) B4 fe (l.map A) fs = some (l.map G,fs):= by
 intro l
 induction l with
 | nil => exact fun _ => rfl
 | cons z r ih=>
  intro h
  have e := h z (List.mem_cons_self ..)
  have ih := ih fun y hy => h y (List.mem_cons_of_mem _ hy)
  rw [List.map_cons,B9,Option.bind_some,
   show B4 ⟨.val (A z) :: caps,fs⟩ = some (true,⟨.val (A z) :: caps,fs⟩) from rfl,Option.bind_some,if_pos rfl,e,Option.bind_some,ih]
  rfl
theorem a4x {k : Nat} {x y l x' y' l' : Int} (fs : Option FS) (hx : Bd k x) (hy : Bd k y) (hl : Bd k l) (hx' : Bd k x') (hy' : Bd k y') (hl' : Bd k l') (hk : k ≤ 2000) : W6 [W2 x y l,W2 x' y' l'] fs = some (W2 (y * l' - l * y') (l * x' - x * l') (x * y' - y * x'),fs):= by
 have b1 := hx.bits (by omega)
 have b2 := hy.bits (by omega)
 have b3 := hl.bits (by omega)
 have c1 := hx'.bits (by omega)
 have c2 := hy'.bits (by omega)
 have c3 := hl'.bits (by omega)
 refine n8 (s := ⟨[.val (W2 x y l),.val (W2 x' y' l')],fs⟩) (m6 ?_)
 exact S8 (a8 (a8 (a8 rfl rfl rfl) (a8 rfl rfl rfl) (p9 b2 c3)) (a8 (a8 rfl rfl rfl) (a8 rfl rfl rfl) (p9 b3 c2)) rfl) (a8 (a8 (a8 rfl rfl rfl) (a8 rfl rfl rfl) (p9 b3 c1)) (a8 (a8 rfl rfl rfl) (a8 rfl rfl rfl) (p9 b1 c3)) rfl) (a8 (a8 (a8 rfl rfl rfl) (a8 rfl rfl rfl) (p9 b1 c2)) (a8 (a8 rfl rfl rfl) (a8 rfl rfl rfl) (p9 b2 c1)) rfl)
abbrev FSg : DFn := a3R W6
def lnA (a b : Pt) : Int := pY a * pL b - pL a * pY b
def lnB (a b : Pt) : Int := pL a * pX b - pX a * pL b
def lnC (a b : Pt) : Int := pX a * pY b - pY a * pX b
abbrev lnT (a b : Pt) : D := W2 (lnA a b) (lnB a b) (lnC a b)
theorem Z0 {k : Nat} {a b : Pt} (ha : Ps k a) (hb : Ps k b) : Bd (k + k + 1) (lnA a b) ∧ Bd (k + k + 1) (lnB a b) ∧ Bd (k + k + 1) (lnC a b):=
 ⟨((ha.y.mul hb.l).sub (ha.l.mul hb.y)).mono (by omega),((ha.l.mul hb.x).sub (ha.x.mul hb.l)).mono (by omega),((ha.x.mul hb.y).sub (ha.y.mul hb.x)).mono (by omega)⟩
theorem a43 {k : Nat} {a b : Pt} (fs : Option FS) (ha : Ps k a) (hb : Ps k b) (hk : k ≤ 900) : FSg [pt a,pt b] fs = some (lnT a b,fs):= by
 have e := a4x fs ha.x ha.y ha.l hb.x hb.y hb.l (by omega)
 exact n8 (s := ⟨[.val (pt a),.val (pt b)],fs⟩) (m6 (j8 rfl e))
abbrev FSd : DFn := a3v a1s
theorem b2M (a b c : Pt) : a0j (lnA a b * pX c + lnB a b * pY c + lnC a b * pL c) = sgn (i5 a b c):= by
 refine b1p (b1b (T8 a) (T8 b) (T8 c)) ?_
 unfold lnA lnB lnC
 simp only [Rat.intCast_add,Rat.intCast_sub,Rat.intCast_mul,M0,K9,i5]
 grind
theorem a4E {k : Nat} {a b c : Pt} (fs : Option FS) (ha : Ps k a) (hb : Ps k b) (hc : Ps k c) (hk : k ≤ 900) : FSd [lnT a b,pt c] fs = some (.int (sgn (i5 a b c)),fs):= by
 obtain ⟨h1,h2,h3⟩ := Z0 ha hb
 have b1 := h1.bits (by omega)
 have b2 := h2.bits (by omega)
 have b3 := h3.bits (by omega)
 have c1 := hc.x.bits (by omega)
 have c2 := hc.y.bits (by omega)
 have c3 := hc.l.bits (by omega)
 rw [← b2M]
 refine n8 (s := ⟨[.val (lnT a b),.val (pt c)],fs⟩) (m6 (j8 (e8 (a8 (a8 (a8 (a8 rfl rfl rfl) (a8 rfl rfl (U6 c)) (p9 b1 c1)) (a8 (a8 rfl rfl rfl) (a8 rfl rfl (S5 c)) (p9 b2 c2)) rfl) (a8 (a8 rfl rfl rfl) (a8 rfl rfl (L5 c)) (p9 b3 c3)) rfl) rfl) (a8R _ fs)))
theorem a4G {q a b : Rat} (hq : q ≠ 0) (hb : b ≠ 0) : (q * a) / (q * b) = a / b:= by
 have hz : q * b ≠ 0 := fun z => by
  rcases Rat.mul_eq_zero.mp z with z | z
  ·exact hq z
  ·exact hb z
 have e1 := Rat.div_mul_cancel (a := q * a) hz
 have e2 := Rat.div_mul_cancel (a := a) hb
 have : (q * a / (q * b) - a / b) * (q * b) = 0 := by grind
 rcases Rat.mul_eq_zero.mp this with z | z
 ·grind
 ·exact absurd z hz
theorem a5N {a b c d : Pt} (hW : crs (vec a b) (vec c d) ≠ 0) : lnA a b * lnB c d - lnB a b * lnA c d ≠ 0 ∧ (Rat.divInt (lnB a b * lnC c d - lnC a b * lnB c d) (lnA a b * lnB c d - lnB a b * lnA c d),Rat.divInt (lnC a b * lnA c d - lnA a b * lnC c d) (lnA a b * lnB c d - lnB a b * lnA c d)) = xpt a b c d:= by
 have P : (pL a : Rat) * pL b * (pL c * pL d) ≠ 0 := fun z => by
  rcases Rat.mul_eq_zero.mp z with z | z
  ·rcases Rat.mul_eq_zero.mp z with z | z
   ·exact S6 a z
   ·exact S6 b z
  ·rcases Rat.mul_eq_zero.mp z with z | z
   ·exact S6 c z
   ·exact S6 d z
 have eD : ((lnA a b * lnB c d - lnB a b * lnA c d : Int) : Rat) = ((pL a : Rat) * pL b * (pL c * pL d)) * crs (vec a b) (vec c d):= by
  unfold lnA lnB crs vec
  simp only [Rat.intCast_sub,Rat.intCast_mul,M0,K9]
  grind
 have eX : ((lnB a b * lnC c d - lnC a b * lnB c d : Int) : Rat) = ((pL a : Rat) * pL b * (pL c * pL d)) * nmX a b c d:= by
  unfold lnB lnC nmX
  simp only [Rat.intCast_sub,Rat.intCast_mul,M0,K9]
  grind
 have eY : ((lnC a b * lnA c d - lnA a b * lnC c d : Int) : Rat) = ((pL a : Rat) * pL b * (pL c * pL d)) * nmY a b c d:= by
  unfold lnA lnC nmY
  simp only [Rat.intCast_sub,Rat.intCast_mul,M0,K9]
  grind
 refine ⟨fun z => ?_,?_⟩
 ·rw [z] at eD
  rcases Rat.mul_eq_zero.mp eD.symm with q | q
  ·exact P q
  ·exact hW q
 ·unfold xpt
  rw [Rat.divInt_eq_div,Rat.divInt_eq_div,eD,eX,eY,a4G P hW,a4G P hW]
theorem a8h {k : Nat} {a b c d : Pt} (ha : Ps k a) (hb : Ps k b) (hc : Ps k c) (hd : Ps k d) (hW : crs (vec a b) (vec c d) ≠ 0) : PtS (4 * k + 3) (xpt a b c d):= by
 obtain ⟨h1,h2,h3⟩ := Z0 ha hb
 obtain ⟨g1,g2,g3⟩ := Z0 hc hd
 obtain ⟨hz,q⟩ := a5N hW
 rw [← q]
 exact ⟨Sz.of_divInt hz (((h2.mul g3).sub (h3.mul g2)).mono (by omega)) (((h1.mul g2).sub (h2.mul g1)).mono (by omega)),Sz.of_divInt hz (((h3.mul g1).sub (h1.mul g3)).mono (by omega)) (((h1.mul g2).sub (h2.mul g1)).mono (by omega))⟩
abbrev FCr : DFn := a1V FL W6
theorem b3n {k : Nat} {a b c d : Pt} (fs : Option FS) (ha : Ps k a) (hb : Ps k b) (hc : Ps k c) (hd : Ps k d) (hk : k ≤ 400) (hW : crs (vec a b) (vec c d) ≠ 0) : FCr [lnT a b,lnT c d] fs = some (pt (xpt a b c d),fs):= by
 obtain ⟨h1,h2,h3⟩ := Z0 ha hb
 obtain ⟨g1,g2,g3⟩ := Z0 hc hd
 have e := a4x fs h1 h2 h3 g1 g2 g3 (by omega)
 obtain ⟨hz,q⟩ := a5N hW
 have l := b2I (lnB a b * lnC c d - lnC a b * lnB c d) (lnC a b * lnA c d - lnA a b * lnC c d) (lnA a b * lnB c d - lnB a b * lnA c d) fs hz ((h1.mul g2).sub (h2.mul g1)) (by omega)
 rw [q] at l
 exact n8 (s := ⟨[.val (lnT a b),.val (lnT c d)],fs⟩) (m6 (j8 (e8 (j8 rfl e) rfl) l))
abbrev FSn : DFn := a0k N2
abbrev pcD (u : Pt × Pt) : D := .tup [pt u.1,pt u.2]
theorem a4L {k : Nat} {a b : Pt} (fs : Option FS) (ha : Ps k a) (hb : Ps k b) (hk : k ≤ 2000) : FSn [pt a,pt b] fs = some (pcD (spn a b),fs):= by
 have e := b2d (a00 a b fs ha hb hk)
 refine e.trans ?_
 unfold spn
 cases lsB a b <;> rfl
abbrev FCa : DFn := a3c N2
theorem a63 {k : Nat} {x y : Pt} (hx : Ps k x) (hy : Ps k y) : Ps k (lxM x y) := by unfold lxM; split <;> assumption
theorem a6g {k : Nat} {x y : Pt} (hx : Ps k x) (hy : Ps k y) : Ps k (lxm x y) := by unfold lxm; split <;> assumption
theorem a8Y {k : Nat} {u v : Pt × Pt} (fs : Option FS) (h1 : Ps k u.1) (h2 : Ps k u.2) (h3 : Ps k v.1) (h4 : Ps k v.2) (hk : k ≤ 1920) : FCa [pcD u,pcD v] fs = some (n0 (alg u v),fs):= by
 have e1 := a00 u.1 v.1 fs h1 h3 (by omega)
 have e2 := a00 u.2 v.2 fs h2 h4 (by omega)
 have lo : dIf (dTr (c6 N2 (a0 (dOp pIx (dL 0) (dC (.int 0))) (a0 (dOp pIx (dL 1) (dC (.int 0))) a6)))) (dOp pIx (dL 1) (dC (.int 0))) (dOp pIx (dL 0) (dC (.int 0))) ⟨[.val (pcD u),.val (pcD v),.no,.no],fs⟩ = some (pt (lxM u.1 v.1),⟨[.val (pcD u),.val (pcD v),.no,.no],fs⟩):= by
  unfold lxM
  cases c : lsB u.1 v.1 with
  | true => rw [c] at e1; rw [if_pos rfl]; exact (M3 (D3 (j8 (e8 (a8 rfl rfl rfl) (e8 (a8 rfl rfl rfl) rfl)) e1))).trans (a8 rfl rfl rfl)
  | false => rw [c] at e1; rw [if_neg Bool.false_ne_true]; exact (M8 (D3 (j8 (e8 (a8 rfl rfl rfl) (e8 (a8 rfl rfl rfl) rfl)) e1))).trans (a8 rfl rfl rfl)
 have hi : dIf (dTr (c6 N2 (a0 (dOp pIx (dL 0) (dC (.int 1))) (a0 (dOp pIx (dL 1) (dC (.int 1))) a6)))) (dOp pIx (dL 0) (dC (.int 1))) (dOp pIx (dL 1) (dC (.int 1))) ⟨[.val (pcD u),.val (pcD v),.val (pt (lxM u.1 v.1)),.no],fs⟩ = some (pt (lxm u.2 v.2),⟨[.val (pcD u),.val (pcD v),.val (pt (lxM u.1 v.1)),.no],fs⟩):= by
  unfold lxm
  cases c : lsB u.2 v.2 with
  | true => rw [c] at e2; rw [if_pos rfl]; exact (M3 (D3 (j8 (e8 (a8 rfl rfl rfl) (e8 (a8 rfl rfl rfl) rfl)) e2))).trans (a8 rfl rfl rfl)
  | false => rw [c] at e2; rw [if_neg Bool.false_ne_true]; exact (M8 (D3 (j8 (e8 (a8 rfl rfl rfl) (e8 (a8 rfl rfl rfl) rfl)) e2))).trans (a8 rfl rfl rfl)
 have pl := a63 h1 h3
 have ph := a6g h2 h4
 have e3 := a00 (lxm u.2 v.2) (lxM u.1 v.1) fs ph pl (by omega)
 have e4 := a6H pl ph hk hk
 unfold alg
 generalize lxM u.1 v.1 = L at *
 generalize lxm u.2 v.2 = M at *
 refine n8 (s := ⟨[.val (pcD u),.val (pcD v),.val (pt L),.val (pt M)],fs⟩) ?_
 show a3F N2 ⟨[.val (pcD u),.val (pcD v),.no,.no],fs⟩ = _
 unfold a3F
 rw [i9 (s1 := ⟨[.val (pcD u),.val (pcD v),.val (pt L),.no],fs⟩) (l5 lo rfl),i9 (s1 := ⟨[.val (pcD u),.val (pcD v),.val (pt L),.val (pt M)],fs⟩) (l5 hi rfl)]
 cases c : lsB M L with
 | true=>
  rw [c] at e3
  rw [if_pos rfl]
  exact G3 ((C6 (D3 (j8 rfl e3))).trans (m6 rfl))
 | false=>
  rw [c] at e3
  rw [if_neg Bool.false_ne_true,i9 (s1 := ⟨[.val (pcD u),.val (pcD v),.val (pt L),.val (pt M)],fs⟩) (K2 (D3 (j8 rfl e3)))]
  by_cases q : L = M
  ·rw [decide_eq_true q] at e4
   rw [if_pos q]
   exact G3 ((C6 (t7 (a8 rfl rfl e4))).trans (m6 (y9 rfl rfl)))
  ·rw [decide_eq_false q] at e4
   rw [if_neg q,i9 (s1 := ⟨[.val (pcD u),.val (pcD v),.val (pt L),.val (pt M)],fs⟩) (K2 (t7 (a8 rfl rfl e4)))]
   exact m6 (S8 rfl rfl rfl)
theorem a4D (x y : Rat) : sgn x * sgn y = 1 ↔ 0 < x * y:= by
 unfold sgn
 by_cases a1 : 0 < x
 ·rw [if_pos a1]
  by_cases b1 : 0 < y
  ·rw [if_pos b1]
   exact ⟨fun _ => Rat.mul_pos a1 b1,fun _ => by decide⟩
  ·rw [if_neg b1]
   have n : ¬ 0 < x * y := fun z => b1 ((Rat.mul_pos_iff_of_pos_left a1).mp z)
   split <;> exact ⟨fun z => absurd z (by decide),fun z => absurd z n⟩
 ·rw [if_neg a1]
  by_cases a2 : x < 0
  ·rw [if_pos a2]
   have na : 0 < -x := by grind
   have k : 0 < x * y ↔ 0 < -y:= by
    rw [← Rat.mul_pos_iff_of_pos_left na (b := -y)]
    have : -x * -y = x * y := by grind
    rw [this]
   rw [k]
   by_cases b1 : 0 < y
   ·rw [if_pos b1]
    exact ⟨fun z => absurd z (by decide),fun z => by grind⟩
   ·rw [if_neg b1]
    by_cases b2 : y < 0
    ·rw [if_pos b2]
     exact ⟨fun _ => by grind,fun _ => by decide⟩
    ·rw [if_neg b2]
     exact ⟨fun z => absurd z (by decide),fun z => by grind⟩
  ·rw [if_neg a2]
   have e : x = 0 := by grind
   rw [e,Rat.zero_mul,Int.zero_mul]
   exact ⟨fun z => absurd z (by decide),fun z => absurd z Rat.lt_irrefl⟩
theorem a0Y (x : Rat) : v7 (sgn x) = true:= by
 unfold sgn
 split
 ·decide
 ·split <;> decide
theorem b3m (i j : Int) : pEq (.lst [.int i,.int j]) (.lst [.int 0,.int 0]) = some (.bl (decide (i = 0 ∧ j = 0))):= by
 have o1 : u7 (.lst [.int i,.int j]) = true := a4t [i,j]
 have o2 : u7 (.lst [.int 0,.int 0]) = true := a4t [0,0]
 have e : decide (i = 0 ∧ j = 0) = (decide (i = 0) && decide (j = 0)) := by rw [Bool.eq_iff_iff]; simp
 rw [e]
 simp only [pEq,o1,o2,Bool.and_self,if_true,D.py,D.pys,PyData.eqv,PyData.eqvAll,Bool.beq_eq_decide_eq,Bool.and_true]
abbrev FCm : DFn := a3U FCr FSd FCa FSn FSg
theorem b1k {k : Nat} {a b c d : Pt} (fs : Option FS) (ha : Ps k a) (hb : Ps k b) (hc : Ps k c) (hd : Ps k d) (hk : k ≤ 400) : FCm [pcD (a,b),pcD (c,d)] fs = some (n0 (cmn a b c d),fs):= by
 have s1 := a43 fs ha hb (by omega)
 have s2 := a43 fs hc hd (by omega)
 have cm1 := a1b (caps := [.val (lnT a b)]) (fe := c6 FSd (a0 (dV 1) (a0 (dV 0) a6))) fs pt (fun z => .int (sgn (i5 a b z))) [c,d] fun z hz => by
  have : Ps k z:= by
   rcases List.mem_cons.mp hz with q | q
   ·rw [q]; exact hc
   ·rw [List.mem_singleton.mp q]; exact hd
  exact j8 rfl (a4E fs ha hb this (by omega))
 have cm2 := a1b (caps := [.val (lnT c d)]) (fe := c6 FSd (a0 (dV 1) (a0 (dV 0) a6))) fs pt (fun z => .int (sgn (i5 c d z))) [a,b] fun z hz => by
  have : Ps k z:= by
   rcases List.mem_cons.mp hz with q | q
   ·rw [q]; exact ha
   ·rw [List.mem_singleton.mp q]; exact hb
  exact j8 rfl (a4E fs hc hd this (by omega))
 have e00 := b3m (sgn (i5 a b c)) (sgn (i5 a b d))
 have sp1 := a4L fs ha hb (by omega)
 have sp2 := a4L fs hc hd (by omega)
 have q0 : (sgn (i5 a b c) = 0 ∧ sgn (i5 a b d) = 0) ↔ (i5 a b c = 0 ∧ i5 a b d = 0) := by rw [a5e,a5e]
 have st : a2P FCr FSd FCa FSn FSg ⟨[.val (pcD (a,b)),.val (pcD (c,d)),.no,.no,.no,.no],fs⟩ = (e7 (l7 (dB (dOp pEq (dL 4) (m8 (m9 (a0 (dC (.int 0)) (a0 (dC (.int 0)) a6)))))) (j7 (c6 FCa (a0 (c6 FSn (a0 (dOp pIx (dL 0) (dC (.int 0))) (a0 (dOp pIx (dL 0) (dC (.int 1))) a6))) (a0 (c6 FSn (a0 (dOp pIx (dL 1) (dC (.int 0))) (a0 (dOp pIx (dL 1) (dC (.int 1))) a6))) a6)))) m7) (e7 (u9 5 (D7 [3] (E8 (dV 0)) B4 (c6 FSd (a0 (dV 1) (a0 (dV 0) a6))))) (e7 (l7 (dOr (dB (dOp pEq (dOp k6 (dOp pIx (dL 4) (dC (.int 0))) (dOp pIx (dL 4) (dC (.int 1)))) (dC (.int 1)))) (dB (dOp pEq (dOp k6 (dOp pIx (dL 5) (dC (.int 0))) (dOp pIx (dL 5) (dC (.int 1)))) (dC (.int 1))))) (j7 (dC .non)) m7) (j7 (i3 (a0 (dC (.str "at")) (a0 (c6 FCr (a0 (dV 2) (a0 (dV 3) a6))) a6))))))) ⟨[.val (pcD (a,b)),.val (pcD (c,d)),.val (lnT a b),.val (lnT c d),.own [.int (sgn (i5 a b c)),.int (sgn (i5 a b d))],.no],fs⟩:= by
  unfold a2P
  rw [i9 (s1 := ⟨[.val (pcD (a,b)),.val (pcD (c,d)),.val (lnT a b),.no,.no,.no],fs⟩) (l5 (j8 (e8 (a8 rfl rfl rfl) (e8 (a8 rfl rfl rfl) rfl)) s1) rfl),
   i9 (s1 := ⟨[.val (pcD (a,b)),.val (pcD (c,d)),.val (lnT a b),.val (lnT c d),.no,.no],fs⟩) (l5 (j8 (e8 (a8 rfl rfl rfl) (e8 (a8 rfl rfl rfl) rfl)) s2) rfl),
   i9 (s1 := ⟨[.val (pcD (a,b)),.val (pcD (c,d)),.val (lnT a b),.val (lnT c d),.own [.int (sgn (i5 a b c)),.int (sgn (i5 a b d))],.no],fs⟩) (B2 (s1 := ⟨[.val (pcD (a,b)),.val (pcD (c,d)),.val (lnT a b),.val (lnT c d),.no,.no],fs⟩) (M4 (idx := [2]) (ds := [pt c,pt d]) (R := [.int (sgn (i5 a b c)),.int (sgn (i5 a b d))]) (s1 := ⟨[.val (pcD (a,b)),.val (pcD (c,d)),.val (lnT a b),.val (lnT c d),.no,.no],fs⟩) rfl (show 2 ≤ sizeLine by decide) cm1) (show 4 < 6 by decide))]
 by_cases h0 : i5 a b c = 0 ∧ i5 a b d = 0
 ·rw [decide_eq_true (q0.mpr h0)] at e00
  have al := a8Y (u := spn a b) (v := spn c d) fs (by unfold spn; split <;> assumption) (by unfold spn; split <;> assumption) (by unfold spn; split <;> assumption) (by unfold spn; split <;> assumption) (show k ≤ 1920 by omega)
  unfold cmn
  rw [if_pos h0]
  refine n8 (s := ⟨[.val (pcD (a,b)),.val (pcD (c,d)),.val (lnT a b),.val (lnT c d),.own [.int (sgn (i5 a b c)),.int (sgn (i5 a b d))],.no],fs⟩) ?_
  refine st.trans (G3 ?_)
  rw [C6 (t7 (a8 rfl (C0 rfl) e00))]
  exact m6 (j8 (e8 (j8 (e8 (a8 rfl rfl rfl) (e8 (a8 rfl rfl rfl) rfl)) sp1) (e8 (j8 (e8 (a8 rfl rfl rfl) (e8 (a8 rfl rfl rfl) rfl)) sp2) rfl)) al)
 ·rw [decide_eq_false (fun z => h0 (q0.mp z))] at e00
  unfold cmn
  rw [if_neg h0]
  refine n8 (s := ⟨[.val (pcD (a,b)),.val (pcD (c,d)),.val (lnT a b),.val (lnT c d),.own [.int (sgn (i5 a b c)),.int (sgn (i5 a b d))],.own [.int (sgn (i5 c d a)),.int (sgn (i5 c d b))]],fs⟩) ?_
  refine st.trans ?_
  rw [i9 (s1 := ⟨[.val (pcD (a,b)),.val (pcD (c,d)),.val (lnT a b),.val (lnT c d),.own [.int (sgn (i5 a b c)),.int (sgn (i5 a b d))],.no],fs⟩) (K2 (t7 (a8 rfl (C0 rfl) e00))),
   i9 (s1 := ⟨[.val (pcD (a,b)),.val (pcD (c,d)),.val (lnT a b),.val (lnT c d),.own [.int (sgn (i5 a b c)),.int (sgn (i5 a b d))],.own [.int (sgn (i5 c d a)),.int (sgn (i5 c d b))]],fs⟩) (B2 (s1 := ⟨[.val (pcD (a,b)),.val (pcD (c,d)),.val (lnT a b),.val (lnT c d),.own [.int (sgn (i5 a b c)),.int (sgn (i5 a b d))],.no],fs⟩) (M4 (idx := [3]) (ds := [pt a,pt b]) (R := [.int (sgn (i5 c d a)),.int (sgn (i5 c d b))]) (s1 := ⟨[.val (pcD (a,b)),.val (pcD (c,d)),.val (lnT a b),.val (lnT c d),.own [.int (sgn (i5 a b c)),.int (sgn (i5 a b d))],.no],fs⟩) rfl (show 2 ≤ sizeLine by decide) cm2) (show 5 < 6 by decide))]
  have m1 := p9 (a0Y (i5 a b c)) (a0Y (i5 a b d))
  have m2 := p9 (a0Y (i5 c d a)) (a0Y (i5 c d b))
  have t1 : dB (dOp pEq (dOp k6 (dOp pIx (dL 4) (dC (.int 0))) (dOp pIx (dL 4) (dC (.int 1)))) (dC (.int 1))) ⟨[.val (pcD (a,b)),.val (pcD (c,d)),.val (lnT a b),.val (lnT c d),.own [.int (sgn (i5 a b c)),.int (sgn (i5 a b d))],.own [.int (sgn (i5 c d a)),.int (sgn (i5 c d b))]],fs⟩ = some (decide (sgn (i5 a b c) * sgn (i5 a b d) = 1),⟨[.val (pcD (a,b)),.val (pcD (c,d)),.val (lnT a b),.val (lnT c d),.own [.int (sgn (i5 a b c)),.int (sgn (i5 a b d))],.own [.int (sgn (i5 c d a)),.int (sgn (i5 c d b))]],fs⟩) := t7 (a8 (a8 (a8 rfl rfl rfl) (a8 rfl rfl rfl) m1) rfl (C3 _ 1))
  have t2 : dB (dOp pEq (dOp k6 (dOp pIx (dL 5) (dC (.int 0))) (dOp pIx (dL 5) (dC (.int 1)))) (dC (.int 1))) ⟨[.val (pcD (a,b)),.val (pcD (c,d)),.val (lnT a b),.val (lnT c d),.own [.int (sgn (i5 a b c)),.int (sgn (i5 a b d))],.own [.int (sgn (i5 c d a)),.int (sgn (i5 c d b))]],fs⟩ = some (decide (sgn (i5 c d a) * sgn (i5 c d b) = 1),⟨[.val (pcD (a,b)),.val (pcD (c,d)),.val (lnT a b),.val (lnT c d),.own [.int (sgn (i5 a b c)),.int (sgn (i5 a b d))],.own [.int (sgn (i5 c d a)),.int (sgn (i5 c d b))]],fs⟩) := t7 (a8 (a8 (a8 rfl rfl rfl) (a8 rfl rfl rfl) m2) rfl (C3 _ 1))
  have k1 := a4D (i5 a b c) (i5 a b d)
  have k2 := a4D (i5 c d a) (i5 c d b)
  by_cases p1 : 0 < i5 a b c * i5 a b d
  ·rw [decide_eq_true (k1.mpr p1)] at t1
   rw [if_pos (.inl p1)]
   exact G3 ((C6 (a2W t1)).trans (m6 rfl))
  ·rw [decide_eq_false (fun z => p1 (k1.mp z))] at t1
   by_cases p2 : 0 < i5 c d a * i5 c d b
   ·rw [decide_eq_true (k2.mpr p2)] at t2
    rw [if_pos (.inr p2)]
    exact G3 ((C6 (Y3 t1 t2)).trans (m6 rfl))
   ·rw [decide_eq_false (fun z => p2 (k2.mp z))] at t2
    rw [if_neg (fun z => z.elim p1 p2),i9 (K2 (Y3 t1 t2))]
    have hW : crs (vec a b) (vec c d) ≠ 0 := fun z => by
     have e : i5 a b d = i5 a b c:= by
      have : i5 a b d - i5 a b c = crs (vec a b) (vec c d) := by unfold i5 crs vec; grind
      grind
     rw [e] at p1 h0
     have n : i5 a b c ≠ 0 := fun y => h0 ⟨y,y⟩
     exact p1 (a1n n)
    exact m6 (y9 rfl (j8 rfl (b3n fs ha hb hc hd hk hW)))
def nx (n g : Int) : Int := (g + n / g) / 2
theorem a9A {q : Rat} (h : 0 ≤ q) : 0 ≤ q.num := Rat.num_nonneg.mpr h
theorem b0M {c : Bool} {ps : List Pt} (hl : ps.length ≤ 9) : ((nbs c (ps.map pt)).map pr2).length ≤ sizeLine ∧ (ps.map pt).length + 1 ≤ sizeLine:= by
 have h1 : (ps.map pt).length = ps.length := List.length_map ..
 constructor
 ·rw [List.length_map]
  have := a2x c (ps.map pt)
  rw [sizeLine_eq]; omega
 ·rw [sizeLine_eq]; omega
theorem a9r (c : Bool) (ds : List D) (h : 1 ≤ ds.length) (g : D → D) (hg : ∀ i : Nat,g (.int (i : Int)) = .tup [((ds ++ ds.take (if c then 1 else 0))[i]?).getD .non,((ds ++ ds.take (if c then 1 else 0))[i + 1]?).getD .non]) :
  (ups 0 (nbs c ds).length).map g = (nbs c ds).map pr2:= by
 apply List.ext_getElem?
 intro i
 by_cases hi : i < (nbs c ds).length
 ·obtain ⟨a,b,q1,q2,q3⟩ := a0t hi
  have u : (ups 0 (nbs c ds).length)[i]? = some (.int (i : Int)):= by
   unfold ups
   rw [List.getElem?_map,List.getElem?_range hi]
   simp
  rw [List.getElem?_map,u,List.getElem?_map,q3]
  simp only [Option.map_some,hg]
  have hlen := N6 c ds
  have r1 : (ds ++ ds.take (if c then 1 else 0))[i]? = some a:= by
   have : i < ds.length:= by
    rcases Nat.lt_or_ge i ds.length with z | z
    ·exact z
    ·rw [List.getElem?_eq_none z] at q1; cases q1
   rw [List.getElem?_append_left this]; exact q1
  have r2 : (ds ++ ds.take (if c then 1 else 0))[i + 1]? = some b:= by
   by_cases z : i + 1 < ds.length
   ·rw [List.getElem?_append_left z]
    rw [Nat.mod_eq_of_lt z] at q2; exact q2
   ·cases c with
    | false => simp at hlen; omega
    | true=>
     have e : i + 1 = ds.length := by simp at hlen; omega
     rw [e,Nat.mod_self] at q2
     rw [e,List.getElem?_append_right (Nat.le_refl _),Nat.sub_self]
     simp only [if_true]
     rw [List.getElem?_take_of_lt (by decide)]
     exact q2
  rw [r1,r2]
  rfl
 ·have hi' : (nbs c ds).length ≤ i := by omega
  rw [List.getElem?_eq_none (by rw [List.length_map]; unfold ups; rw [List.length_map,List.length_range]; exact hi')]
  rw [List.getElem?_eq_none (by rw [List.length_map]; exact hi')]
def pcG (S : List D) : D → D
 | .int k => .tup [(S[k.toNat]?).getD .non,(S[k.toNat + 1]?).getD .non]
 | _ => .non
theorem a7O (S : List D) (fs : Option FS) (m : Nat) (hS : S.length = m + 1) : ∀ d ∈ ups 0 m,∃ s,i3 (a0 (dOp pIx (dL 1) (dL 0)) (a0 (dOp pIx (dL 1) (dOp t6 (dL 0) (dC (.int 1)))) a6)) ⟨.val d :: [.val (.tup S)],fs⟩ = some (pcG S d,s) ∧ s.fs = fs:= by
 intro d hd
 obtain ⟨i,hi⟩ := List.getElem?_of_mem hd
 obtain ⟨rfl,hi2⟩ := Q3 hi
 rw [Int.zero_add]
 have a1 : atI S (i : Int) = some S[i] := atN (xs := S) (i := i) (x := S[i]) (by rw [List.getElem?_eq_getElem (by omega)])
 have a2 : atI S ((i : Int) + 1) = some S[i + 1]:= by
  have := atN (xs := S) (i := i + 1) (x := S[i + 1]) (by rw [List.getElem?_eq_getElem (by omega)])
  rwa [Int.natCast_add] at this
 refine ⟨⟨[.val (.int (i : Int)),.val (.tup S)],fs⟩,?_,rfl⟩
 have eg : pcG S (.int (i : Int)) = .tup [S[i],S[i + 1]]:= by
  simp only [pcG,Int.toNat_natCast]
  rw [List.getElem?_eq_getElem (by omega),List.getElem?_eq_getElem (by omega)]
  rfl
 rw [eg]
 exact y9 (a8 rfl rfl ((ixT _ _).trans a1)) (a8 rfl (a8 rfl rfl rfl) ((ixT _ _).trans a2))
abbrev WPl : DFn := R9 LLw
abbrev WMi : DFn := T5 LLw
abbrev WPr : DFn := R7 LLw
abbrev WXy : DFn := N4 LLw
abbrev WSp : DFn := O5 LGd
theorem Q2 {k l : Nat} (p q : Rat) (fs : Option FS) (h1 : Sz k p) (h2 : Sz l q) (hk : k + l ≤ 8000) : WPl [fr p,fr q] fs = some (fr (p + q),fs):= by
 have b1 := h1.num.bits (by omega)
 have b2 := h1.den.bits (by omega)
 have b3 := h2.num.bits (by omega)
 have b4 := h2.den.bits (by omega)
 have e := P9 (p.num * q.den + q.num * p.den) (p.den * q.den) fs (a11 p q) (Bd.mul h1.den h2.den) hk
 rw [← a5r] at e
 refine n8 (s := ⟨[.val (fr p),.val (fr q)],fs⟩) ?_
 exact m6 (j8 (e8 (a8 (a8 (a8 rfl rfl (C7 p)) (a8 rfl rfl (C9 q)) (p9 b1 b4)) (a8 (a8 rfl rfl (C7 q)) (a8 rfl rfl (C9 p)) (p9 b3 b2)) rfl) (e8 (a8 (a8 rfl rfl (C9 p)) (a8 rfl rfl (C9 q)) (p9 b2 b4)) rfl)) e)
theorem b4g (p q : Rat) : p - q = Rat.divInt (p.num * q.den - q.num * p.den) (p.den * q.den):= by
 have e : p - q = p + -q := Rat.sub_eq_add_neg p q
 rw [e,a5r,Rat.neg_num,Rat.neg_den,Int.neg_mul,Int.sub_eq_add_neg]
theorem a1J {k l : Nat} (p q : Rat) (fs : Option FS) (h1 : Sz k p) (h2 : Sz l q) (hk : k + l ≤ 8000) : WMi [fr p,fr q] fs = some (fr (p - q),fs):= by
 have b1 := h1.num.bits (by omega)
 have b2 := h1.den.bits (by omega)
 have b3 := h2.num.bits (by omega)
 have b4 := h2.den.bits (by omega)
 have e := P9 (p.num * q.den - q.num * p.den) (p.den * q.den) fs (a11 p q) (Bd.mul h1.den h2.den) hk
 rw [← b4g] at e
 refine n8 (s := ⟨[.val (fr p),.val (fr q)],fs⟩) ?_
 exact m6 (j8 (e8 (a8 (a8 (a8 rfl rfl (C7 p)) (a8 rfl rfl (C9 q)) (p9 b1 b4)) (a8 (a8 rfl rfl (C7 q)) (a8 rfl rfl (C9 p)) (p9 b3 b2)) rfl) (e8 (a8 (a8 rfl rfl (C9 p)) (a8 rfl rfl (C9 q)) (p9 b2 b4)) rfl)) e)
theorem a0o {k l : Nat} (a b c d : Int) (fs : Option FS) (hb : b ≠ 0) (hd : d ≠ 0) (h1 : Bd k a) (h2 : Bd k b) (h3 : Bd l c) (h4 : Bd l d) (hk : k + l ≤ 8000) : WPr [.tup [.int a,.int b],.tup [.int c,.int d]] fs = some (fr (Rat.divInt (a * c) (b * d)),fs):= by
 have b1 := h1.bits (by omega)
 have b2 := h2.bits (by omega)
 have b3 := h3.bits (by omega)
 have b4 := h4.bits (by omega)
 have e := P9 (a * c) (b * d) fs (Int.mul_ne_zero hb hd) (Bd.mul h2 h4) hk
 refine n8 (s := ⟨[.val (.tup [.int a,.int b]),.val (.tup [.int c,.int d])],fs⟩) ?_
 exact m6 (j8 (e8 (a8 (a8 rfl rfl rfl) (a8 rfl rfl rfl) (p9 b1 b3)) (e8 (a8 (a8 rfl rfl rfl) (a8 rfl rfl rfl) (p9 b2 b4)) rfl)) e)
theorem X9 {k l : Nat} (p q : Rat) (fs : Option FS) (h1 : Sz k p) (h2 : Sz l q) (hk : k + l ≤ 8000) : WPr [fr p,fr q] fs = some (fr (p * q),fs):= by
 have e := a0o p.num p.den q.num q.den fs (F3 p) (F3 q) h1.num h1.den h2.num h2.den hk
 rw [← b1l] at e
 exact e
theorem wxy {k : Nat} (a : Pt) (fs : Option FS) (h : Ps k a) (hk : k ≤ 8000) : WXy [pt a] fs = some (.tup [fr a.1,fr a.2],fs):= by
 have e1 := P9 (pX a) (pL a) fs (a3d a) h.l hk
 have e2 := P9 (pY a) (pL a) fs (a3d a) h.l hk
 rw [b3y] at e1
 rw [b0K] at e2
 refine n8 (s := ⟨[.val (pt a)],fs⟩) ?_
 exact m6 (y9 (j8 (e8 (a8 rfl rfl (U6 a)) (e8 (a8 rfl rfl (L5 a)) rfl)) e1) (j8 (e8 (a8 rfl rfl (S5 a)) (e8 (a8 rfl rfl (L5 a)) rfl)) e2))
theorem X1 {k l : Nat} (p q : Rat) (fs : Option FS) (h1 : Sz k p) (h2 : Sz l q) (hk : k + l ≤ 8000) : WSp [fr p,fr q] fs = some (pt (p,q),fs):= by
 have b1 := h1.num.bits (by omega)
 have b2 := h1.den.bits (by omega)
 have b3 := h2.num.bits (by omega)
 have b4 := h2.den.bits (by omega)
 have hd := a11 p q
 have hp : ¬ (p.den : Int) * q.den < 0 := by have := Int.mul_pos (a1D p) (a1D q); omega
 obtain ⟨g0,p1,p2,p3⟩ := a4z (p.num * q.den) (q.num * p.den) (p.den * q.den) hd
 have dg := a6z (x := p.num * q.den) (y := q.num * p.den) hd (Bd.mul h1.den h2.den) hk
 rw [if_neg hp] at g0 p1 p2 p3 dg
 rw [a9W,b0L] at p1 p2 p3
 have w1 := a2k (p.num * q.den) (q.num * p.den) fs
 have w2 := a2k (Int.gcd (p.num * q.den) (q.num * p.den) : Int) (p.den * q.den) fs
 generalize (Int.gcd (Int.gcd (p.num * q.den) (q.num * p.den) : Int) (p.den * q.den) : Int) = gg at *
 refine n8 (s := ⟨[.val (fr p),.val (fr q),.val (.tup [.int (p.num * q.den),.int (q.num * p.den),.int (p.den * q.den)]),.val (.int gg)],fs⟩) ?_
 show a2D LGd ⟨[.val (fr p),.val (fr q),.no,.no],fs⟩ = _
 unfold a2D
 rw [i9 (s1 := ⟨[.val (fr p),.val (fr q),.val (.tup [.int (p.num * q.den),.int (q.num * p.den),.int (p.den * q.den)]),.no],fs⟩) (l5 (S8 (a8 (a8 rfl rfl (C7 p)) (a8 rfl rfl (C9 q)) (p9 b1 b4)) (a8 (a8 rfl rfl (C7 q)) (a8 rfl rfl (C9 p)) (p9 b3 b2)) (a8 (a8 rfl rfl (C9 p)) (a8 rfl rfl (C9 q)) (p9 b2 b4))) rfl)]
 rw [i9 (s1 := ⟨[.val (fr p),.val (fr q),.val (.tup [.int (p.num * q.den),.int (q.num * p.den),.int (p.den * q.den)]),.val (.int gg)],fs⟩) (l5 (j8 (e8 (j8 (e8 (a8 rfl rfl rfl) (e8 (a8 rfl rfl rfl) rfl)) w1) (e8 (a8 rfl rfl rfl) rfl)) w2) rfl)]
 refine m6 ?_
 unfold pt
 rw [← p1,← p2,← p3]
 exact B1 (p := J5) (C0 (M4 (idx := [3]) (ds := [.int (p.num * q.den),.int (q.num * p.den),.int (p.den * q.den)]) (s1 := ⟨[.val (fr p),.val (fr q),.val (.tup [.int (p.num * q.den),.int (q.num * p.den),.int (p.den * q.den)]),.val (.int gg)],fs⟩) rfl sz3 (a1F dg fs [p.num * q.den,q.num * p.den,p.den * q.den]))) rfl
def Gr (B : Nat) (x : Rat) : Prop := ∃ n : Int,n.natAbs ≤ B ∧ x = Rat.divInt n 6630
theorem Gr.mono {B C : Nat} {x : Rat} (h : Gr B x) (hc : B ≤ C) : Gr C x:= by
 obtain ⟨n,a,e⟩ := h
 exact ⟨n,Nat.le_trans a hc,e⟩
theorem Gr.add {B C : Nat} {x y : Rat} (h1 : Gr B x) (h2 : Gr C y) : Gr (B + C) (x + y):= by
 obtain ⟨n,a,rfl⟩ := h1
 obtain ⟨m,b,rfl⟩ := h2
 refine ⟨n + m,Nat.le_trans (Int.natAbs_add_le ..) (Nat.add_le_add a b),?_⟩
 rw [Rat.divInt_eq_div,Rat.divInt_eq_div,Rat.divInt_eq_div,Rat.intCast_add]
 grind
theorem Gr.sz {B : Nat} {x : Rat} (h : Gr B x) (hB : B < 2 ^ 80) : Sz 80 x:= by
 obtain ⟨n,a,rfl⟩ := h
 exact Sz.of_divInt (by decide) (Nat.lt_of_le_of_lt a hB) (by decide)
theorem Gr.div {B : Nat} {a b : Int} (hb : 0 < b) (hd : (6630 : Int) % b = 0) (hB : a.natAbs * 6630 ≤ B) : Gr B (Rat.divInt a b):= by
 obtain ⟨c,hc⟩ := Int.dvd_of_emod_eq_zero hd
 have c0 : 0 < c:= by
  rcases Int.lt_or_le 0 c with z | z
  ·exact z
  ·have : b * c ≤ b * 0 := Int.mul_le_mul_of_nonneg_left z (by omega)
   omega
 have c1 : c ≤ 6630:= by
  have : 1 * c ≤ b * c := Int.mul_le_mul_of_nonneg_right (by omega) (by omega)
  omega
 refine ⟨a * c,?_,?_⟩
 ·rw [Int.natAbs_mul]
  exact Nat.le_trans (Nat.mul_le_mul_left _ (by omega)) hB
 ·rw [hc,Rat.divInt_mul_right (by omega)]
def Gf (B : Nat) (x : Rat) : Prop := ∃ n : Int,n.natAbs ≤ B ∧ x = Rat.divInt n 351138060
theorem Gf.mono {B C : Nat} {x : Rat} (h : Gf B x) (hc : B ≤ C) : Gf C x:= by
 obtain ⟨n,a,e⟩ := h
 exact ⟨n,Nat.le_trans a hc,e⟩
theorem Gr.fine {B : Nat} {x : Rat} (h : Gr B x) : Gf (B * 52962) x:= by
 obtain ⟨n,a,rfl⟩ := h
 refine ⟨n * 52962,?_,?_⟩
 ·rw [Int.natAbs_mul]
  exact Nat.mul_le_mul_right _ a
 ·rw [show (351138060 : Int) = 6630 * 52962 from rfl,Rat.divInt_mul_right (by decide)]
abbrev WSt : DFn := a0P LDw
def stD : List D := [.tup [.int 0,.int 1],.tup [.int 1,.int 1],.tup [.int (-1),.int 2],.tup [.int 5,.int 3],.tup [.int (-7),.int 1],.tup [.int 3,.int 2]]
def R6 : List (Int × Int) := [(0,1),(1,1),(-1,2),(5,3),(-7,1),(3,2)]
theorem b39 : (R6.all fun z => decide ((Rat.divInt z.1 z.2).num = z.1 ∧ ((Rat.divInt z.1 z.2).den : Int) = z.2 ∧ 0 < z.2 ∧ (6630 : Int) % z.2 = 0 ∧ z.1.natAbs * 6630 ≤ 46410)) = true := by decide +kernel
theorem a5J {r : Int} (h0 : 0 ≤ r) (h1 : r < 6) : ∃ p : Rat,atI stD r = some (fr p) ∧ Gr 46410 p:= by
 obtain ⟨x,hx,e⟩ := Q0 (xs := stD) h0 h1
 obtain ⟨z,hz,rfl⟩ := List.mem_map.mp (show x ∈ R6.map (fun z => D.tup [.int z.1,.int z.2]) from hx)
 obtain ⟨q1,q2,q3,q4,q5⟩ := of_decide_eq_true (List.all_eq_true.mp b39 z hz)
 refine ⟨Rat.divInt z.1 z.2,?_,Gr.div q3 q4 q5⟩
 unfold fr
 rw [q1,q2]
 exact e
theorem D0 {ds : List D} {i : Int} {d : D} (h : atI ds i = some d) : pIx (.lst ds) (.int i) = some d := (ixL ds i).trans h
theorem a58 {n : Nat} {f : FS} (h : Fd3 n f) (hn : n < 2 ^ 29) : ∃ p q f',WSt [.feed] (some f) = some (.tup [fr p,fr q],some f') ∧ Gr 46410 p ∧ Gr 46410 q ∧ Fd3 (n + 2) f':= by
 obtain ⟨r1,f1,e1,a1,a2,h1⟩ := B7 6 h
 obtain ⟨r2,f2,e2,b1,b2,h2⟩ := B7 6 h1
 obtain ⟨p,q1,g1⟩ := a5J a1 a2
 obtain ⟨q,q2,g2⟩ := a5J b1 b2
 refine ⟨p,q,f2,n8 (s := ⟨[.val .feed,.own stD,.val (fr p)],some f2⟩) ?_,g1,g2,h2⟩
 show a3K LDw ⟨[.val .feed,.no,.no],some f⟩ = _
 unfold a3K
 rw [i9 (s1 := ⟨[.val .feed,.own stD,.no],some f⟩) (B2 (s1 := ⟨[.val .feed,.no,.no],some f⟩) rfl (by decide : 1 < 3))]
 rw [i9 (s1 := ⟨[.val .feed,.own stD,.val (fr p)],some f1⟩) (l5 (a8 rfl (p7 rfl e1) (D0 q1)) rfl)]
 exact m6 (y9 rfl (a8 rfl (p7 rfl e2) (D0 q2)))
abbrev WMn : DFn := a2O LDw
def wyD (w : Int × Int × Int) : D := .tup [.int w.1,.int w.2.1,.int w.2.2]
def szD (z : Int × Int) : D := .tup [.int z.1,.int z.2]
def ways0 : List (Int × Int × Int) := [(1,0,1),(0,1,1),(-1,0,1),(0,-1,1)]
def X8 (a b h : Int) : List (Int × Int × Int) := [(h,0,h),(0,h,h),(-h,0,h),(0,-h,h),(a,b,h),(-b,a,h),(-a,-b,h),(b,-a,h),(b,a,h),(-a,b,h),(-b,-a,h),(a,-b,h)]
def a9H (g : Int) : List (Int × Int) := [(g * 1,1),(g * 2,1),(g * 1,2),(g * 40,1),(g * 7,3)]
def b3Z (g h : Int) : List (Int × Int) := [(g * h,1),(g * 1,1),(g * h,2),(g * 2,1)]
def okZ (w : Int × Int × Int) (z : Int × Int) : Bool := decide (0 < z.1 ∧ 0 < z.2 ∧ z.1 ≤ 40000000000000 ∧ z.2 ≤ 3 ∧ 6630 % (z.2 * w.2.2) = 0)
def okY (Z : List (Int × Int)) (w : Int × Int × Int) : Bool := decide (w.1 * w.1 + w.2.1 * w.2.1 = w.2.2 * w.2.2 ∧ 0 < w.2.2 ∧ w.2.2 ≤ 17 ∧ w.1.natAbs ≤ 17 ∧ w.2.1.natAbs ≤ 17) && Z.all (okZ w)
def okT (W : List (Int × Int × Int)) : Bool := W.all fun a => W.all fun b => decide (a = b ∨ a.1 * b.2.2 ≠ b.1 * a.2.2 ∨ a.2.1 * b.2.2 ≠ b.2.1 * a.2.2)
def a5p (W : List (Int × Int × Int)) (Z : List (Int × Int)) : Bool := W.all (okY Z) && decide (W.length ≤ 12 ∧ 1 ≤ Z.length ∧ Z.length ≤ 5) && W.any fun a => W.any fun b => !decide (a = b)
def okW (W : List (Int × Int × Int)) (Z : List (Int × Int)) : Bool := a5p W Z && okT W
theorem b2T {r : Int} (h0 : 0 ≤ r) (h1 : r < 8) : ∃ g : Int,(g = 1 ∨ g = 1000000000000) ∧ atI [D.int 1,.int 1,.int 1,.int 1,.int 1,.int 1,.int 1,.int 1000000000000] r = some (.int g):= by
 obtain ⟨x,hx,e⟩ := Q0 (xs := [D.int 1,.int 1,.int 1,.int 1,.int 1,.int 1,.int 1,.int 1000000000000]) h0 h1
 rcases List.mem_append.mp (show x ∈ List.replicate 7 (D.int 1) ++ [.int 1000000000000] from hx) with z | z
 ·rw [List.eq_of_mem_replicate z] at e
  exact ⟨1,.inl rfl,e⟩
 ·rw [List.mem_singleton.mp z] at e
  exact ⟨_,.inr rfl,e⟩
theorem a92 {g t : Int} (hg : g = 1 ∨ g = 1000000000000) (ht : t.natAbs ≤ 40) : k6 (.int g) (.int t) = some (.int (g * t)):= by
 refine p9 ?_ (Bd.bits (k := 10) (show t.natAbs < 2 ^ 10 by omega) (by decide))
 rcases hg with rfl | rfl <;> decide +kernel
abbrev szE : DE := i3 (a0 (dOp k6 (dL 2) (dL 0)) (a0 (dV 1) a6))
theorem a3x {g : Int} (hg : g = 1 ∨ g = 1000000000000) (sl : List Sl) (hs : J9 [1] sl = [.val (.int g)]) (fs : Option FS) : ∀ zs : List (Int × Int),(∀ z ∈ zs,z.1.natAbs ≤ 40) → B9 (mk2 [1] sl) B4 szE (zs.map szD) fs = some ((zs.map fun z => (g * z.1,z.2)).map szD,fs)
 | [],_ => rfl
 | z :: r,h => by
  have ih := a3x hg sl hs fs r fun y hy => h y (List.mem_cons_of_mem _ hy)
  have m := a92 hg (h z (List.mem_cons_self ..))
  rw [List.map_cons,B9]
  have e : mk2 [1] sl (szD z) = some [.val (.int z.1),.val (.int z.2),.val (.int g)]:= by
   show some (.val (.int z.1) :: .val (.int z.2) :: J9 [1] sl) = _
   rw [hs]
  rw [e,Option.bind_some]
  have y : B4 ⟨[.val (.int z.1),.val (.int z.2),.val (.int g)],fs⟩ = some (true,⟨[.val (.int z.1),.val (.int z.2),.val (.int g)],fs⟩) := rfl
  have el : szE ⟨[.val (.int z.1),.val (.int z.2),.val (.int g)],fs⟩ = some (szD (g * z.1,z.2),⟨[.val (.int z.1),.val (.int z.2),.val (.int g)],fs⟩) := y9 (a8 rfl rfl m) rfl
  rw [y,Option.bind_some,if_pos rfl,el,Option.bind_some,ih]
  rfl
theorem T6 {n : Nat} (h : n ≤ 100) : n ≤ sizeLine := Nat.le_trans h (by decide)
def a4y : List D := [.tup [.int 3,.int 4,.int 5],.tup [.int 3,.int 4,.int 5],.tup [.int 5,.int 12,.int 13],.tup [.int 8,.int 15,.int 17]]
theorem X0 {xs ys : List D} (h : xs.length + ys.length ≤ 100) : L0 (.lst xs) (.lst ys) = some (xs ++ ys) := if_pos (T6 h)
abbrev mnS (g c a b h : Int) (x7 x8 x9 : Sl) (f : FS) : DS := ⟨[.val .feed,.val (.int g),.val (.int c),.no,.val (.int a),.val (.int b),.val (.int h),x7,x8,x9],some f⟩
theorem a4V (g c a b h x y : Int) (xs : List D) (x8 x9 : Sl) (f : FS) (hl : xs.length ≤ 50) (r : List D) : A6 (u3 2 (m5 (i4 8) (m5 (i4 9) u5))) (a1T LDw) (.tup [.int x,.int y] :: r) (mnS g c a b h (.own xs) x8 x9 f) =
  A6 (u3 2 (m5 (i4 8) (m5 (i4 9) u5))) (a1T LDw) r (mnS g c a b h (.own (xs ++ [wyD (x,y,h),wyD (-y,x,h),wyD (-x,-y,h),wyD (y,-x,h)])) (.val (.int x)) (.val (.int y)) f):=
 a3T (s1 := mnS g c a b h (.own xs) (.val (.int x)) (.val (.int y)) f) (s2 := mnS g c a b h (.own (xs ++ [wyD (x,y,h),wyD (-y,x,h),wyD (-x,-y,h),wyD (y,-x,h)])) (.val (.int x)) (.val (.int y)) f) rfl
  (B2 (s1 := mnS g c a b h (.own xs) (.val (.int x)) (.val (.int y)) f) (O9 rfl (C0 (ds := [wyD (x,y,h),wyD (-y,x,h),wyD (-x,-y,h),wyD (y,-x,h)]) (s1 := mnS g c a b h (.own xs) (.val (.int x)) (.val (.int y)) f) rfl) (X0 (by show xs.length + 4 ≤ 100; omega))) (by decide : 7 < 10))
theorem a07 {g c a b h r1 : Int} {f0 f1 f : FS} (e1 : LDw [.feed,.int 8] (some f0) = some (.int r1,some f1)) (q1 : atI [D.int 1,.int 1,.int 1,.int 1,.int 1,.int 1,.int 1,.int 1000000000000] r1 = some (.int g)) (e2 : LDw [.feed,.int 5] (some f1) = some (.int c,some f))
  (hg : g = 1 ∨ g = 1000000000000) (hc : c ≠ 0) (q : atI a4y (c - 1) = some (.tup [.int a,.int b,.int h])) (hh : h.natAbs ≤ 40) : WMn [.feed] (some f0) = some (.tup [.lst ((X8 a b h).map wyD),.lst ((b3Z g h).map szD)],some f):= by
 refine n8 (s := mnS g c a b h (.val (.lst ((X8 a b h).map wyD))) (.val (.int b)) (.val (.int a)) f) ?_
 show Z7 LDw ⟨[.val .feed,.no,.no,.no,.no,.no,.no,.no,.no,.no],some f0⟩ = _
 unfold Z7
 rw [i9 (s1 := ⟨[.val .feed,.val (.int g),.no,.no,.no,.no,.no,.no,.no,.no],some f1⟩) (l5 (a8 (s1 := ⟨[.val .feed,.no,.no,.no,.no,.no,.no,.no,.no,.no],some f0⟩) rfl (p7 rfl e1) (D0 q1)) rfl),
  i9 (s1 := ⟨[.val .feed,.val (.int g),.val (.int c),.no,.no,.no,.no,.no,.no,.no],some f⟩) (l5 (p7 rfl e2) rfl),
  i9 (s1 := ⟨[.val .feed,.val (.int g),.val (.int c),.no,.no,.no,.no,.no,.no,.no],some f⟩) (by simp [l7,dB,dOp,dL,dC,C3,hc,m7]),
  i9 (s1 := mnS g c a b h .no .no .no f) (l5 (a8 (x := .lst a4y) (s1 := ⟨[.val .feed,.val (.int g),.val (.int c),.no,.no,.no,.no,.no,.no,.no],some f⟩) (C0 rfl) (a8 rfl rfl rfl) (D0 q)) rfl),
  i9 (s1 := mnS g c a b h (.own [wyD (h,0,h),wyD (0,h,h),wyD (-h,0,h),wyD (0,-h,h)]) .no .no f) (B2 (s1 := mnS g c a b h .no .no .no f) rfl (by decide : 7 < 10)),
  i9 (s1 := mnS g c a b h (.own ((X8 a b h).map wyD)) (.val (.int b)) (.val (.int a)) f) (by
   rw [b3G (ds := [.tup [.int a,.int b],.tup [.int b,.int a]]) (s1 := mnS g c a b h (.own [wyD (h,0,h),wyD (0,h,h),wyD (-h,0,h),wyD (0,-h,h)]) .no .no f) (C0 rfl)]
   rw [a4V g c a b h a b [wyD (h,0,h),wyD (0,h,h),wyD (-h,0,h),wyD (0,-h,h)] .no .no f (show 4 ≤ 50 by decide),
    a4V g c a b h b a ([wyD (h,0,h),wyD (0,h,h),wyD (-h,0,h),wyD (0,-h,h)] ++ [wyD (a,b,h),wyD (-b,a,h),wyD (-a,-b,h),wyD (b,-a,h)]) (.val (.int a)) (.val (.int b)) f (show 8 ≤ 50 by decide)]
   rfl)]
 refine m6 (y9 (s1 := mnS g c a b h (.val (.lst ((X8 a b h).map wyD))) (.val (.int b)) (.val (.int a)) f) rfl (C0 ?_))
 have c := a3x hg (mnS g c a b h (.val (.lst ((X8 a b h).map wyD))) (.val (.int b)) (.val (.int a)) f).sl rfl (some f) [(h,1),(1,1),(h,2),(2,1)] (by
  intro z hz
  simp only [List.mem_cons,List.not_mem_nil,or_false] at hz
  rcases hz with rfl | rfl | rfl | rfl
  ·exact hh
  ·decide
  ·exact hh
  ·decide)
 exact a7j (ds := [(h,1),(1,1),(h,2),(2,1)].map szD) (s1 := mnS g _ a b h (.val (.lst ((X8 a b h).map wyD))) (.val (.int b)) (.val (.int a)) f) rfl (T6 (show 4 ≤ 100 by decide)) c
theorem a8Z {g r1 : Int} {f0 f1 f : FS} (e1 : LDw [.feed,.int 8] (some f0) = some (.int r1,some f1)) (q1 : atI [D.int 1,.int 1,.int 1,.int 1,.int 1,.int 1,.int 1,.int 1000000000000] r1 = some (.int g)) (e2 : LDw [.feed,.int 5] (some f1) = some (.int 0,some f))
  (hg : g = 1 ∨ g = 1000000000000) : WMn [.feed] (some f0) = some (.tup [.lst (ways0.map wyD),.lst ((a9H g).map szD)],some f):= by
 refine n8 (s := ⟨[.val .feed,.val (.int g),.val (.int 0),.val (.lst ([(1,1),(2,1),(1,2),(40,1),(7,3)].map szD)),.no,.no,.no,.no,.no,.no],some f⟩) ?_
 show Z7 LDw ⟨[.val .feed,.no,.no,.no,.no,.no,.no,.no,.no,.no],some f0⟩ = _
 unfold Z7
 rw [i9 (s1 := ⟨[.val .feed,.val (.int g),.no,.no,.no,.no,.no,.no,.no,.no],some f1⟩) (l5 (a8 (s1 := ⟨[.val .feed,.no,.no,.no,.no,.no,.no,.no,.no,.no],some f0⟩) rfl (p7 rfl e1) (D0 q1)) rfl),
  i9 (s1 := ⟨[.val .feed,.val (.int g),.val (.int 0),.no,.no,.no,.no,.no,.no,.no],some f⟩) (l5 (p7 rfl e2) rfl)]
 refine G3 ?_
 rw [C6 (s1 := ⟨[.val .feed,.val (.int g),.val (.int 0),.no,.no,.no,.no,.no,.no,.no],some f⟩) (by simp [dB,dOp,dL,dC,C3])]
 rw [i9 (s1 := ⟨[.val .feed,.val (.int g),.val (.int 0),.own ([(1,1),(2,1),(1,2),(40,1),(7,3)].map szD),.no,.no,.no,.no,.no,.no],some f⟩) (B2 (s1 := ⟨[.val .feed,.val (.int g),.val (.int 0),.no,.no,.no,.no,.no,.no,.no],some f⟩) rfl (by decide : 3 < 10))]
 refine m6 (y9 (s1 := ⟨[.val .feed,.val (.int g),.val (.int 0),.own ([(1,1),(2,1),(1,2),(40,1),(7,3)].map szD),.no,.no,.no,.no,.no,.no],some f⟩) (C0 rfl) (C0 ?_))
 have c := a3x hg [.val .feed,.val (.int g),.val (.int 0),.val (.lst ([(1,1),(2,1),(1,2),(40,1),(7,3)].map szD)),.no,.no,.no,.no,.no,.no] rfl (some f) [(1,1),(2,1),(1,2),(40,1),(7,3)] (by decide)
 exact a7j (ds := [(1,1),(2,1),(1,2),(40,1),(7,3)].map szD) (s1 := ⟨[.val .feed,.val (.int g),.val (.int 0),.val (.lst ([(1,1),(2,1),(1,2),(40,1),(7,3)].map szD)),.no,.no,.no,.no,.no,.no],some f⟩) rfl (T6 (show 5 ≤ 100 by decide)) c
theorem a9c {n : Nat} {f : FS} (h : Fd3 n f) (hn : n < 2 ^ 29) : ∃ W Z f',WMn [.feed] (some f) = some (.tup [.lst (W.map wyD),.lst (Z.map szD)],some f') ∧ okW W Z = true ∧ Fd3 (n + 2) f':= by
 obtain ⟨r1,f1,e1,a1,a2,h1⟩ := B7 8 h
 obtain ⟨r2,f2,e2,b1,b2,h2⟩ := B7 5 h1
 obtain ⟨g,hg,q1⟩ := b2T a1 a2
 have hr : r2 = 0 ∨ r2 = 1 ∨ r2 = 2 ∨ r2 = 3 ∨ r2 = 4 := by omega
 rcases hr with rfl | rfl | rfl | rfl | rfl
 ·exact ⟨_,_,f2,a8Z e1 q1 e2 hg,by rcases hg with rfl | rfl <;> decide +kernel,h2⟩
 ·exact ⟨_,_,f2,a07 (a := 3) (b := 4) (h := 5) e1 q1 e2 hg (by decide) rfl (by decide),by rcases hg with rfl | rfl <;> decide +kernel,h2⟩
 ·exact ⟨_,_,f2,a07 (a := 3) (b := 4) (h := 5) e1 q1 e2 hg (by decide) rfl (by decide),by rcases hg with rfl | rfl <;> decide +kernel,h2⟩
 ·exact ⟨_,_,f2,a07 (a := 5) (b := 12) (h := 13) e1 q1 e2 hg (by decide) rfl (by decide),by rcases hg with rfl | rfl <;> decide +kernel,h2⟩
 ·exact ⟨_,_,f2,a07 (a := 8) (b := 15) (h := 17) e1 q1 e2 hg (by decide) rfl (by decide),by rcases hg with rfl | rfl <;> decide +kernel,h2⟩
theorem a44 (a b c : Int) : u7 (.tup [.int a,.int b,.int c]) = true := by simp [u7,D.plain,D.plains,D.py,D.pys,SeqAt.shaped,PyData.canLay0,PyData.canLayAll0,PyData.depth,PyData.depthAll]
theorem a0H (w u : Int × Int × Int) : pNe (wyD w) (wyD u) = some (.bl (!decide (w = u))):= by
 obtain ⟨a,b,c⟩ := w
 obtain ⟨d,e,f⟩ := u
 have : decide ((a,b,c) = (d,e,f)) = (decide (a = d) && (decide (b = e) && decide (c = f))):= by
  rw [Bool.eq_iff_iff]; simp
 rw [this]
 simp only [wyD,pNe,a44,Bool.and_self,if_true,D.py,D.pys,PyData.eqv,PyData.eqvAll,Bool.beq_eq_decide_eq,Bool.and_true]
theorem a7d (w : Int × Int × Int) : pNe (wyD w) .non = some (.bl true):= by
 have h : u7 .non = true := rfl
 simp only [wyD,pNe,a44,h,Bool.and_self,if_true,D.py,D.pys,PyData.eqv]
 rfl
theorem a7u {fc : DT} (g : D → Bool) (caps : List Sl) (fs : Option FS) : ∀ ds : List D,(∀ d ∈ ds,fc ⟨.val d :: caps,fs⟩ = some (g d,⟨.val d :: caps,fs⟩)) → B9 (fun d => some (.val d :: caps)) fc (dV 0) ds fs = some (ds.filter g,fs)
 | [],_ => rfl
 | d :: r,h => by
  have ih := a7u g caps fs r fun x hx => h x (List.mem_cons_of_mem _ hx)
  rw [B9,Option.bind_some,h d (List.mem_cons_self ..),Option.bind_some]
  cases hg : g d with
  | true=>
   rw [if_pos rfl,List.filter_cons_of_pos hg]
   show (B9 _ fc (dV 0) r fs).map _ = _
   rw [ih]
   rfl
  | false=>
   rw [if_neg Bool.false_ne_true,List.filter_cons_of_neg (by rw [hg]; decide)]
   exact ih
theorem b0U {W : List (Int × Int × Int)} {fm : D} (hf : fm = .non ∨ ∃ u ∈ W,fm = wyD u) (hW : (W.any fun a => W.any fun b => !decide (a = b)) = true) : ∃ g : D → Bool,(∀ w,pNe (wyD w) fm = some (.bl (g (wyD w)))) ∧ 1 ≤ ((W.map wyD).filter g).length:= by
 obtain ⟨a,ha,hb⟩ := List.any_eq_true.mp hW
 obtain ⟨b,hb,hab⟩ := List.any_eq_true.mp hb
 have hab : a ≠ b := by simpa using hab
 refine ⟨fun d => match pNe d fm with | some (.bl x) => x | _ => false,?_,?_⟩
 ·intro w
  rcases hf with rfl | ⟨u,_,rfl⟩
  ·simp only [a7d]
  ·simp only [a0H]
 ·apply List.length_pos_iff.mpr
  intro z
  have no : ∀ w ∈ W,¬ (pNe (wyD w) fm = some (.bl true)) := fun w hw e => by
   have : wyD w ∈ (W.map wyD).filter (fun d => match pNe d fm with | some (.bl x) => x | _ => false) := List.mem_filter.mpr ⟨List.mem_map_of_mem hw,by simp only [e]⟩
   rw [z] at this
   cases this
  rcases hf with rfl | ⟨u,hu,rfl⟩
  ·exact no a ha (a7d a)
  ·by_cases e : a = u
   ·refine no b hb ?_
    rw [a0H,decide_eq_false (fun z => hab (e.trans z.symm))]
    rfl
   ·refine no a ha ?_
    rw [a0H,decide_eq_false e]
    rfl
abbrev WOp : DFn := a1C WSp WPl WPr LDw WSt WMn
abbrev lWO : DM := a1l WSp WPl WPr LDw WSt WMn
def E3 : Nat := 4508400000000000000
def a7I : Nat := E3 * 52962
def Y1 : Nat := 265200000000000000
def exL (a b : Pt) : Prop := ∃ r : Rat,0 ≤ r ∧ Sz 90 r ∧ dsq a b = r * r ∧ 0 < r ∧ Gf a7I r
def exT (a b : Pt) : Prop := ∃ r : Rat,0 < r ∧ dsq a b = r * r ∧ Gr Y1 r
theorem exT.exL {a b : Pt} (h : exT a b) : exL a b:= by
 obtain ⟨r,r0,e,g⟩ := h
 exact ⟨r,Rat.le_of_lt r0,(g.sz (by unfold Y1; decide)).mono (by decide),e,r0,g.fine.mono (by unfold Y1 a7I E3; decide)⟩
def Tg (c : Bool) (ps : List Pt) : Prop := (∀ q ∈ nbs c ps,exT q.1 q.2) ∧ ∀ p ∈ ps,PtS 80 p
theorem a2H {t s : Int} (ht : 0 < t) (hs : 0 < s) : 0 < Rat.divInt t s:= by
 rw [Rat.divInt_eq_div,Rat.div_def]
 exact Rat.mul_pos (Rat.intCast_pos.mpr ht) (Rat.inv_pos.mpr (Rat.intCast_pos.mpr hs))
theorem a20 {s h : Int} (hd : (6630 : Int) % (s * h) = 0) : (6630 : Int) % s = 0 := Int.emod_eq_zero_of_dvd (Int.dvd_trans (Int.dvd_mul_right s h) (Int.dvd_of_emod_eq_zero hd))
def goP (a d : Pt) (r : Rat) : Pt := (a.1 + r * d.1,a.2 + r * d.2)
def R4 (w : Int × Int × Int) : Pt := (Rat.divInt w.1 w.2.2,Rat.divInt w.2.1 w.2.2)
def wyE (a b d : Pt) : Prop := (∃ r,0 < r ∧ Gr E3 r ∧ b = goP a d r) ∧ d.1 * d.1 + d.2 * d.2 = 1 ∧ Sz 5 d.1 ∧ Sz 5 d.2
structure Wy (ps ds : List Pt) : Prop where
 len : ps.length = ds.length + 1
 go : ∀ j a b d,ps[j]? = some a → ps[j + 1]? = some b → ds[j]? = some d → wyE a b d
 tn : ∀ j d e,ds[j]? = some d → ds[j + 1]? = some e → d ≠ e
theorem a3s {α : Type} {l : List α} {x y : α} {j : Nat} (h : (l ++ [x])[j]? = some y) : l[j]? = some y ∨ (j = l.length ∧ y = x):= by
 by_cases hj : j < l.length
 ·rw [List.getElem?_append_left hj] at h
  exact .inl h
 ·have jl := (List.getElem?_eq_some_iff.mp h).1
  rw [List.length_append,List.length_singleton] at jl
  have ej : j = l.length := by omega
  subst ej
  rw [List.getElem?_append_right (Nat.le_refl _),Nat.sub_self] at h
  exact .inr ⟨rfl,(Option.some.inj h).symm⟩
theorem a2S {α : Type} {l : List α} {y : α} {j : Nat} (h : l[j]? = some y) : j < l.length := (List.getElem?_eq_some_iff.mp h).1
theorem Wy.snoc {ps ds : List Pt} (h : Wy ps ds) {p q d : Pt} (hp : ps[ds.length]? = some p) (hw : wyE p q d) (hd : ∀ e,ds[ds.length - 1]? = some e → e ≠ d) : Wy (ps ++ [q]) (ds ++ [d]):= by
 have hl := h.len
 refine ⟨by rw [List.length_append,List.length_append,List.length_singleton,List.length_singleton]; omega,?_,?_⟩
 ·intro j a b c ha hb hc
  rcases a3s hc with hc | ⟨rfl,rfl⟩
  ·have jl := a2S hc
   rw [List.getElem?_append_left (by omega)] at ha hb
   exact h.go j a b c ha hb hc
  ·rw [List.getElem?_append_left (by omega),hp] at ha
   rcases a3s hb with hb | ⟨_,rfl⟩
   ·have := a2S hb
    omega
   ·cases ha
    exact hw
 ·intro j x y hx hy
  rcases a3s hy with hy | ⟨ej,rfl⟩
  ·have jl := a2S hy
   rw [List.getElem?_append_left (by omega)] at hx
   exact h.tn j x y hx hy
  ·rw [List.getElem?_append_left (by omega),show j = ds.length - 1 by omega] at hx
   exact hd x hx
theorem a8x {W : List (Int × Int × Int)} (h : okT W = true) {u w : Int × Int × Int} (hu : u ∈ W) (hw : w ∈ W) (ne : u ≠ w) (u0 : u.2.2 ≠ 0) (w0 : w.2.2 ≠ 0) : R4 u ≠ R4 w := fun e => by
 have := of_decide_eq_true (List.all_eq_true.mp (List.all_eq_true.mp h u hu) w hw)
 unfold R4 at e
 have e1 := (Rat.divInt_eq_divInt_iff u0 w0).mp (congrArg Prod.fst e)
 have e2 := (Rat.divInt_eq_divInt_iff u0 w0).mp (congrArg Prod.snd e)
 rcases this with z | z | z
 ·exact ne z
 ·exact z e1
 ·exact z e2
theorem b0d {w : Int × Int × Int} {z : Int × Int} (hw : w.1 * w.1 + w.2.1 * w.2.1 = w.2.2 * w.2.2) (h0 : 0 < w.2.2) (h1 : w.2.2 ≤ 17) (h2 : w.1.natAbs ≤ 17) (h3 : w.2.1.natAbs ≤ 17) (z1 : 0 < z.1) (z2 : 0 < z.2) (z3 : z.1 ≤ 40000000000000) (z5 : (6630 : Int) % (z.2 * w.2.2) = 0) (p : Pt) : wyE p (p.1 + Rat.divInt (z.1 * w.1) (z.2 * w.2.2),p.2 + Rat.divInt (z.1 * w.2.1) (z.2 * w.2.2)) (R4 w):= by
 refine ⟨⟨Rat.divInt z.1 z.2,a2H z1 z2,Gr.div z2 (a20 z5) (by unfold E3; omega),?_⟩,?_,Sz.of_divInt (by omega) (show _ < _ by omega) (show _ < _ by omega),Sz.of_divInt (by omega) (show _ < _ by omega) (show _ < _ by omega)⟩
 ·unfold goP R4
  rw [Rat.divInt_mul_divInt,Rat.divInt_mul_divInt]
 ·have e1 : (w.2.2 : Rat) ≠ 0 := fun z => by have := Rat.intCast_eq_zero_iff.mp z; omega
  have e3 : (w.1 : Rat) * w.1 + (w.2.1 : Rat) * w.2.1 = (w.2.2 : Rat) * w.2.2 := by rw [← Rat.intCast_mul,← Rat.intCast_mul,← Rat.intCast_mul,← Rat.intCast_add,hw]
  unfold R4
  rw [Rat.divInt_eq_div,Rat.divInt_eq_div]
  grind
structure OpJ (W : List (Int × Int × Int)) (n i : Nat) (p : Pt) (ps ds : List Pt) (fm : D) (f : FS) : Prop where
 len : ps.length = i + 1
 last : ps[i]? = some p
 gr : ∀ q ∈ ps,Gr (46410 + i * E3) q.1 ∧ Gr (46410 + i * E3) q.2
 ex : ∀ (j : Nat) a b,ps[j]? = some a → ps[j + 1]? = some b → exT a b
 fm : (fm = .non ∧ ds = []) ∨ ∃ w ∈ W,fm = wyD w ∧ ds[ds.length - 1]? = some (R4 w)
 wy : Wy ps ds
 fd : Fd3 (n + 2 * i) f
def ojS (most : Int) (W : List (Int × Int × Int)) (Z : List (Int × Int)) (p : Pt) (ps : List Pt) (fm : D) (x8 x9 x10 : Sl) (f : FS) : DS:=
 ⟨[.val .feed,.val (.int most),.val (.lst (W.map wyD)),.val (.lst (Z.map szD)),.val (fr p.1),.val (fr p.2),.own (ps.map pt),.val fm,x8,x9,x10],some f⟩
theorem a9Z {W : List (Int × Int × Int)} {Z : List (Int × Int)} (h : okW W Z = true) : (∀ w ∈ W,(w.1 * w.1 + w.2.1 * w.2.1 = w.2.2 * w.2.2 ∧ 0 < w.2.2 ∧ w.2.2 ≤ 17 ∧ w.1.natAbs ≤ 17 ∧ w.2.1.natAbs ≤ 17) ∧ ∀ z ∈ Z,0 < z.1 ∧ 0 < z.2 ∧ z.1 ≤ 40000000000000 ∧ z.2 ≤ 3 ∧ 6630 % (z.2 * w.2.2) = 0) ∧
  (W.length ≤ 12 ∧ 1 ≤ Z.length ∧ Z.length ≤ 5) ∧ (W.any fun a => W.any fun b => !decide (a = b)) = true:= by
 unfold okW at h
 have h := (Bool.and_eq_true_iff.mp h).1
 unfold a5p at h
 rw [Bool.and_eq_true,Bool.and_eq_true] at h
 refine ⟨fun w hw => ?_,of_decide_eq_true h.1.2,h.2⟩
 have := List.all_eq_true.mp h.1.1 w hw
 unfold okY at this
 rw [Bool.and_eq_true] at this
 exact ⟨of_decide_eq_true this.1,fun z hz => of_decide_eq_true (List.all_eq_true.mp this.2 z hz)⟩
theorem a8d {a b h t s : Int} (hw : a * a + b * b = h * h) (h0 : 0 < h) (hs : 0 < s) (p : Pt) : dsq p (p.1 + Rat.divInt (t * a) (s * h),p.2 + Rat.divInt (t * b) (s * h)) = Rat.divInt t s * Rat.divInt t s:= by
 have e1 : (h : Rat) ≠ 0 := fun z => by have := Rat.intCast_eq_zero_iff.mp z; omega
 have e2 : (s : Rat) ≠ 0 := fun z => by have := Rat.intCast_eq_zero_iff.mp z; omega
 have e3 : (a : Rat) * a + (b : Rat) * b = (h : Rat) * h := by rw [← Rat.intCast_mul,← Rat.intCast_mul,← Rat.intCast_mul,← Rat.intCast_add,hw]
 unfold dsq
 rw [Rat.divInt_eq_div,Rat.divInt_eq_div,Rat.divInt_eq_div,Rat.intCast_mul,Rat.intCast_mul,Rat.intCast_mul]
 grind
theorem b3H {w : Int × Int × Int} {z : Int × Int} (hw : w.1 * w.1 + w.2.1 * w.2.1 = w.2.2 * w.2.2) (h0 : 0 < w.2.2) (z1 : 0 < z.1) (z2 : 0 < z.2) (z3 : z.1 ≤ 40000000000000) (z4 : z.2 ≤ 3) (z5 : (6630 : Int) % (z.2 * w.2.2) = 0) (p : Pt) : exT p (p.1 + Rat.divInt (z.1 * w.1) (z.2 * w.2.2),p.2 + Rat.divInt (z.1 * w.2.1) (z.2 * w.2.2)):=
 ⟨Rat.divInt z.1 z.2,a2H z1 z2,a8d hw h0 z2 p,Gr.div z2 (a20 z5) (by unfold Y1; omega)⟩
theorem a7e {t s a h : Int} (ht : t ≤ 40000000000000) (t0 : 0 < t) (hs : 0 < s) (h0 : 0 < h) (ha : a.natAbs ≤ 17) (hd : (6630 : Int) % (s * h) = 0) : Gr E3 (Rat.divInt (t * a) (s * h)):= by
 refine Gr.div (Int.mul_pos hs h0) hd ?_
 rw [Int.natAbs_mul]
 have : t.natAbs * a.natAbs ≤ 40000000000000 * 17 := Nat.mul_le_mul (by omega) ha
 unfold E3
 omega
theorem a2R {i : Nat} (hi : i ≤ 9) : 46410 + i * E3 < 2 ^ 80 := by unfold E3; omega
theorem a7i (ps : List Pt) (q : Pt) : (ps ++ [q]).map pt = ps.map pt ++ [pt q] := by simp
theorem a9w {most : Int} {n i : Nat} {W : List (Int × Int × Int)} {Z : List (Int × Int)} {p : Pt} {ps ds : List Pt} {fm : D} {f : FS} (x8 x9 x10 : Sl) (ok : okW W Z = true) (I : OpJ W n i p ps ds fm f) (hi : i < 9) (hn : n < 2 ^ 27) :
  ∃ p' ps' ds' fm' x9' x10' f',lWO (ojS most W Z p ps fm x8 x9 x10 f) = some (.next,ojS most W Z p' ps' fm' x8 x9' x10' f') ∧ OpJ W n (i + 1) p' ps' ds' fm' f':= by
 obtain ⟨okw,⟨wl,zl1,zl2⟩,wn⟩ := a9Z ok
 have okt := (Bool.and_eq_true_iff.mp ok).2
 obtain ⟨g,hg,hF⟩ := b0U (I.fm.imp (·.1) fun ⟨w,a,b,_⟩ => ⟨w,a,b⟩) wn
 have hFl : ((W.map wyD).filter g).length ≤ 12 := Nat.le_trans (List.length_filter_le ..) (by rw [List.length_map]; exact wl)
 have c := a7u (fc := dB (dOp pNe (dL 0) (dL 1))) g [.val fm] (some f) (W.map wyD) (fun d hd => by
  obtain ⟨w,_,rfl⟩ := List.mem_map.mp hd
  exact t7 (a8 rfl rfl (hg w)))
 obtain ⟨r1,f1,e1,a1,a2,h1⟩ := B7 (((W.map wyD).filter g).length : Int) I.fd
 obtain ⟨d1,m1,q1⟩ := Q0 a1 a2
 have gw := (List.mem_filter.mp m1).2
 obtain ⟨w,hw,rfl⟩ := List.mem_map.mp (List.mem_filter.mp m1).1
 have nw := hg w
 rw [gw] at nw
 obtain ⟨r2,f2,e2,b1,b2,h2⟩ := B7 ((Z.map szD).length : Int) h1 (by rw [List.length_map]; omega) (by omega) (by rw [List.length_map]; omega)
 obtain ⟨d2,m2,q2⟩ := Q0 b1 b2
 obtain ⟨z,hz,rfl⟩ := List.mem_map.mp m2
 obtain ⟨⟨w1,w2,w3,w4,w5⟩,hzz⟩ := okw w hw
 obtain ⟨z1,z2,z3,z4,z5⟩ := hzz z hz
 have gl := I.gr p (List.mem_of_getElem? I.last)
 have gx := a7e z3 z1 z2 w2 w4 z5
 have gy := a7e z3 z1 z2 w2 w5 z5
 have bb := a2R (i := i) (by omega)
 have gb := a2R (i := i + 1) (by omega)
 have e46 : 46410 + i * E3 + E3 = 46410 + (i + 1) * E3 := by unfold E3; omega
 have nx := (gl.1.add gx)
 have ny := (gl.2.add gy)
 rw [e46] at nx ny
 have sgx := gx.sz (by unfold E3; decide)
 have sgy := gy.sz (by unfold E3; decide)
 have p1 := a0o z.1 z.2 w.1 w.2.2 (some f2) (by omega) (by omega) (k := 50) (l := 10) (show _ < _ by omega) (show _ < _ by omega) (show _ < _ by omega) (show _ < _ by omega) (by decide)
 have p2 := a0o z.1 z.2 w.2.1 w.2.2 (some f2) (by omega) (by omega) (k := 50) (l := 10) (show _ < _ by omega) (show _ < _ by omega) (show _ < _ by omega) (show _ < _ by omega) (by decide)
 have s1 := Q2 p.1 _ (some f2) (gl.1.sz bb) sgx (by decide)
 have s2 := Q2 p.2 _ (some f2) (gl.2.sz bb) sgy (by decide)
 have sp := X1 _ _ (some f2) (nx.sz gb) (ny.sz gb) (by decide)
 have ex := b3H w1 w2 z1 z2 z3 z4 z5 p
 have wyl := I.wy.len
 have ws := I.wy.snoc (p := p) (by rw [show ds.length = i by have := I.len; omega]; exact I.last) (b0d w1 w2 w3 w4 w5 z1 z2 z3 z5 p) (fun e he => by
  rcases I.fm with ⟨_,hd⟩ | ⟨u,hu,hfm,hd⟩
  ·rw [hd] at he
   simp at he
  ·rw [hd] at he
   cases he
   rw [hfm,a0H] at nw
   exact a8x okt hu hw (fun z => by rw [z,decide_eq_true rfl] at nw; simp at nw) (by have := (okw u hu).1.2.1; omega) (by omega))
 have il := I.len
 have ll : (ps.map pt).length < sizeLine := Nat.lt_of_lt_of_le (by rw [List.length_map,il]; omega : (ps.map pt).length < 100) (by decide)
 generalize hF' : (W.map wyD).filter g = F at *
 refine ⟨(p.1 + Rat.divInt (z.1 * w.1) (z.2 * w.2.2),p.2 + Rat.divInt (z.1 * w.2.1) (z.2 * w.2.2)),ps ++ [(p.1 + Rat.divInt (z.1 * w.1) (z.2 * w.2.2),p.2 + Rat.divInt (z.1 * w.2.1) (z.2 * w.2.2))],ds ++ [R4 w],wyD w,.own F,.val (szD z),f2,?_,?_⟩
 ·unfold ojS
  rw [a7i]
  show a1l WSp WPl WPr LDw WSt WMn _ = _
  unfold a1l
  rw [i9 (s1 := ⟨[.val .feed,.val (.int most),.val (.lst (W.map wyD)),.val (.lst (Z.map szD)),.val (fr p.1),.val (fr p.2),.own (ps.map pt),.val fm,x8,.own F,x10],some f⟩) (B2 (s1 := ⟨[.val .feed,.val (.int most),.val (.lst (W.map wyD)),.val (.lst (Z.map szD)),.val (fr p.1),.val (fr p.2),.own (ps.map pt),.val fm,x8,x9,x10],some f⟩) (M4 (idx := [7]) (ds := W.map wyD) (R := F) (s1 := ⟨[.val .feed,.val (.int most),.val (.lst (W.map wyD)),.val (.lst (Z.map szD)),.val (fr p.1),.val (fr p.2),.own (ps.map pt),.val fm,x8,x9,x10],some f⟩) rfl (T6 (by rw [List.length_map]; omega)) c) (show 9 < 11 by decide)),
   i9 (s1 := ⟨[.val .feed,.val (.int most),.val (.lst (W.map wyD)),.val (.lst (Z.map szD)),.val (fr p.1),.val (fr p.2),.own (ps.map pt),.val (wyD w),x8,.own F,x10],some f1⟩) (l5 (a8 rfl (p7 rfl e1) (D0 q1)) rfl),
   i9 (s1 := ⟨[.val .feed,.val (.int most),.val (.lst (W.map wyD)),.val (.lst (Z.map szD)),.val (fr p.1),.val (fr p.2),.own (ps.map pt),.val (wyD w),x8,.own F,.val (szD z)],some f2⟩) (l5 (a8 rfl (p7 rfl e2) (D0 q2)) rfl),
   i9 (s1 := ⟨[.val .feed,.val (.int most),.val (.lst (W.map wyD)),.val (.lst (Z.map szD)),.val (fr (p.1 + (Rat.divInt (z.1 * w.1) (z.2 * w.2.2)))),.val (fr p.2),.own (ps.map pt),.val (wyD w),x8,.own F,.val (szD z)],some f2⟩) (l5 (p7 (e8 rfl (e8 (p7 (e8 rfl (e8 (y9 (a8 rfl rfl rfl) (a8 rfl rfl rfl)) rfl)) p1) rfl)) s1) rfl),
   i9 (s1 := ⟨[.val .feed,.val (.int most),.val (.lst (W.map wyD)),.val (.lst (Z.map szD)),.val (fr (p.1 + (Rat.divInt (z.1 * w.1) (z.2 * w.2.2)))),.val (fr (p.2 + (Rat.divInt (z.1 * w.2.1) (z.2 * w.2.2)))),.own (ps.map pt),.val (wyD w),x8,.own F,.val (szD z)],some f2⟩) (l5 (p7 (e8 rfl (e8 (p7 (e8 rfl (e8 (y9 (a8 rfl rfl rfl) (a8 rfl rfl rfl)) rfl)) p2) rfl)) s2) rfl)]
  exact U1 rfl (p7 (e8 rfl (e8 rfl rfl)) sp) rfl ll
 ·refine ⟨by simp [il],?_,?_,?_,.inr ⟨w,hw,rfl,by rw [List.length_append,List.length_singleton,Nat.add_sub_cancel,List.getElem?_append_right (Nat.le_refl _),Nat.sub_self]; rfl⟩,ws,h2.mono (by omega)⟩
  ·rw [List.getElem?_append_right (by omega),il,Nat.sub_self]
   rfl
  ·intro q hq
   rcases List.mem_append.mp hq with hq | hq
   ·have := I.gr q hq
    exact ⟨this.1.mono (by omega),this.2.mono (by omega)⟩
   ·rw [List.mem_singleton.mp hq]
    exact ⟨nx,ny⟩
  ·intro j a b ha hb
   by_cases hj : j + 1 < ps.length
   ·rw [List.getElem?_append_left (by omega)] at ha hb
    exact I.ex j a b ha hb
   ·have hjl := (List.getElem?_eq_some_iff.mp hb).1
    simp only [List.length_append,List.length_singleton] at hjl
    have ej : j = i := by omega
    subst ej
    rw [List.getElem?_append_left (by omega),I.last] at ha
    rw [List.getElem?_append_right (by omega),il,Nat.sub_self] at hb
    cases ha
    rw [List.getElem?_singleton,if_pos rfl] at hb
    cases hb
    exact ex
structure ExS (c : Bool) (ps : List Pt) : Prop where
 lo : 1 ≤ ps.length
 hi : ps.length ≤ 9
 sz : ∀ p ∈ ps,PtS 200 p
 ex : ∀ q ∈ nbs c ps,exL q.1 q.2
 ne : 1 ≤ (nbs c ps).length
theorem b2L {n : Nat} {f : FS} (most : Int) (hm : 2 ≤ most ∧ most ≤ 9) (h : Fd3 n f) (hn : n < 2 ^ 26) : ∃ ps ds f',WOp [.feed,.int most] (some f) = some (.tup [.bl false,.tup (ps.map pt)],some f') ∧ ExS false ps ∧ Wy ps ds ∧ Tg false ps ∧ Fd3 (n + 30) f':= by
 obtain ⟨W,Z,f1,e1,ok,h1⟩ := a9c h (by omega)
 obtain ⟨p,q,f2,e2,g1,g2,h2⟩ := a58 h1 (by omega)
 have sp := X1 p q (some f2) (g1.sz (by decide)) (g2.sz (by decide)) (by decide)
 obtain ⟨r,f3,e3,r1,r2,h3⟩ := B7 (most - 1) h2
 obtain ⟨m,hmm⟩ : ∃ m : Nat,(1 : Int) + r = (m : Int) := ⟨(1 + r).toNat,by omega⟩
 have rm : L4 [.int ((1 : Int) + r)] = some (ups 0 m) := by rw [hmm]; exact V2 (by omega)
 obtain ⟨s',lp,p',ps,ds,fm,x8,x9,x10,f',rfl,I⟩ := N7 (t := i4 8) (b := lWO) (fun i s => ∃ p ps ds fm x8 x9 x10 f',s = ojS most W Z p ps fm x8 x9 x10 f' ∧ OpJ W (n + 5) i p ps ds fm f') (ups 0 m) 0 (ojS most W Z (p,q) [(p,q)] .non .no .no .no f3)
  ⟨(p,q),[(p,q)],[],.non,.no,.no,.no,f3,rfl,rfl,rfl,(fun z hz => by rw [List.mem_singleton.mp hz]; exact ⟨g1.mono (by omega),g2.mono (by omega)⟩),(fun j a b _ hb => by simp at hb),.inl ⟨rfl,rfl⟩,⟨rfl,(fun j a b d _ _ hd => by simp at hd),(fun j d e hd _ => by simp at hd)⟩,h3⟩ (by
   rintro i d s hd ⟨p,ps,ds,fm,x8,x9,x10,f',rfl,I⟩
   obtain ⟨rfl,hi⟩ := Q3 hd
   rw [Nat.zero_add] at *
   obtain ⟨p',ps',ds',fm',x9',x10',f'',e,I'⟩ := a9w (.val (.int ((0 : Int) + i))) x9 x10 ok I (by omega) (by omega)
   exact ⟨ojS most W Z p ps fm (.val (.int ((0 : Int) + i))) x9 x10 f',_,rfl,.inl e,p',ps',ds',fm',_,x9',x10',f'',rfl,I'⟩)
 rw [Nat.zero_add,J3] at I
 have l1 := I.len
 have bb := a2R (i := m) (by omega)
 refine ⟨ps,ds,f',n8 (s := ojS most W Z p' ps fm x8 x9 x10 f') ?_,⟨by omega,by omega,fun z hz => ?_,fun z hz => ?_,by have nf := N6 false ps; simp at nf; omega⟩,I.wy,⟨fun z hz => ?_,fun z hz => by have := I.gr z hz; exact ⟨this.1.sz bb,this.2.sz bb⟩⟩,I.fd.mono (by omega)⟩
 rotate_left
 ·have := I.gr z hz
  exact ⟨(this.1.sz bb).mono (by decide),(this.2.sz bb).mono (by decide)⟩
 ·obtain ⟨j,hj⟩ := List.getElem?_of_mem hz
  obtain ⟨q1,q2⟩ := a4I hj
  exact (I.ex j _ _ q1 q2).exL
 ·obtain ⟨j,hj⟩ := List.getElem?_of_mem hz
  obtain ⟨q1,q2⟩ := a4I hj
  exact I.ex j _ _ q1 q2
 show a28 WSp WPl WPr LDw WSt WMn ⟨[.val .feed,.val (.int most),.no,.no,.no,.no,.no,.no,.no,.no,.no],some f⟩ = _
 unfold a28
 have rg : (a0 (dOp t6 (dC (.int 1)) (c6 LDw (a0 (dV 0) (a0 (dOp t9 (dL 1) (dC (.int 1))) a6)))) a6) (ojS most W Z (p,q) [(p,q)] .non .no .no .no f2) = some ([.int ((1 : Int) + r)],ojS most W Z (p,q) [(p,q)] .non .no .no .no f3):=
  e8 (a8 rfl (p7 (e8 rfl (e8 (a8 rfl rfl rfl) rfl)) e3) rfl) rfl
 rw [i9 (s1 := ⟨[.val .feed,.val (.int most),.val (.lst (W.map wyD)),.val (.lst (Z.map szD)),.no,.no,.no,.no,.no,.no,.no],some f1⟩) (l5 (p7 rfl e1) rfl),
  i9 (s1 := ⟨[.val .feed,.val (.int most),.val (.lst (W.map wyD)),.val (.lst (Z.map szD)),.val (fr p),.val (fr q),.no,.no,.no,.no,.no],some f2⟩) (l5 (p7 rfl e2) rfl),
  i9 (s1 := ⟨[.val .feed,.val (.int most),.val (.lst (W.map wyD)),.val (.lst (Z.map szD)),.val (fr p),.val (fr q),.own [pt (p,q)],.no,.no,.no,.no],some f2⟩) (B2 (s1 := ⟨[.val .feed,.val (.int most),.val (.lst (W.map wyD)),.val (.lst (Z.map szD)),.val (fr p),.val (fr q),.no,.no,.no,.no,.no],some f2⟩) (V7 (p7 rfl sp)) (show 6 < 11 by decide)),
  i9 (s1 := ojS most W Z (p,q) [(p,q)] .non .no .no .no f2) (l5 rfl rfl),
  i9 ((T1 rg rm).trans lp)]
 exact m6 (y9 rfl (B1 rfl rfl))
theorem a8m {n : Nat} {f : FS} (most : Int) (hm : 2 ≤ most ∧ most ≤ 9) (h : Fd3 n f) (hn : n < 2 ^ 26) : ∃ ps f',WOp [.feed,.int most] (some f) = some (.tup [.bl false,.tup (ps.map pt)],some f') ∧ ExS false ps ∧ Tg false ps ∧ Fd3 (n + 30) f':= by
 obtain ⟨ps,_,f',e,hx,_,ht,hf⟩ := b2L most hm h hn
 exact ⟨ps,f',e,hx,ht,hf⟩
def prI (z : Int × Int) : D := .tup [.int z.1,.int z.2]
abbrev v0 (l : List (Int × Int)) : D := .tup (l.map prI)
def T7 : List (List (Int × Int)) := [[(0,0),(4,0),(0,3)],[(0,0),(14,0),(5,12)],[(0,0),(2,0),(2,2),(0,2)],[(0,0),(3,4),(3,0),(0,4)],[(0,0),(5,0),(0,0),(3,4)],
 [(0,0),(3,0),(3,4),(6,8),(0,8),(3,4)],[(0,0),(6,0),(6,2),(2,2),(2,4),(6,4),(6,6),(0,6)]]
def Q5 (l : List (Int × Int)) : Bool := decide (1 ≤ l.length ∧ l.length ≤ 8) && (l.all fun z => decide (z.1.natAbs ≤ 14 ∧ z.2.natAbs ≤ 14)) && (nbs true l).all fun q => (List.range 16).any fun L => decide (1 ≤ L ∧ (q.1.1 - q.2.1) * (q.1.1 - q.2.1) + (q.1.2 - q.2.2) * (q.1.2 - q.2.2) = (L : Int) * L)
theorem b32 : (T7.all fun l => decide (l.length ≤ 8) && (List.range l.length).all fun k => Q5 (l.drop k ++ l.take k) && Q5 (l.drop k ++ l.take k).reverse) = true := by decide +kernel
theorem a8t {l : List (Int × Int)} (hl : l ∈ T7) {k : Nat} (hk : k < l.length) : l.length ≤ 8 ∧ Q5 (l.drop k ++ l.take k) = true ∧ Q5 (l.drop k ++ l.take k).reverse = true:= by
 have h := List.all_eq_true.mp b32 l hl
 rw [Bool.and_eq_true] at h
 have h2 := List.all_eq_true.mp h.2 k (List.mem_range.mpr hk)
 rw [Bool.and_eq_true] at h2
 exact ⟨of_decide_eq_true h.1,h2.1,h2.2⟩
theorem a5a {l : List (Int × Int)} (h : Q5 l = true) : (1 ≤ l.length ∧ l.length ≤ 8) ∧ (∀ z ∈ l,z.1.natAbs ≤ 14 ∧ z.2.natAbs ≤ 14) ∧ ∀ q ∈ nbs true l,∃ L : Nat,L < 16 ∧ 1 ≤ L ∧ (q.1.1 - q.2.1) * (q.1.1 - q.2.1) + (q.1.2 - q.2.2) * (q.1.2 - q.2.2) = (L : Int) * L:= by
 unfold Q5 at h
 rw [Bool.and_eq_true,Bool.and_eq_true] at h
 refine ⟨of_decide_eq_true h.1.1,fun z hz => of_decide_eq_true (List.all_eq_true.mp h.1.2 z hz),fun q hq => ?_⟩
 obtain ⟨L,h1,h2⟩ := List.any_eq_true.mp (List.all_eq_true.mp h.2 q hq)
 exact ⟨L,List.mem_range.mp h1,of_decide_eq_true h2⟩
theorem b3V {o1 e1 o2 e2 a b h L k : Rat} (hp : a * a + b * b = h * h) (hl : (o1 - o2) * (o1 - o2) + (e1 - e2) * (e1 - e2) = L * L) (x y : Rat) :
  dsq (x + k * (o1 * a - e1 * b),y + k * (o1 * b + e1 * a)) (x + k * (o2 * a - e2 * b),y + k * (o2 * b + e2 * a)) = k * h * L * (k * h * L):= by
 have e : dsq (x + k * (o1 * a - e1 * b),y + k * (o1 * b + e1 * a)) (x + k * (o2 * a - e2 * b),y + k * (o2 * b + e2 * a)) = k * k * (((o1 - o2) * (o1 - o2) + (e1 - e2) * (e1 - e2)) * (a * a + b * b)):= by
  unfold dsq; grind
 rw [e,hp,hl]
 grind
structure AbH (a b h t u : Int) : Prop where
 py : a * a + b * b = h * h
 h0 : 0 < h
 h1 : h ≤ 13
 a1 : a.natAbs ≤ 12
 b1 : b.natAbs ≤ 12
 t0 : 0 < t
 t1 : t ≤ 3
 u0 : 0 < u
 u1 : u ≤ 2
 dv : (6630 : Int) % (u * h) = 0
def clF (a b h t u : Int) (x y : Rat) (z : Int × Int) : Pt := (x + Rat.divInt (t * (z.1 * a - z.2 * b)) (u * h),y + Rat.divInt (t * (z.1 * b + z.2 * a)) (u * h))
theorem a0q (t c d : Int) : Rat.divInt (t * c) d = Rat.divInt t d * (c : Rat):= by
 rw [Rat.divInt_eq_div,Rat.divInt_eq_div,Rat.intCast_mul,Rat.div_def,Rat.div_def]
 grind
theorem a9z {a b h t u : Int} (A : AbH a b h t u) (x y : Rat) {z w : Int × Int} {L : Nat} (hL : L < 16) (hL1 : 1 ≤ L) (e : (z.1 - w.1) * (z.1 - w.1) + (z.2 - w.2) * (z.2 - w.2) = (L : Int) * L) : exT (clF a b h t u x y z) (clF a b h t u x y w):= by
 obtain ⟨py,h0,_,_,_,t0,t1,u0,u1,dv⟩ := A
 have bL : (t * L).natAbs ≤ 45:= by
  rw [Int.natAbs_mul]
  have : t.natAbs * (L : Int).natAbs ≤ 3 * 15 := Nat.mul_le_mul (by omega) (by omega)
  omega
 refine ⟨Rat.divInt (t * L) u,a2H (Int.mul_pos t0 (by omega)) u0,?_,Gr.div u0 (a20 dv) (by unfold Y1; omega)⟩
 ·have e1 : (h : Rat) ≠ 0 := fun z => by have := Rat.intCast_eq_zero_iff.mp z; omega
  have e2 : (u : Rat) ≠ 0 := fun z => by have := Rat.intCast_eq_zero_iff.mp z; omega
  have hp : (a : Rat) * a + (b : Rat) * b = (h : Rat) * h := by rw [← Rat.intCast_mul,← Rat.intCast_mul,← Rat.intCast_mul,← Rat.intCast_add,py]
  have hl : ((z.1 : Rat) - w.1) * ((z.1 : Rat) - w.1) + ((z.2 : Rat) - w.2) * ((z.2 : Rat) - w.2) = ((L : Int) : Rat) * ((L : Int) : Rat):= by
   rw [← Rat.intCast_sub,← Rat.intCast_sub,← Rat.intCast_mul,← Rat.intCast_mul,← Rat.intCast_mul,← Rat.intCast_add,e]
  have k := b3V (k := Rat.divInt t (u * h)) hp hl x y
  unfold clF
  rw [a0q,a0q,a0q,a0q,Rat.intCast_sub,Rat.intCast_add,Rat.intCast_sub,Rat.intCast_add,Rat.intCast_mul,Rat.intCast_mul,Rat.intCast_mul,Rat.intCast_mul,Rat.intCast_mul,Rat.intCast_mul,Rat.intCast_mul,Rat.intCast_mul,k]
  have q : Rat.divInt t (u * h) * (h : Rat) * ((L : Int) : Rat) = Rat.divInt (t * L) u:= by
   rw [a0q,Rat.divInt_eq_div,Rat.divInt_eq_div,Rat.intCast_mul]
   grind
  rw [q]
theorem a0T {a b h t u c : Int} (A : AbH a b h t u) (hc : c.natAbs ≤ 336) {x : Rat} (hx : Gr 46410 x) : Gr 10000000 (x + Rat.divInt (t * c) (u * h)):= by
 have : Gr 9000000 (Rat.divInt (t * c) (u * h)):= by
  refine Gr.div (Int.mul_pos A.u0 A.h0) A.dv ?_
  rw [Int.natAbs_mul]
  have := A.t0
  have := A.t1
  have : t.natAbs * c.natAbs ≤ 3 * 336 := Nat.mul_le_mul (by omega) hc
  omega
 exact (hx.add this).mono (by decide)
theorem a0v {a z : Int} (ha : a.natAbs ≤ 12) (hz : z.natAbs ≤ 14) : (z * a).natAbs ≤ 168:= by
 rw [Int.natAbs_mul]
 exact Nat.le_trans (Nat.mul_le_mul hz ha) (by decide)
theorem a6i {a b : Int} {z : Int × Int} (ha : a.natAbs ≤ 12) (hb : b.natAbs ≤ 12) (h1 : z.1.natAbs ≤ 14) (h2 : z.2.natAbs ≤ 14) : (z.1 * a - z.2 * b).natAbs ≤ 336 ∧ (z.1 * b + z.2 * a).natAbs ≤ 336:=
 ⟨Nat.le_trans (Int.natAbs_sub_le ..) (Nat.add_le_add (a0v ha h1) (a0v hb h2)),Nat.le_trans (Int.natAbs_add_le ..) (Nat.add_le_add (a0v hb h1) (a0v ha h2))⟩
abbrev WCl : DFn := a3P WSp WPl WPr WSt LDw
abbrev lWC : DM := a0A WSp WPl WPr WSt LDw
abbrev clS (L : List D) (l : D) (k a b h t u : Int) (x y : Rat) (x10 x11 x12 x13 x14 : Sl) (f : FS) : DS:=
 ⟨[.val .feed,.own L,.val l,.val (.int k),.val (.int a),.val (.int b),.val (.int h),.val (.tup [.int t,.int u]),.val (fr x),.val (fr y),x10,x11,x12,x13,x14],some f⟩
theorem O7 {i : Int} (h : i.natAbs ≤ 400) : v7 i = true := Bd.bits (k := 10) (show i.natAbs < 2 ^ 10 by omega) (by decide)
theorem b2o {a b h t u : Int} (A : AbH a b h t u) {x y : Rat} (hx : Gr 46410 x) (hy : Gr 46410 y) (L : List D) (l : D) (k : Int) {z : Int × Int} (h1 : z.1.natAbs ≤ 14) (h2 : z.2.natAbs ≤ 14) (acc : List D) (hl : acc.length ≤ 20) (x13 x14 : Sl) (f : FS) :
  ∃ y13 y14,lWC (clS L l k a b h t u x y (.own acc) (.val (.int z.1)) (.val (.int z.2)) x13 x14 f) = some (.next,clS L l k a b h t u x y (.own (acc ++ [pt (clF a b h t u x y z)])) (.val (.int z.1)) (.val (.int z.2)) y13 y14 f):= by
 obtain ⟨c1,c2⟩ := a6i (z := z) A.a1 A.b1 h1 h2
 have m1 := p9 (O7 (Nat.le_trans h1 (by decide))) (O7 (Nat.le_trans A.a1 (by decide)))
 have m2 := p9 (O7 (Nat.le_trans h2 (by decide))) (O7 (Nat.le_trans A.b1 (by decide)))
 have m3 := p9 (O7 (Nat.le_trans h1 (by decide))) (O7 (Nat.le_trans A.b1 (by decide)))
 have m4 := p9 (O7 (Nat.le_trans h2 (by decide))) (O7 (Nat.le_trans A.a1 (by decide)))
 have t0 := A.t0
 have t1 := A.t1
 have u0 := A.u0
 have u1 := A.u1
 have hh0 := A.h0
 have hh1 := A.h1
 have p1 := a0o t u (z.1 * a - z.2 * b) h (some f) (by omega) (by omega) (k := 10) (l := 10) (show _ < _ by omega) (show _ < _ by omega) (show _ < _ by omega) (show _ < _ by omega) (by decide)
 have p2 := a0o t u (z.1 * b + z.2 * a) h (some f) (by omega) (by omega) (k := 10) (l := 10) (show _ < _ by omega) (show _ < _ by omega) (show _ < _ by omega) (show _ < _ by omega) (by decide)
 have sd : ∀ c : Int,c.natAbs ≤ 336 → Sz 80 (Rat.divInt (t * c) (u * h)) := fun c hc => by
  have : (t * c).natAbs ≤ 3 * 336 := by rw [Int.natAbs_mul]; exact Nat.mul_le_mul (by omega) hc
  have : (u * h).natAbs ≤ 2 * 13 := by rw [Int.natAbs_mul]; exact Nat.mul_le_mul (by omega) (by omega)
  exact Sz.of_divInt (Int.mul_ne_zero (by omega) (by omega)) (by omega) (by omega)
 have s1 := Q2 x _ (some f) (hx.sz (by decide)) (sd _ c1) (by decide)
 have s2 := Q2 y _ (some f) (hy.sz (by decide)) (sd _ c2) (by decide)
 have sp := X1 _ _ (some f) ((a0T A c1 hx).sz (by decide)) ((a0T A c2 hy).sz (by decide)) (by decide)
 refine ⟨.val (fr (Rat.divInt (t * (z.1 * a - z.2 * b)) (u * h))),.val (fr (Rat.divInt (t * (z.1 * b + z.2 * a)) (u * h))),?_⟩
 unfold clF
 show a0A WSp WPl WPr WSt LDw _ = _
 unfold a0A
 rw [i9 (s1 := clS L l k a b h t u x y (.own acc) (.val (.int z.1)) (.val (.int z.2)) (.val (fr (Rat.divInt (t * (z.1 * a - z.2 * b)) (u * h)))) x14 f) (l5 (p7 (e8 rfl (e8 (y9 (a8 (a8 rfl rfl m1) (a8 rfl rfl m2) rfl) rfl) rfl)) p1) rfl),
  i9 (s1 := clS L l k a b h t u x y (.own acc) (.val (.int z.1)) (.val (.int z.2)) (.val (fr (Rat.divInt (t * (z.1 * a - z.2 * b)) (u * h)))) (.val (fr (Rat.divInt (t * (z.1 * b + z.2 * a)) (u * h)))) f) (l5 (p7 (e8 rfl (e8 (y9 (a8 (a8 rfl rfl m3) (a8 rfl rfl m4) rfl) rfl) rfl)) p2) rfl)]
 exact U1 rfl (p7 (e8 (p7 (e8 rfl (e8 rfl rfl)) s1) (e8 (p7 (e8 rfl (e8 rfl rfl)) s2) rfl)) sp) rfl (Nat.lt_of_le_of_lt hl (by decide))
theorem a5W {a b h t u : Int} (A : AbH a b h t u) {x y : Rat} (hx : Gr 46410 x) (hy : Gr 46410 y) (L : List D) (l : D) (k : Int) (f : FS) : ∀ (zs : List (Int × Int)) (acc : List D) (x11 x12 x13 x14 : Sl),(∀ z ∈ zs,z.1.natAbs ≤ 14 ∧ z.2.natAbs ≤ 14) → acc.length + zs.length ≤ 20 →
  ∃ y11 y12 y13 y14,A6 (u3 2 (m5 (i4 11) (m5 (i4 12) u5))) lWC (zs.map prI) (clS L l k a b h t u x y (.own acc) x11 x12 x13 x14 f) = some (.next,clS L l k a b h t u x y (.own (acc ++ zs.map fun z => pt (clF a b h t u x y z))) y11 y12 y13 y14 f)
 | [],acc,x11,x12,x13,x14,_,_ => ⟨x11,x12,x13,x14,by rw [List.map_nil,List.map_nil,List.append_nil]; rfl⟩
 | z :: r,acc,x11,x12,x13,x14,hz,hl => by
  rw [List.length_cons] at hl
  obtain ⟨b1,b2⟩ := hz z (List.mem_cons_self ..)
  obtain ⟨y13,y14,e⟩ := b2o A hx hy L l k b1 b2 acc (by omega) x13 x14 f
  obtain ⟨z11,z12,z13,z14,e2⟩ := a5W A hx hy L l k f r (acc ++ [pt (clF a b h t u x y z)]) (.val (.int z.1)) (.val (.int z.2)) y13 y14 (fun w hw => hz w (List.mem_cons_of_mem _ hw)) (by rw [List.length_append,List.length_singleton]; omega)
  refine ⟨z11,z12,z13,z14,?_⟩
  rw [List.map_cons,a3T (s1 := clS L l k a b h t u x y (.own acc) (.val (.int z.1)) (.val (.int z.2)) x13 x14 f) rfl e,e2,List.append_assoc]
  rfl
def a3C : List D := [.tup [.int 1,.int 0,.int 1],.tup [.int 0,.int 1,.int 1],.tup [.int 3,.int 4,.int 5],.tup [.int (-4),.int 3,.int 5],.tup [.int 5,.int 12,.int 13]]
def a2V : List D := [.tup [.int 1,.int 1],.tup [.int 1,.int 2],.tup [.int 3,.int 1]]
def okA (a b h t u : Int) : Bool := decide (a * a + b * b = h * h ∧ 0 < h ∧ h ≤ 13 ∧ a.natAbs ≤ 12 ∧ b.natAbs ≤ 12 ∧ 0 < t ∧ t ≤ 3 ∧ 0 < u ∧ u ≤ 2 ∧ (6630 : Int) % (u * h) = 0)
theorem b1V {a b h t u : Int} (e : okA a b h t u = true) : AbH a b h t u:= by
 obtain ⟨h1,h2,h3,h4,h5,h6,h7,h8,h9,h10⟩ := of_decide_eq_true e
 exact ⟨h1,h2,h3,h4,h5,h6,h7,h8,h9,h10⟩
def A5 : List (Int × Int × Int) := [(1,0,1),(0,1,1),(3,4,5),(-4,3,5),(5,12,13)]
def B3 : List (Int × Int) := [(1,1),(1,2),(3,1)]
theorem a81 : (A5.all fun x => B3.all fun y => okA x.1 x.2.1 x.2.2 y.1 y.2) = true := by decide
theorem b1C {r s : Int} (h0 : 0 ≤ r) (h1 : r < 5) (g0 : 0 ≤ s) (g1 : s < 3) : ∃ a b h t u,atI a3C r = some (.tup [.int a,.int b,.int h]) ∧ atI a2V s = some (.tup [.int t,.int u]) ∧ AbH a b h t u:= by
 obtain ⟨x,hx,e⟩ := Q0 (xs := a3C) h0 h1
 obtain ⟨y,hy,f⟩ := Q0 (xs := a2V) g0 g1
 obtain ⟨z,hz,rfl⟩ := List.mem_map.mp (show x ∈ A5.map (fun z => D.tup [.int z.1,.int z.2.1,.int z.2.2]) from hx)
 obtain ⟨w,hw,rfl⟩ := List.mem_map.mp (show y ∈ B3.map (fun z => D.tup [.int z.1,.int z.2]) from hy)
 exact ⟨_,_,_,_,_,e,f,b1V (List.all_eq_true.mp (List.all_eq_true.mp a81 z hz) w hw)⟩
theorem b3F {as bs : List D} (h : as.length + bs.length ≤ 100) : t6 (.tup as) (.tup bs) = some (.tup (as ++ bs)) := if_pos (T6 h)
abbrev a6V (m : DFn) : DE := a0V (dOp t6 (dSl (dL 2) (dAt (dL 3)) dNo) (dSl (dL 2) dNo (dAt (dL 3)))) (dOp t9 (dC (.int 1)) (dOp k6 (dC (.int 2)) (c6 m (a0 (dV 0) (a0 (dC (.int 2)) a6)))))
theorem b3t {k : Nat} {x1 : Sl} {ds : List D} {X : List Sl} {f f' : FS} {r : Int} (hk : k ≤ ds.length) (hl : ds.length ≤ 20) (e : LDw [.feed,.int 2] (some f) = some (.int r,some f')) (r0 : 0 ≤ r) (r1 : r < 2) :
  a6V LDw ⟨.val .feed :: x1 :: .val (.tup ds) :: .val (.int k) :: X,some f⟩ = some (.tup (if r = 1 then (ds.drop k ++ ds.take k).reverse else ds.drop k ++ ds.take k),⟨.val .feed :: x1 :: .val (.tup ds) :: .val (.int k) :: X,some f'⟩):= by
 have c1 := a4p ds k hk
 have c2 := a5k ds k hk
 have hz : (ds.drop k).length + (ds.take k).length ≤ 100 := by rw [List.length_drop,List.length_take]; omega
 have s1 : dSl (dL 2) (dAt (dL 3)) dNo ⟨.val .feed :: x1 :: .val (.tup ds) :: .val (.int k) :: X,some f⟩ = some (.tup (ds.drop k),⟨.val .feed :: x1 :: .val (.tup ds) :: .val (.int k) :: X,some f⟩) := by rw [← c1]; rfl
 have s2 : dSl (dL 2) dNo (dAt (dL 3)) ⟨.val .feed :: x1 :: .val (.tup ds) :: .val (.int k) :: X,some f⟩ = some (.tup (ds.take k),⟨.val .feed :: x1 :: .val (.tup ds) :: .val (.int k) :: X,some f⟩) := by rw [← c2]; rfl
 have a := a8 s1 s2 (b3F hz)
 have h : r = 0 ∨ r = 1 := by omega
 have m2 : k6 (.int 2) (.int r) = some (.int (2 * r)) := p9 (by decide) (O7 (by omega))
 have st : dOp t9 (dC (.int 1)) (dOp k6 (dC (.int 2)) (c6 LDw (a0 (dV 0) (a0 (dC (.int 2)) a6)))) ⟨.val .feed :: x1 :: .val (.tup ds) :: .val (.int k) :: X,some f⟩ = some (.int (1 - 2 * r),⟨.val .feed :: x1 :: .val (.tup ds) :: .val (.int k) :: X,some f'⟩) := a8 rfl (a8 rfl (p7 (e8 rfl (e8 rfl rfl)) e) m2) rfl
 unfold a6V a0V
 rw [a,Option.bind_some,st,Option.bind_some]
 rcases h with rfl | rfl
 ·rfl
 ·rfl
theorem b0b {a b h t u : Int} (x y : Rat) (zs : List (Int × Int)) : (zs.map fun z => pt (clF a b h t u x y z)) = (zs.map (clF a b h t u x y)).map pt := by rw [List.map_map]; rfl
theorem a8A (l : List (Int × Int)) (k : Nat) : (l.map prI).drop k ++ (l.map prI).take k = (l.drop k ++ l.take k).map prI := by rw [List.map_append,List.map_drop,List.map_take]
theorem b1n (l : List (Int × Int)) (k : Nat) (r : Int) : (if r = 1 then ((l.map prI).drop k ++ (l.map prI).take k).reverse else (l.map prI).drop k ++ (l.map prI).take k) = (if r = 1 then (l.drop k ++ l.take k).reverse else l.drop k ++ l.take k).map prI:= by
 rw [a8A]
 split
 ·rw [List.map_reverse]
 ·rfl
theorem a6x {a b h t u : Int} (A : AbH a b h t u) {x y : Rat} (hx : Gr 46410 x) (hy : Gr 46410 y) {zs : List (Int × Int)} (hz : Q5 zs = true) : ExS true (zs.map (clF a b h t u x y)) ∧ Tg true (zs.map (clF a b h t u x y)):= by
 obtain ⟨⟨l1,l2⟩,bd,ex⟩ := a5a hz
 have sz : ∀ p ∈ zs.map (clF a b h t u x y),PtS 80 p := fun p hp => by
  obtain ⟨z,hz,rfl⟩ := List.mem_map.mp hp
  obtain ⟨b1,b2⟩ := bd z hz
  obtain ⟨c1,c2⟩ := a6i (z := z) A.a1 A.b1 b1 b2
  exact ⟨(a0T A c1 hx).sz (by decide),(a0T A c2 hy).sz (by decide)⟩
 have xt : ∀ q ∈ nbs true (zs.map (clF a b h t u x y)),exT q.1 q.2 := fun q hq => by
  rw [a4w] at hq
  obtain ⟨z,hz,rfl⟩ := List.mem_map.mp hq
  obtain ⟨L,h1,h3,h2⟩ := ex z hz
  exact a9z A x y h1 h3 h2
 exact ⟨⟨by rw [List.length_map]; exact l1,by rw [List.length_map]; omega,fun p hp => ⟨(sz p hp).1.mono (by decide),(sz p hp).2.mono (by decide)⟩,fun q hq => (xt q hq).exL,by have nf := N6 true (zs.map (clF a b h t u x y)); rw [List.length_map] at nf; simp at nf; omega⟩,xt,sz⟩
theorem b2A {n : Nat} {f : FS} (h : Fd3 n f) (hn : n < 2 ^ 26) : ∃ ps f',WCl [.feed] (some f) = some (.tup [.bl true,.tup (ps.map pt)],some f') ∧ ExS true ps ∧ Tg true ps ∧ Fd3 (n + 30) f':= by
 obtain ⟨r1,f1,e1,a1,a2,h1⟩ := B7 7 h
 obtain ⟨d1,m1,q1⟩ := Q0 (xs := T7.map v0) a1 a2
 obtain ⟨l,hl,rfl⟩ := List.mem_map.mp m1
 have hl0 : 1 ≤ l.length ∧ l.length ≤ 8:= by
  have : (T7.all fun l => decide (1 ≤ l.length ∧ l.length ≤ 8)) = true := by decide
  exact of_decide_eq_true (List.all_eq_true.mp this l hl)
 obtain ⟨r2,f2,e2,b1,b2,h2⟩ := B7 ((l.map prI).length : Int) h1 (by rw [List.length_map]; omega) (by omega) (by rw [List.length_map]; omega)
 obtain ⟨k,rfl⟩ := Int.eq_ofNat_of_zero_le b1
 have hk : k < l.length := by rw [List.length_map] at b2; omega
 obtain ⟨r3,f3,e3,c1,c2,h3⟩ := B7 2 h2
 obtain ⟨r4,f4,e4,i1,i2,h4⟩ := B7 5 h3
 obtain ⟨r5,f5,e5,j1,j2,h5⟩ := B7 3 h4
 obtain ⟨a,b,hh,t,u,t1,t2,A⟩ := b1C i1 i2 j1 j2
 obtain ⟨x,y,f6,e6,gx,gy,h6⟩ := a58 h5 (by omega)
 obtain ⟨_,k1,k2⟩ := a8t hl hk
 have rt := b3t (x1 := .own (T7.map v0)) (X := [.no,.no,.no,.no,.no,.no,.no,.no,.no,.no,.no]) (ds := l.map prI) (k := k) (by rw [List.length_map]; omega) (by rw [List.length_map]; omega) e3 c1 c2
 rw [b1n] at rt
 have hz : Q5 (if r3 = 1 then (l.drop k ++ l.take k).reverse else l.drop k ++ l.take k) = true:= by
  split
  ·exact k2
  ·exact k1
 obtain ⟨⟨zl1,zl2⟩,bd,_⟩ := a5a hz
 obtain ⟨y11,y12,y13,y14,lp⟩ := a5W A gx gy (T7.map v0) (.tup (((if r3 = 1 then (l.drop k ++ l.take k).reverse else l.drop k ++ l.take k)).map prI)) k f6 ((if r3 = 1 then (l.drop k ++ l.take k).reverse else l.drop k ++ l.take k)) [] .no .no .no .no bd (by rw [List.length_nil]; omega)
 rw [List.nil_append,b0b] at lp
 refine ⟨((if r3 = 1 then (l.drop k ++ l.take k).reverse else l.drop k ++ l.take k)).map (clF a b hh t u x y),f6,n8 (s := clS (T7.map v0) (.tup (((if r3 = 1 then (l.drop k ++ l.take k).reverse else l.drop k ++ l.take k)).map prI)) k a b hh t u x y (.own ((((if r3 = 1 then (l.drop k ++ l.take k).reverse else l.drop k ++ l.take k)).map (clF a b hh t u x y)).map pt)) y11 y12 y13 y14 f6) ?_,(a6x A gx gy hz).1,(a6x A gx gy hz).2,h6.mono (by omega)⟩
 show a3E WSp WPl WPr WSt LDw ⟨[.val .feed,.no,.no,.no,.no,.no,.no,.no,.no,.no,.no,.no,.no,.no,.no],some f⟩ = _
 unfold a3E
 rw [i9 (s1 := ⟨[.val .feed,.own ((T7.take 3).map v0),.no,.no,.no,.no,.no,.no,.no,.no,.no,.no,.no,.no,.no],some f⟩) (B2 (s1 := ⟨[.val .feed,.no,.no,.no,.no,.no,.no,.no,.no,.no,.no,.no,.no,.no,.no],some f⟩) rfl (show 1 < 15 by decide)),
  i9 (s1 := ⟨[.val .feed,.own ((T7.take 5).map v0),.no,.no,.no,.no,.no,.no,.no,.no,.no,.no,.no,.no,.no],some f⟩) (B2 (s1 := ⟨[.val .feed,.own ((T7.take 3).map v0),.no,.no,.no,.no,.no,.no,.no,.no,.no,.no,.no,.no,.no],some f⟩) (O9 (x := .lst ((T7.take 3).map v0)) (y := .lst (((T7.drop 3).take 2).map v0)) (s1 := ⟨[.val .feed,.own ((T7.take 3).map v0),.no,.no,.no,.no,.no,.no,.no,.no,.no,.no,.no,.no,.no],some f⟩) rfl (C0 rfl) (X0 (by decide))) (show 1 < 15 by decide)),
  i9 (s1 := ⟨[.val .feed,.own ((T7.take 6).map v0),.no,.no,.no,.no,.no,.no,.no,.no,.no,.no,.no,.no,.no],some f⟩) (B2 (s1 := ⟨[.val .feed,.own ((T7.take 5).map v0),.no,.no,.no,.no,.no,.no,.no,.no,.no,.no,.no,.no,.no],some f⟩) (O9 (x := .lst ((T7.take 5).map v0)) (y := .lst (((T7.drop 5).take 1).map v0)) (s1 := ⟨[.val .feed,.own ((T7.take 5).map v0),.no,.no,.no,.no,.no,.no,.no,.no,.no,.no,.no,.no,.no],some f⟩) rfl (C0 rfl) (X0 (by decide))) (show 1 < 15 by decide)),
  i9 (s1 := ⟨[.val .feed,.own (T7.map v0),.no,.no,.no,.no,.no,.no,.no,.no,.no,.no,.no,.no,.no],some f⟩) (B2 (s1 := ⟨[.val .feed,.own ((T7.take 6).map v0),.no,.no,.no,.no,.no,.no,.no,.no,.no,.no,.no,.no,.no],some f⟩) (O9 (x := .lst ((T7.take 6).map v0)) (y := .lst ((T7.drop 6).map v0)) (s1 := ⟨[.val .feed,.own ((T7.take 6).map v0),.no,.no,.no,.no,.no,.no,.no,.no,.no,.no,.no,.no,.no],some f⟩) rfl (C0 rfl) (X0 (by decide))) (show 1 < 15 by decide))]
 rw [i9 (s1 := ⟨[.val .feed,.own (T7.map v0),.val (v0 l),.no,.no,.no,.no,.no,.no,.no,.no,.no,.no,.no,.no],some f1⟩) (l5 (a8 rfl (p7 rfl e1) (D0 q1)) rfl),
  i9 (s1 := ⟨[.val .feed,.own (T7.map v0),.val (v0 l),.val (.int k),.no,.no,.no,.no,.no,.no,.no,.no,.no,.no,.no],some f2⟩) (l5 (p7 (e8 rfl (e8 (B1 (p := k9) rfl rfl) rfl)) e2) rfl),
  i9 (s1 := ⟨[.val .feed,.own (T7.map v0),.val (.tup (((if r3 = 1 then (l.drop k ++ l.take k).reverse else l.drop k ++ l.take k)).map prI)),.val (.int k),.no,.no,.no,.no,.no,.no,.no,.no,.no,.no,.no],some f3⟩) (l5 rt rfl),
  i9 (s1 := ⟨[.val .feed,.own (T7.map v0),.val (.tup (((if r3 = 1 then (l.drop k ++ l.take k).reverse else l.drop k ++ l.take k)).map prI)),.val (.int k),.val (.int a),.val (.int b),.val (.int hh),.no,.no,.no,.no,.no,.no,.no,.no],some f4⟩) (l5 (a8 (x := .lst a3C) (s1 := ⟨[.val .feed,.own (T7.map v0),.val (.tup (((if r3 = 1 then (l.drop k ++ l.take k).reverse else l.drop k ++ l.take k)).map prI)),.val (.int k),.no,.no,.no,.no,.no,.no,.no,.no,.no,.no,.no],some f3⟩) (C0 rfl) (p7 rfl e4) (D0 t1)) rfl),
  i9 (s1 := ⟨[.val .feed,.own (T7.map v0),.val (.tup (((if r3 = 1 then (l.drop k ++ l.take k).reverse else l.drop k ++ l.take k)).map prI)),.val (.int k),.val (.int a),.val (.int b),.val (.int hh),.val (.tup [.int t,.int u]),.no,.no,.no,.no,.no,.no,.no],some f5⟩) (l5 (a8 (x := .lst a2V) (s1 := ⟨[.val .feed,.own (T7.map v0),.val (.tup (((if r3 = 1 then (l.drop k ++ l.take k).reverse else l.drop k ++ l.take k)).map prI)),.val (.int k),.val (.int a),.val (.int b),.val (.int hh),.no,.no,.no,.no,.no,.no,.no,.no],some f4⟩) (C0 rfl) (p7 rfl e5) (D0 t2)) rfl),
  i9 (s1 := ⟨[.val .feed,.own (T7.map v0),.val (.tup (((if r3 = 1 then (l.drop k ++ l.take k).reverse else l.drop k ++ l.take k)).map prI)),.val (.int k),.val (.int a),.val (.int b),.val (.int hh),.val (.tup [.int t,.int u]),.val (fr x),.val (fr y),.no,.no,.no,.no,.no],some f6⟩) (l5 (p7 rfl e6) rfl),
  i9 (s1 := clS (T7.map v0) (.tup (((if r3 = 1 then (l.drop k ++ l.take k).reverse else l.drop k ++ l.take k)).map prI)) k a b hh t u x y (.own []) .no .no .no .no f6) (B2 (s1 := ⟨[.val .feed,.own (T7.map v0),.val (.tup (((if r3 = 1 then (l.drop k ++ l.take k).reverse else l.drop k ++ l.take k)).map prI)),.val (.int k),.val (.int a),.val (.int b),.val (.int hh),.val (.tup [.int t,.int u]),.val (fr x),.val (fr y),.no,.no,.no,.no,.no],some f6⟩) rfl (show 10 < 15 by decide)),
  i9 ((a1K (ds := ((if r3 = 1 then (l.drop k ++ l.take k).reverse else l.drop k ++ l.take k)).map prI) (s1 := clS (T7.map v0) (.tup (((if r3 = 1 then (l.drop k ++ l.take k).reverse else l.drop k ++ l.take k)).map prI)) k a b hh t u x y (.own []) .no .no .no .no f6) rfl).trans lp)]
 exact m6 (y9 rfl (B1 rfl rfl))
abbrev WEx : DFn := a2w LDw WCl WOp
theorem a8y {n : Nat} {f : FS} (most : Int) (hm : 2 ≤ most ∧ most ≤ 9) (h : Fd3 n f) (hn : n < 2 ^ 25) : ∃ c ps f',WEx [.feed,.int most] (some f) = some (.tup [.bl c,.tup (ps.map pt)],some f') ∧ ExS c ps ∧ Tg c ps ∧ Fd3 (n + 31) f':= by
 obtain ⟨r,f1,e1,a1,a2,h1⟩ := B7 3 h
 by_cases hr : r = 0
 ·subst hr
  obtain ⟨ps,f2,e2,x,tx,h2⟩ := b2A h1 (by omega)
  refine ⟨true,ps,f2,n8 (s := ⟨[.val .feed,.val (.int most)],some f2⟩) (m6 ?_),x,tx,h2.mono (by omega)⟩
  exact (M3 (t7 (a8 (p7 rfl e1) rfl (C3 0 0)))).trans (p7 rfl e2)
 ·obtain ⟨ps,f2,e2,x,tx,h2⟩ := a8m most hm h1 (by omega)
  refine ⟨false,ps,f2,n8 (s := ⟨[.val .feed,.val (.int most)],some f2⟩) (m6 ?_),x,tx,h2.mono (by omega)⟩
  exact (M8 (t7 (a8 (p7 rfl e1) rfl ((C3 r 0).trans (by rw [decide_eq_false hr]))))).trans (p7 rfl e2)
theorem b3I {α : Type} (l : List α) (a z : α) (h1 : l[0]? = some a) (h2 : l[l.length - 1]? = some z) : nbs true l = nbs false l ++ [(z,a)]:= by
 unfold nbs
 have hz : l = l.dropLast ++ [z]:= by
  have hn : l ≠ [] := fun e => by subst e; simp at h1
  have : l.getLast hn = z:= by
   rw [List.getLast_eq_getElem]
   rw [List.getElem?_eq_getElem (by have := List.length_pos_iff.mpr hn; omega)] at h2
   exact Option.some.inj h2
  rw [← this]
  exact (List.dropLast_concat_getLast hn).symm
 have ha : l.take 1 = [a]:= by
  cases l with
  | nil => simp at h1
  | cons x r => simp at h1; subst h1; rfl
 simp only [if_true,ha,if_neg Bool.false_ne_true]
 have hl : l.dropLast.length = (l.drop 1).length := by rw [List.length_dropLast,List.length_drop]
 have e1 : l.zip (l.drop 1 ++ [a]) = l.dropLast.zip (l.drop 1) ++ [(z,a)]:= by
  conv => lhs; arg 1; rw [hz]
  rw [List.zip_append hl]
  rfl
 have e2 : l.zip (l.drop 1) = l.dropLast.zip (l.drop 1):= by
  conv => lhs; arg 1; rw [hz]
  conv => lhs; arg 2; rw [← List.append_nil (l.drop 1)]
  rw [List.zip_append hl]
  simp
 rw [e1,e2]
theorem b3X (ds : List D) (c : Bool) (fs : Option FS) (h1 : 1 ≤ ds.length) (hl : ds.length ≤ 9) : K8 [.tup [.bl c,.tup ds]] fs = some (.lst ((nbs c ds).map pr2),fs):= by
 obtain ⟨m,hm⟩ : ∃ m : Nat,ds.length = m + 1 := ⟨ds.length - 1,by omega⟩
 obtain ⟨a,ha⟩ : ∃ a,ds[0]? = some a := ⟨_,List.getElem?_eq_getElem h1⟩
 obtain ⟨z,hz⟩ : ∃ z,ds[ds.length - 1]? = some z := ⟨_,List.getElem?_eq_getElem (by omega)⟩
 have nf := N6 false ds
 have nl : (nbs false ds).length = m := by simp at nf; omega
 have pl := a9r false ds h1 (pcG ds) (fun i => by simp only [pcG,Int.toNat_natCast,Bool.false_eq_true,if_false,List.take_zero,List.append_nil])
 rw [nl] at pl
 have cm := a3n (idx := [2]) (g := pcG ds) [.val (.tup ds)] fs (ups 0 m) (a7O ds fs m hm)
 rw [pl] at cm
 have la : atI ds (-1) = some z := a0C hz
 have l0 : atI ds 0 = some a := atN (i := 0) ha
 have last : i3 (a0 (dOp pIx (dL 2) (dUn l6 (dC (.int 1)))) (a0 (dOp pIx (dL 2) (dC (.int 0))) a6)) ⟨[.val (.tup [.bl c,.tup ds]),.val (.bl c),.val (.tup ds),.own ((nbs false ds).map pr2)],fs⟩ = some (.tup [z,a],⟨[.val (.tup [.bl c,.tup ds]),.val (.bl c),.val (.tup ds),.own ((nbs false ds).map pr2)],fs⟩):=
  y9 (a8 rfl rfl ((ixT ds (-1)).trans la)) (a8 rfl rfl ((ixT ds 0).trans l0))
 have rg : a1g (a0 (dOp t9 (dCB (one k9) (a0 (dL 2) a6)) (dC (.int 1))) a6) ⟨[.val (.tup [.bl c,.tup ds]),.val (.bl c),.val (.tup ds),.no],fs⟩ = some (ups 0 m,⟨[.val (.tup [.bl c,.tup ds]),.val (.bl c),.val (.tup ds),.no],fs⟩):= by
  have ln : (ds.length : Int) - 1 = (m : Int) := by omega
  have e : a0 (dOp t9 (dCB (one k9) (a0 (dL 2) a6)) (dC (.int 1))) a6 ⟨[.val (.tup [.bl c,.tup ds]),.val (.bl c),.val (.tup ds),.no],fs⟩ = some ([.int (m : Int)],⟨[.val (.tup [.bl c,.tup ds]),.val (.bl c),.val (.tup ds),.no],fs⟩):= by
   rw [← ln]
   exact e8 (a8 (B1 (p := k9) rfl rfl) rfl rfl) rfl
  unfold a1g
  rw [e,Option.bind_some]
  show (L4 [.int (m : Int)]).map _ = _
  rw [V2 (by omega)]
  rfl
 have R : ∃ Q : List D,O6 (.lst [.tup [z,a]]) (.int (if c then 1 else 0)) = some Q ∧ (nbs false ds).map pr2 ++ Q = (nbs c ds).map pr2 ∧ Q.length ≤ 1:= by
  cases c with
  | true => exact ⟨[.tup [z,a]],rfl,by rw [b3I ds a z ha hz,List.map_append]; rfl,Nat.le_refl 1⟩
  | false => exact ⟨[],rfl,by rw [List.append_nil],by decide⟩
 obtain ⟨Q,q1,q2,q3⟩ := R
 have lh : ((nbs false ds).map pr2).length ≤ 9 := by rw [List.length_map]; omega
 refine n8 (s := ⟨[.val (.tup [.bl c,.tup ds]),.val (.bl c),.val (.tup ds),.own ((nbs false ds).map pr2)],fs⟩) ?_
 show a2Q ⟨[.val (.tup [.bl c,.tup ds]),.no,.no,.no],fs⟩ = _
 unfold a2Q
 rw [i9 (s1 := ⟨[.val (.tup [.bl c,.tup ds]),.val (.bl c),.val (.tup ds),.no],fs⟩) (l5 rfl rfl),
  i9 (s1 := ⟨[.val (.tup [.bl c,.tup ds]),.val (.bl c),.val (.tup ds),.own ((nbs false ds).map pr2)],fs⟩) (B2 (s1 := ⟨[.val (.tup [.bl c,.tup ds]),.val (.bl c),.val (.tup ds),.no],fs⟩) (M4 (idx := [2]) (ds := ups 0 m) (R := ((nbs false ds).map pr2)) (s1 := ⟨[.val (.tup [.bl c,.tup ds]),.val (.bl c),.val (.tup ds),.no],fs⟩) rg (T6 (by rw [J3]; omega)) cm) (show 3 < 4 by decide))]
 rw [← q2]
 exact m6 (C0 (O9 rfl (C0 (O9 (C0 (V7 last)) (B1 (p := N5) rfl rfl) q1)) (X0 (by omega))))
theorem b28 {x y z : Rat} (hy : y ≠ 0) (h : x = z * y) : x / y = z := by rw [h,Rat.mul_div_cancel hy]
theorem a1Z {p q : Rat} (hq : q ≠ 0) : (p.den : Int) * q.num ≠ 0 := Int.mul_ne_zero (F3 p) (fun z => hq (Rat.num_eq_zero.mp z))
theorem a47 {p q : Rat} (hq : q ≠ 0) : Rat.divInt (p.num * q.den) (p.den * q.num) = p / q:= by
 have hz : (((p.den : Int) * q.num : Int) : Rat) ≠ 0 := fun z => a1Z hq (Rat.intCast_eq_zero_iff.mp z)
 rw [Rat.divInt_eq_div]
 refine b28 hz ?_
 rw [Rat.intCast_mul,Rat.intCast_mul,a0g p,a0g q]
 grind
theorem a2a {k l : Nat} {p q : Rat} (hq : q ≠ 0) (h1 : Sz k p) (h2 : Sz l q) : Sz (k + l) (p / q):= by
 rw [← a47 hq]
 exact Sz.of_divInt (a1Z hq) (Bd.mul h1.num h2.den) (Bd.mul h1.den h2.num)
abbrev WOv : DFn := a0O LLw
theorem a3y {k l : Nat} (p q : Rat) (fs : Option FS) (h1 : Sz k p) (h2 : Sz l q) (hq : q ≠ 0) (hk : k + l ≤ 8000) : WOv [fr p,fr q] fs = some (fr (p / q),fs):= by
 have b1 := h1.num.bits (by omega)
 have b2 := h1.den.bits (by omega)
 have b3 := h2.num.bits (by omega)
 have b4 := h2.den.bits (by omega)
 have e := P9 (p.num * q.den) (p.den * q.num) fs (a1Z hq) (Bd.mul h1.den h2.num) hk
 rw [a47 hq] at e
 refine n8 (s := ⟨[.val (fr p),.val (fr q)],fs⟩) ?_
 exact m6 (j8 (e8 (a8 (a8 rfl rfl (C7 p)) (a8 rfl rfl (C9 q)) (p9 b1 b4)) (e8 (a8 (a8 rfl rfl (C9 p)) (a8 rfl rfl (C7 q)) (p9 b2 b3)) rfl)) e)
theorem a0F {k l : Nat} (p q : Rat) (fs : Option FS) (h1 : Sz k p) (h2 : Sz l q) (hk : k + l ≤ 8000) : K3 [fr p,fr q] fs = some (.bl (decide (p < q)),fs):= by
 have b1 := h1.num.bits (by omega)
 have b2 := h1.den.bits (by omega)
 have b3 := h2.num.bits (by omega)
 have b4 := h2.den.bits (by omega)
 rw [← b0h]
 refine n8 (s := ⟨[.val (fr p),.val (fr q)],fs⟩) ?_
 exact m6 (a8 (a8 (a8 rfl rfl (C7 p)) (a8 rfl rfl (C9 q)) (p9 b1 b4)) (a8 (a8 rfl rfl (C7 q)) (a8 rfl rfl (C9 p)) (p9 b3 b2)) rfl)
abbrev WNr : DFn := a0D WSp LLw LDw
def G42 (x : Rat) : Prop := ∃ n : Int,n.natAbs ≤ 2 ^ 70 ∧ x = Rat.divInt n 42
def nrP (p : Pt) : Prop := (G42 p.1 ∧ G42 p.2) ∧ p.1 < 7 ∧ p.2 < 7
theorem a1r {r b : Int} (h0 : 0 ≤ r) (h1 : r < 13) (b0 : 0 < b) (b1 : b ≤ 3) : G42 (Rat.divInt (r - 6) b) ∧ Rat.divInt (r - 6) b < 7:= by
 have hb : b = 1 ∨ b = 2 ∨ b = 3 := by omega
 obtain ⟨c,hc,c1⟩ : ∃ c : Int,b * c = 42 ∧ c.natAbs ≤ 42:= by
  rcases hb with rfl | rfl | rfl
  ·exact ⟨42,by decide,by decide⟩
  ·exact ⟨21,by decide,by decide⟩
  ·exact ⟨14,by decide,by decide⟩
 have c0 : c ≠ 0 := fun z => by rw [z] at hc; omega
 refine ⟨⟨(r - 6) * c,?_,?_⟩,?_⟩
 ·rw [Int.natAbs_mul]
  exact Nat.le_trans (Nat.mul_le_mul (show (r - 6).natAbs ≤ 6 by omega) c1) (by decide)
 ·rw [← hc,Rat.divInt_mul_right c0]
 ·have p : (0 : Rat) < (b : Rat) := Rat.intCast_pos.mpr b0
  have nz : (b : Rat) ≠ 0 := fun z => by rw [z] at p; exact absurd p Rat.lt_irrefl
  rw [Rat.divInt_eq_div]
  have e := Rat.div_mul_cancel (a := ((r - 6 : Int) : Rat)) nz
  have l : ((r - 6 : Int) : Rat) < 7 * (b : Rat):= by
   have : ((r - 6 : Int) : Rat) < ((7 * b : Int) : Rat) := Rat.intCast_lt_intCast.mpr (by omega)
   rw [Rat.intCast_mul] at this
   exact this
  refine Rat.not_le.mp fun z => ?_
  have := Rat.mul_le_mul_of_nonneg_right z (Rat.le_of_lt p)
  rw [e] at this
  grind
theorem a6m {r : Int} (h0 : 0 ≤ r) (h1 : r < 4) : ∃ b : Int,atI [D.int 1,.int 1,.int 2,.int 3] r = some (.int b) ∧ 0 < b ∧ b ≤ 3:= by
 have : r = 0 ∨ r = 1 ∨ r = 2 ∨ r = 3 := by omega
 rcases this with rfl | rfl | rfl | rfl
 ·exact ⟨1,rfl,by decide⟩
 ·exact ⟨1,rfl,by decide⟩
 ·exact ⟨2,rfl,by decide⟩
 ·exact ⟨3,rfl,by decide⟩
theorem a5z {r b : Int} (h0 : 0 ≤ r) (h1 : r < 13) (b0 : 0 < b) (b1 : b ≤ 3) : Sz 5 (Rat.divInt (r - 6) b) ∧ Bd 5 b ∧ b ≠ 0:=
 ⟨Sz.of_divInt (by omega) (by omega) (by omega),show b.natAbs < 2 ^ 5 by omega,by omega⟩
theorem b1a {n : Nat} {f : FS} (h : Fd3 n f) (hn : n < 2 ^ 29) : ∃ p f',WNr [.feed] (some f) = some (pt p,some f') ∧ PtS 5 p ∧ nrP p ∧ Fd3 (n + 4) f':= by
 obtain ⟨r1,f1,e1,a1,a2,h1⟩ := B7 13 h
 obtain ⟨r2,f2,e2,b1,b2,h2⟩ := B7 4 h1
 obtain ⟨r3,f3,e3,c1,c2,h3⟩ := B7 13 h2
 obtain ⟨r4,f4,e4,d1,d2,h4⟩ := B7 4 h3
 obtain ⟨b,q1,x1,x2⟩ := a6m b1 b2
 obtain ⟨d,q2,y1,y2⟩ := a6m d1 d2
 obtain ⟨s1,u1,v1⟩ := a5z a1 a2 x1 x2
 obtain ⟨s2,u2,v2⟩ := a5z c1 c2 y1 y2
 have w1 := P9 (r1 - 6) b (some f2) v1 u1 (by decide)
 have w2 := P9 (r3 - 6) d (some f4) v2 u2 (by decide)
 have sp := X1 _ _ (some f4) s1 s2 (by decide)
 refine ⟨(Rat.divInt (r1 - 6) b,Rat.divInt (r3 - 6) d),f4,n8 (s := ⟨[.val .feed,.val (fr (Rat.divInt (r1 - 6) b))],some f4⟩) ?_,⟨s1,s2⟩,⟨⟨(a1r a1 a2 x1 x2).1,(a1r c1 c2 y1 y2).1⟩,(a1r a1 a2 x1 x2).2,(a1r c1 c2 y1 y2).2⟩,h4⟩
 show a3G WSp LLw LDw ⟨[.val .feed,.no],some f⟩ = _
 unfold a3G
 rw [i9 (s1 := ⟨[.val .feed,.val (fr (Rat.divInt (r1 - 6) b))],some f2⟩) (l5 (a0Z (e8 (a8 (p7 rfl e1) rfl rfl) (e8 (a8 (x := .lst [D.int 1,.int 1,.int 2,.int 3]) (s1 := ⟨[.val .feed,.no],some f1⟩) rfl (p7 rfl e2) (D0 q1)) rfl)) w1) rfl)]
 exact m6 (a0Z (e8 rfl (e8 (a0Z (e8 (a8 (p7 rfl e3) rfl rfl) (e8 (a8 (x := .lst [D.int 1,.int 1,.int 2,.int 3]) (s1 := ⟨[.val .feed,.val (fr (Rat.divInt (r1 - 6) b))],some f3⟩) rfl (p7 rfl e4) (D0 q2)) rfl)) w2) rfl)) sp)
theorem a67 {n : Nat} {f : FS} (h : Fd3 n f) (hn : n < 2 ^ 29) : ∃ p f',WNr [.feed] (some f) = some (pt p,some f') ∧ PtS 5 p ∧ Fd3 (n + 4) f':= by
 obtain ⟨p,f',e,s,_,h'⟩ := b1a h hn
 exact ⟨p,f',e,s,h'⟩
abbrev WGo : DFn := a0u W4
theorem a5y {k : Nat} (a b : Pt) (fs : Option FS) (ha : Ps k a) (hb : Ps k b) (hk : k ≤ 1000) : ∃ x y : Int,W4 [pt a,pt b] fs = some (.tup [.int x,.int y],fs) ∧ Bd (2 * k + 1) x ∧ Bd (2 * k + 1) y:= by
 have q : ∀ {i : Int},Bd k i → v7 i = true := fun h => h.bits (by omega)
 refine ⟨pX b * pL a - pX a * pL b,pY b * pL a - pY a * pL b,n8 (s := ⟨[.val (pt a),.val (pt b)],fs⟩) (m6 ?_),((hb.x.mul ha.l).sub (ha.x.mul hb.l)).mono (by omega),((hb.y.mul ha.l).sub (ha.y.mul hb.l)).mono (by omega)⟩
 exact y9 (a8 (a8 (a8 rfl rfl (U6 b)) (a8 rfl rfl (L5 a)) (p9 (q hb.x) (q ha.l))) (a8 (a8 rfl rfl (U6 a)) (a8 rfl rfl (L5 b)) (p9 (q ha.x) (q hb.l))) rfl)
  (a8 (a8 (a8 rfl rfl (S5 b)) (a8 rfl rfl (L5 a)) (p9 (q hb.y) (q ha.l))) (a8 (a8 rfl rfl (S5 a)) (a8 rfl rfl (L5 b)) (p9 (q ha.y) (q hb.l))) rfl)
theorem b1g {a b : DE} {s s1 s2 : DS} {x y : Bool} (h1 : a s = some (.bl x,s1)) (h2 : b s1 = some (.bl y,s2)) : ∃ z s3,o6 a b s = some (.bl z,s3) ∧ (s3 = s1 ∨ s3 = s2):= by
 unfold o6
 rw [t7 h1,Option.bind_some]
 cases x with
 | true => exact ⟨y,s2,by rw [if_pos rfl,h2],.inr rfl⟩
 | false => exact ⟨false,s1,by rw [if_neg Bool.false_ne_true],.inl rfl⟩
theorem a1y {k : Nat} (a b c : Pt) (fs : Option FS) (ha : Ps k a) (hb : Ps k b) (hc : Ps k c) (hk : k ≤ 1000) : ∃ z,WGo [pt a,pt b,pt c] fs = some (.bl z,fs):= by
 obtain ⟨x1,y1,e1,u1,v1⟩ := a5y a b fs ha hb hk
 obtain ⟨x2,y2,e2,u2,v2⟩ := a5y b c fs hb hc hk
 have q : ∀ {i : Int},Bd (2 * k + 1) i → v7 i = true := fun h => h.bits (by omega)
 obtain ⟨z,s3,e3,hs⟩ := b1g (a := dOp pEq (dOp k6 (dOp pIx (dL 3) (dC (.int 0))) (dOp pIx (dL 4) (dC (.int 1)))) (dOp k6 (dOp pIx (dL 3) (dC (.int 1))) (dOp pIx (dL 4) (dC (.int 0))))) (b := dOp (k0 (fun i j => decide (j < i))) (dOp t6 (dOp k6 (dOp pIx (dL 3) (dC (.int 0))) (dOp pIx (dL 4) (dC (.int 0)))) (dOp k6 (dOp pIx (dL 3) (dC (.int 1))) (dOp pIx (dL 4) (dC (.int 1))))) (dC (.int 0)))
  (s := ⟨[.val (pt a),.val (pt b),.val (pt c),.val (.tup [.int x1,.int y1]),.val (.tup [.int x2,.int y2])],fs⟩) (a8 (a8 (a8 rfl rfl rfl) (a8 rfl rfl rfl) (p9 (q u1) (q v2))) (a8 (a8 rfl rfl rfl) (a8 rfl rfl rfl) (p9 (q v1) (q u2))) (C3 _ _)) (a8 (a8 (a8 (a8 rfl rfl rfl) (a8 rfl rfl rfl) (p9 (q u1) (q u2))) (a8 (a8 rfl rfl rfl) (a8 rfl rfl rfl) (p9 (q v1) (q v2))) rfl) rfl rfl)
 have hs : s3 = ⟨[.val (pt a),.val (pt b),.val (pt c),.val (.tup [.int x1,.int y1]),.val (.tup [.int x2,.int y2])],fs⟩ := by rcases hs with rfl | rfl <;> rfl
 subst hs
 refine ⟨z,n8 (s := ⟨[.val (pt a),.val (pt b),.val (pt c),.val (.tup [.int x1,.int y1]),.val (.tup [.int x2,.int y2])],fs⟩) ?_⟩
 show a2X W4 ⟨[.val (pt a),.val (pt b),.val (pt c),.no,.no],fs⟩ = _
 unfold a2X
 rw [i9 (s1 := ⟨[.val (pt a),.val (pt b),.val (pt c),.val (.tup [.int x1,.int y1]),.val (.tup [.int x2,.int y2])],fs⟩) (a4Y (e8 (j8 rfl e1) (e8 (j8 rfl e2) rfl)) rfl)]
 exact m6 e3
def PsL (ps : List Pt) : Prop := ∀ p ∈ ps,PtS 78 p
def Nd (ps : List Pt) : Prop := ∀ i a b,ps[i]? = some a → ps[i + 1]? = some b → a ≠ b
theorem Nd.snoc {ps : List Pt} {p : Pt} (h : Nd ps) (hl : ∀ z,ps[ps.length - 1]? = some z → p ≠ z) : Nd (ps ++ [p]) := fun i a b ha hb => by
 by_cases c : i + 1 < ps.length
 ·rw [List.getElem?_append_left (by omega)] at ha
  rw [List.getElem?_append_left c] at hb
  exact h i a b ha hb
 ·by_cases c2 : i + 1 = ps.length
  ·rw [List.getElem?_append_left (by omega)] at ha
   rw [List.getElem?_append_right (by omega),c2,Nat.sub_self] at hb
   cases hb
   exact fun e => hl a (by rw [← c2,Nat.add_sub_cancel]; exact ha) e.symm
  ·rw [List.getElem?_append_right (by omega),List.getElem?_eq_none (by rw [List.length_singleton]; omega)] at hb
   cases hb
theorem a3V {ps : List Pt} (h : PsL ps) {i : Nat} {p : Pt} (hi : ps[i]? = some p) : Ps 156 p := (h p (List.mem_of_getElem? hi)).ps
theorem a6u {ps : List Pt} {p : Pt} (h2 : 2 ≤ ps.length) (h : ps[ps.length - 2]? = some p) : atI (ps.map pt) (-2) = some (pt p):= by
 unfold atI ixN
 rw [if_neg (by omega),if_pos (by rw [List.length_map]; omega)]
 show (ps.map pt)[_]? = _
 rw [List.length_map,show ((-2 : Int) + ps.length).toNat = ps.length - 2 by omega,List.getElem?_map,h]
 rfl
theorem a2e {ps : List Pt} {p : Pt} (h : ps[ps.length - 1]? = some p) : atI (ps.map pt) (-1) = some (pt p) := a0C (by rw [List.length_map,List.getElem?_map,h]; rfl)
abbrev WCh : DFn := a2y WSp WPl WXy WGo LDw WNr
abbrev lWH : DM := W5 WSp WPl WXy WGo LDw WNr
abbrev chS (F : D) (most many : Int) (ps : List Pt) (x5 x6 : Sl) (f : FS) : DS := ⟨[.val .feed,.val F,.val (.int most),.own (ps.map pt),.val (.int many),x5,x6,.no,.no],some f⟩
theorem a9j {n : Nat} {f : FS} {F : D} {most many : Int} {ps : List Pt} (x5 x6 : Sl) (hp : PsL ps) (h1 : 1 ≤ ps.length) (h9 : ps.length ≤ 9) (h : Fd3 n f) (hn : n < 2 ^ 28) : ∃ p f',PtS 78 p ∧ Fd3 (n + 5) f' ∧
  j4 (dIf (dB (dOp (k0 (fun i j => decide (j < i))) (c6 LDw (a0 (dV 0) (a0 (dC (.int 4)) a6))) (dC (.int 0)))) (c6 WNr (a0 (dV 0) a6)) (dOp pIx (dL 3) (c6 LDw (a0 (dV 0) (a0 (dCB (one k9) (a0 (dL 3) a6)) a6))))) (i4 6) (chS F most many ps x5 x6 f) = some (.next,chS F most many ps x5 (.val (pt p)) f'):= by
 obtain ⟨r1,f1,e1,a1,a2,h1'⟩ := B7 4 h
 by_cases hr : 0 < r1
 ·obtain ⟨p,f2,e2,s2,h2⟩ := a67 h1' (by omega)
  exact ⟨p,f2,s2.mono (by decide),h2.mono (by omega),l5 ((M3 (t7 (a8 (p7 rfl e1) rfl (congrArg (fun b => some (D.bl b)) (decide_eq_true hr))))).trans (p7 rfl e2)) rfl⟩
 ·obtain ⟨r2,f2,e2,b1,b2,h2⟩ := B7 ((ps.map pt).length : Int) h1' (by rw [List.length_map]; omega) (by omega) (by rw [List.length_map]; omega)
  obtain ⟨d,m,q⟩ := Q0 b1 b2
  obtain ⟨p,hp',rfl⟩ := List.mem_map.mp m
  exact ⟨p,f2,hp p hp',h2.mono (by omega),l5 ((M8 (t7 (a8 (p7 rfl e1) rfl (congrArg (fun b => some (D.bl b)) (decide_eq_false hr))))).trans (a8 rfl (p7 (e8 rfl (e8 (B1 (p := k9) rfl rfl) rfl)) e2) (D0 q))) rfl⟩
theorem b24 {F : D} {most many : Int} {ps : List Pt} {p : Pt} (x5 : Sl) (f : FS) (hp : PsL ps) (h1 : 1 ≤ ps.length) (hs : PtS 78 p) : ∃ b : Bool,(b = true → (ps.length : Int) < many ∧ ∀ z,ps[ps.length - 1]? = some z → p ≠ z) ∧
  v8 (dB (dOp (k0 (fun i j => decide (i < j))) (dCB (one k9) (a0 (dL 3) a6)) (dL 4))) (v8 (dB (dOp pNe (dL 6) (dOp pIx (dL 3) (dUn l6 (dC (.int 1)))))) (dOr (dB (dOp (k0 (fun i j => decide (i < j))) (dCB (one k9) (a0 (dL 3) a6)) (dC (.int 2)))) (y0 (dTr (c6 WGo (a0 (dOp pIx (dL 3) (dUn l6 (dC (.int 2)))) (a0 (dOp pIx (dL 3) (dUn l6 (dC (.int 1)))) (a0 (dV 6) a6)))))))) (chS F most many ps x5 (.val (pt p)) f) = some (b,chS F most many ps x5 (.val (pt p)) f):= by
 obtain ⟨z,hz⟩ : ∃ z,ps[ps.length - 1]? = some z := ⟨_,List.getElem?_eq_getElem (by omega)⟩
 have l1 := a2e hz
 have len : ∀ k : Int,(dB (dOp (k0 (fun i j => decide (i < j))) (dCB (one k9) (a0 (dL 3) a6)) (dC (.int k)))) (chS F most many ps x5 (.val (pt p)) f) = some (decide (((ps.map pt).length : Int) < k),chS F most many ps x5 (.val (pt p)) f) := fun k => t7 (a8 (B1 (p := k9) rfl rfl) rfl rfl)
 have lm : (dB (dOp (k0 (fun i j => decide (i < j))) (dCB (one k9) (a0 (dL 3) a6)) (dL 4))) (chS F most many ps x5 (.val (pt p)) f) = some (decide (((ps.map pt).length : Int) < many),chS F most many ps x5 (.val (pt p)) f) := t7 (a8 (B1 (p := k9) rfl rfl) rfl rfl)
 by_cases c : ((ps.map pt).length : Int) < many
 ·rw [decide_eq_true c] at lm
  have c' : (ps.length : Int) < many := by rw [List.length_map] at c; exact c
  have ne : (dB (dOp pNe (dL 6) (dOp pIx (dL 3) (dUn l6 (dC (.int 1)))))) (chS F most many ps x5 (.val (pt p)) f) = some (!decide (p = z),chS F most many ps x5 (.val (pt p)) f) := t7 (a8 rfl (a8 rfl rfl (D0 l1)) (a6F hs.ps (a3V hp hz)))
  cases hne : (!decide (p = z)) with
  | false=>
   rw [hne] at ne
   exact ⟨false,fun e => (by cases e),Q7 lm (Z6 ne)⟩
  | true=>
   have pz : ∀ z',ps[ps.length - 1]? = some z' → p ≠ z' := fun z' e q => by
    rw [hz] at e; cases e
    rw [decide_eq_true q] at hne; cases hne
   rw [hne] at ne
   have l2 := len 2
   by_cases c2 : ((ps.map pt).length : Int) < 2
   ·rw [decide_eq_true c2] at l2
    exact ⟨true,fun _ => ⟨c',pz⟩,Q7 lm (Q7 ne (a2W l2))⟩
   ·rw [decide_eq_false c2] at l2
    have h2 : 2 ≤ ps.length := by rw [List.length_map] at c2; omega
    obtain ⟨y,hy⟩ : ∃ y,ps[ps.length - 2]? = some y := ⟨_,List.getElem?_eq_getElem (by omega)⟩
    have q2 := a6u h2 hy
    obtain ⟨g,hg⟩ := a1y y z p (some f) (a3V hp hy) (a3V hp hz) hs.ps (by decide)
    have t : dTr (c6 WGo (a0 (dOp pIx (dL 3) (dUn l6 (dC (.int 2)))) (a0 (dOp pIx (dL 3) (dUn l6 (dC (.int 1)))) (a0 (dV 6) a6)))) (chS F most many ps x5 (.val (pt p)) f) = some (g,chS F most many ps x5 (.val (pt p)) f) := D3 (j8 (e8 (a8 rfl rfl (D0 q2)) (e8 (a8 rfl rfl (D0 l1)) (e8 rfl rfl))) hg)
    exact ⟨!g,fun _ => ⟨c',pz⟩,Q7 lm (Q7 ne (Y3 l2 (a0U t)))⟩
 ·rw [decide_eq_false c] at lm
  exact ⟨false,fun e => (by cases e),Z6 lm⟩
theorem b2D {n : Nat} {f : FS} {F : D} {most many : Int} {ps : List Pt} (x5 x6 : Sl) (hm : many ≤ 9) (hp : PsL ps) (hd : Nd ps) (h1 : 1 ≤ ps.length) (h9 : ps.length ≤ 9) (h : Fd3 n f) (hn : n < 2 ^ 28) :
  ∃ ps' x6' f',lWH (chS F most many ps x5 x6 f) = some (.next,chS F most many ps' x5 x6' f') ∧ PsL ps' ∧ Nd ps' ∧ 1 ≤ ps'.length ∧ ps'.length ≤ 9 ∧ Fd3 (n + 5) f':= by
 obtain ⟨p,f1,sp,hf,e1⟩ := a9j (F := F) (most := most) (many := many) x5 x6 hp h1 h9 h hn
 obtain ⟨b,hb,e2⟩ := b24 (F := F) (most := most) (many := many) x5 f1 hp h1 sp
 have ll : (ps.map pt).length < sizeLine := Nat.lt_of_le_of_lt (by rw [List.length_map]; exact h9) (show 9 < sizeLine by decide)
 cases b with
 | true=>
  have := (hb rfl).1
  refine ⟨ps ++ [p],.val (pt p),f1,?_,fun q hq => ?_,hd.snoc (hb rfl).2,by rw [List.length_append,List.length_singleton]; omega,by rw [List.length_append,List.length_singleton]; omega,hf⟩
  ·show W5 WSp WPl WXy WGo LDw WNr _ = _
   unfold W5
   rw [i9 e1,C6 e2]
   unfold chS
   rw [a7i]
   exact U1 (s1 := chS F most many ps x5 (.val (pt p)) f1) rfl rfl rfl ll
  ·rcases List.mem_append.mp hq with hq | hq
   ·exact hp q hq
   ·rw [List.mem_singleton.mp hq]; exact sp
 | false=>
  refine ⟨ps,.val (pt p),f1,?_,hp,hd,h1,h9,hf⟩
  show W5 WSp WPl WXy WGo LDw WNr _ = _
  unfold W5
  rw [i9 e1,L9 e2]
  rfl
theorem a9o {n : Nat} {f : FS} {p0 : Pt} {most : Int} (hm : 2 ≤ most ∧ most ≤ 9) (h0 : PtS 78 p0) (h : Fd3 n f) (hn : n < 2 ^ 27) : ∃ (ps : List Pt) (f' : FS),WCh [.feed,.lst [pt p0],.int most] (some f) = some (.tup (ps.map pt),some f') ∧ (∀ p ∈ ps,PtS 80 p) ∧ Nd ps ∧ 2 ≤ ps.length ∧ ps.length ≤ 9 ∧ Fd3 (n + 71) f':= by
 obtain ⟨r,f1,e1,a1,a2,h1⟩ := B7 (most - 1) h
 obtain ⟨s',lp,ps,x5,x6,f',rfl,hp,hd,l1,l9,I⟩ := N7 (t := i4 5) (b := lWH) (fun i s => ∃ ps x5 x6 f',s = chS (.lst [pt p0]) most (2 + r) ps x5 x6 f' ∧ PsL ps ∧ Nd ps ∧ 1 ≤ ps.length ∧ ps.length ≤ 9 ∧ Fd3 (n + 1 + 5 * i) f') (ups 0 14) 0 (chS (.lst [pt p0]) most (2 + r) [p0] .no .no f1)
  ⟨[p0],.no,.no,f1,rfl,(fun q hq => by rw [List.mem_singleton.mp hq]; exact h0.mono (by decide)),(fun i a b _ hb => by rw [List.getElem?_eq_none (by rw [List.length_singleton]; omega)] at hb; cases hb),Nat.le_refl _,show 1 ≤ 9 by decide,h1⟩ (by
   rintro i d s hd ⟨ps,x5,x6,f',rfl,hp,hn',l1,l9,I⟩
   obtain ⟨rfl,hi⟩ := Q3 hd
   rw [Nat.zero_add] at *
   obtain ⟨ps',x6',f'',e,hp',hn'',l1',l9',I'⟩ := b2D (F := .lst [pt p0]) (most := most) (many := 2 + r) (.val (.int ((0 : Int) + i))) x6 (by omega) hp hn' l1 l9 I (by omega)
   exact ⟨chS (.lst [pt p0]) most (2 + r) ps (.val (.int ((0 : Int) + i))) x6 f',_,rfl,.inl e,ps',_,x6',f'',rfl,hp',hn'',l1',l9',I'.mono (by omega)⟩)
 rw [Nat.zero_add,J3] at I
 have pre : ∀ R,(e7 (l7 (dB (dOp (k0 (fun i j => decide (i < j))) (dCB (one k9) (a0 (dL 3) a6)) (dC (.int 2)))) (e7 (j4 (c6 WXy (a0 (dOp pIx (dL 3) (dC (.int 0))) a6)) (u3 2 (m5 (i4 7) (m5 (i4 8) u5)))) (F2 3 (c6 WSp (a0 (dV 7) (a0 (c6 WPl (a0 (dV 8) (a0 (i3 (a0 (dC (.int 1)) (a0 (dC (.int 1)) a6))) a6))) a6))))) m7) (j7 (dCB (one J5) (a0 (dL 3) a6)))) (chS (.lst [pt p0]) most (2 + r) ps x5 x6 f') = R → a1E WSp WPl WXy WGo LDw WNr ⟨[.val .feed,.val (.lst [pt p0]),.val (.int most),.no,.no,.no,.no,.no,.no],some f⟩ = R := fun R er => by
  unfold a1E
  rw [i9 (s1 := ⟨[.val .feed,.val (.lst [pt p0]),.val (.int most),.own [pt p0],.no,.no,.no,.no,.no],some f⟩) (B2 (s1 := ⟨[.val .feed,.val (.lst [pt p0]),.val (.int most),.no,.no,.no,.no,.no,.no],some f⟩) rfl (show 3 < 9 by decide)),
   i9 (s1 := chS (.lst [pt p0]) most (2 + r) [p0] .no .no f1) (l5 (a8 rfl (p7 (e8 rfl (e8 (a8 rfl rfl rfl) rfl)) e1) rfl) rfl),
   i9 ((T1 (xs := [.int 14]) (s1 := chS (.lst [pt p0]) most (2 + r) [p0] .no .no f1) rfl (V2 (n := 14) (by decide))).trans lp)]
  exact er
 have lt : (dB (dOp (k0 (fun i j => decide (i < j))) (dCB (one k9) (a0 (dL 3) a6)) (dC (.int 2)))) (chS (.lst [pt p0]) most (2 + r) ps x5 x6 f') = some (decide (((ps.map pt).length : Int) < 2),chS (.lst [pt p0]) most (2 + r) ps x5 x6 f') := t7 (a8 (B1 (p := k9) rfl rfl) rfl rfl)
 by_cases c : ((ps.map pt).length : Int) < 2
 ·rw [decide_eq_true c] at lt
  rw [List.length_map] at c
  obtain ⟨a,ha⟩ : ∃ a,ps = [a]:= by
   cases ps with
   | nil => cases l1
   | cons a t => cases t with
    | nil => exact ⟨a,rfl⟩
    | cons b t => simp at c; omega
  subst ha
  have sa := hp a (List.mem_singleton.mpr rfl)
  have x := wxy a (some f') sa.ps (by decide)
  have s1 : Sz 1 (1 : Rat) := Sz.lit (by decide)
  have pl := Q2 a.2 1 (some f') sa.y s1 (by decide)
  have sp := X1 a.1 (a.2 + 1) (some f') sa.x (sa.y.add s1) (by decide)
  refine ⟨[a,(a.1,a.2 + 1)],f',n8 (s := ⟨[.val .feed,.val (.lst [pt p0]),.val (.int most),.own ([a,(a.1,a.2 + 1)].map pt),.val (.int (2 + r)),x5,x6,.val (fr a.1),.val (fr a.2)],some f'⟩) (pre _ ?_),?_,?_,Nat.le_refl 2,show 2 ≤ 9 by decide,I.mono (by omega)⟩
  ·rw [i9 (s1 := ⟨[.val .feed,.val (.lst [pt p0]),.val (.int most),.own ([a,(a.1,a.2 + 1)].map pt),.val (.int (2 + r)),x5,x6,.val (fr a.1),.val (fr a.2)],some f'⟩) (by
    rw [C6 lt,i9 (s1 := ⟨[.val .feed,.val (.lst [pt p0]),.val (.int most),.own ([a].map pt),.val (.int (2 + r)),x5,x6,.val (fr a.1),.val (fr a.2)],some f'⟩) (l5 (j8 (e8 (a8 rfl rfl rfl) rfl) x) rfl)]
    exact U1 (ds := [pt a]) (s1 := ⟨[.val .feed,.val (.lst [pt p0]),.val (.int most),.own ([a].map pt),.val (.int (2 + r)),x5,x6,.val (fr a.1),.val (fr a.2)],some f'⟩) rfl (j8 (e8 rfl (e8 (j8 (e8 rfl (e8 rfl rfl)) pl) rfl)) sp) rfl (show 1 < sizeLine by decide))]
   exact m6 (B1 rfl rfl)
  ·intro q hq
   rcases List.mem_cons.mp hq with rfl | hq
   ·exact sa.mono (by decide)
   ·rw [List.mem_singleton.mp hq]
    exact ⟨sa.x.mono (by decide),(sa.y.add s1).mono (by decide)⟩
  ·refine Nd.snoc (ps := [a]) (fun i a b _ hb => by rw [List.getElem?_eq_none (by rw [List.length_singleton]; omega)] at hb; cases hb) fun z hz e => ?_
   cases hz
   have := congrArg Prod.snd e
   have : a.2 + 1 = a.2 := this
   grind
 ·rw [decide_eq_false c] at lt
  refine ⟨ps,f',n8 (s := chS (.lst [pt p0]) most (2 + r) ps x5 x6 f') (pre _ ?_),fun p hq => (hp p hq).mono (by decide),hd,by rw [List.length_map] at c; omega,l9,I.mono (by omega)⟩
  rw [i9 (s1 := chS (.lst [pt p0]) most (2 + r) ps x5 x6 f') (by rw [L9 lt]; rfl)]
  exact m6 (B1 rfl rfl)
abbrev vcD (v : Pt) : D := .tup [fr v.1,fr v.2]
abbrev WFr : DFn := X6 WMi WXy
abbrev WAw : DFn := a13 WMi WPr
abbrev WWi : DFn := a2v WPl WPr
abbrev WOw : DFn := a02 WSp WPl WPr WFr WXy
abbrev WIs : DFn := a3Z K3
abbrev WAl : DFn := a2Z WFr WOw K3 WOv WWi
abbrev WCm : DFn := a10 WOw WIs WOv WAw WAl WFr
theorem N3 {k : Nat} {a b : Pt} (ha : PtS k a) (hb : PtS k b) : PtS (k + k + 1) (vec a b) := ⟨hb.1.sub ha.1,hb.2.sub ha.2⟩
theorem T4 {k : Nat} {a b : Pt} (fs : Option FS) (ha : PtS k a) (hb : PtS k b) (hk : k ≤ 1000) : WFr [pt a,pt b] fs = some (vcD (vec a b),fs):= by
 have xa := wxy a fs (Ps.of ha.1 ha.2) (by omega)
 have xb := wxy b fs (Ps.of hb.1 hb.2) (by omega)
 have m1 := a1J b.1 a.1 fs hb.1 ha.1 (by omega)
 have m2 := a1J b.2 a.2 fs hb.2 ha.2 (by omega)
 refine n8 (s := ⟨[.val (pt a),.val (pt b),.val (fr a.1),.val (fr a.2),.val (fr b.1),.val (fr b.2)],fs⟩) ?_
 show a2g WMi WXy ⟨[.val (pt a),.val (pt b),.no,.no,.no,.no],fs⟩ = _
 unfold a2g
 rw [i9 (s1 := ⟨[.val (pt a),.val (pt b),.val (fr a.1),.val (fr a.2),.val (fr b.1),.val (fr b.2)],fs⟩) (l5 (y9 (j8 (e8 rfl rfl) xa) (j8 (e8 rfl rfl) xb)) rfl)]
 exact m6 (y9 (j8 rfl m1) (j8 rfl m2))
theorem a2T {k : Nat} {u v : Pt} (hu : PtS k u) (hv : PtS k v) : Sz (4 * k + 1) (crs u v) := ((hu.1.mul hv.2).sub (hu.2.mul hv.1)).mono (by omega)
theorem a1e {k : Nat} {u v : Pt} (hu : PtS k u) (hv : PtS k v) : Sz (4 * k + 1) (J0 u v) := ((hu.1.mul hv.1).add (hu.2.mul hv.2)).mono (by omega)
theorem a30 {k : Nat} {u v : Pt} (fs : Option FS) (hu : PtS k u) (hv : PtS k v) (hk : k ≤ 1000) : WAw [vcD u,vcD v] fs = some (fr (crs u v),fs):= by
 have p1 := X9 u.1 v.2 fs hu.1 hv.2 (by omega)
 have p2 := X9 u.2 v.1 fs hu.2 hv.1 (by omega)
 have m := a1J (u.1 * v.2) (u.2 * v.1) fs (hu.1.mul hv.2) (hu.2.mul hv.1) (by omega)
 exact n8 (s := ⟨[.val (vcD u),.val (vcD v)],fs⟩) (m6 (j8 (e8 (j8 (e8 (a8 rfl rfl rfl) (e8 (a8 rfl rfl rfl) rfl)) p1) (e8 (j8 (e8 (a8 rfl rfl rfl) (e8 (a8 rfl rfl rfl) rfl)) p2) rfl)) m))
theorem a53 {k : Nat} {u v : Pt} (fs : Option FS) (hu : PtS k u) (hv : PtS k v) (hk : k ≤ 1000) : WWi [vcD u,vcD v] fs = some (fr (J0 u v),fs):= by
 have p1 := X9 u.1 v.1 fs hu.1 hv.1 (by omega)
 have p2 := X9 u.2 v.2 fs hu.2 hv.2 (by omega)
 have m := Q2 (u.1 * v.1) (u.2 * v.2) fs (hu.1.mul hv.1) (hu.2.mul hv.2) (by omega)
 exact n8 (s := ⟨[.val (vcD u),.val (vcD v)],fs⟩) (m6 (j8 (e8 (j8 (e8 (a8 rfl rfl rfl) (e8 (a8 rfl rfl rfl) rfl)) p1) (e8 (j8 (e8 (a8 rfl rfl rfl) (e8 (a8 rfl rfl rfl) rfl)) p2) rfl)) m))
theorem a1M {k l : Nat} {a b : Pt} {s : Rat} (fs : Option FS) (ha : PtS k a) (hb : PtS k b) (hs : Sz l s) (hk : k ≤ 400) (hl : l ≤ 1300) : WOw [pt a,pt b,fr s] fs = some (pt (j6 a b s),fs):= by
 have xa := wxy a fs (Ps.of ha.1 ha.2) (by omega)
 have f := T4 fs ha hb (by omega)
 have z1 := hb.1.sub ha.1
 have z2 := hb.2.sub ha.2
 have p1 := X9 s (b.1 - a.1) fs hs z1 (by omega)
 have p2 := X9 s (b.2 - a.2) fs hs z2 (by omega)
 have s1 := Q2 a.1 _ fs ha.1 (hs.mul z1) (by omega)
 have s2 := Q2 a.2 _ fs ha.2 (hs.mul z2) (by omega)
 have sp := X1 _ _ fs (ha.1.add (hs.mul z1)) (ha.2.add (hs.mul z2)) (by omega)
 unfold j6
 refine n8 (s := ⟨[.val (pt a),.val (pt b),.val (fr s),.val (fr a.1),.val (fr a.2),.val (fr (b.1 - a.1)),.val (fr (b.2 - a.2))],fs⟩) ?_
 show a3M WSp WPl WPr WFr WXy ⟨[.val (pt a),.val (pt b),.val (fr s),.no,.no,.no,.no],fs⟩ = _
 unfold a3M
 rw [i9 (s1 := ⟨[.val (pt a),.val (pt b),.val (fr s),.val (fr a.1),.val (fr a.2),.no,.no],fs⟩) (l5 (j8 rfl xa) rfl),
  i9 (s1 := ⟨[.val (pt a),.val (pt b),.val (fr s),.val (fr a.1),.val (fr a.2),.val (fr (b.1 - a.1)),.val (fr (b.2 - a.2))],fs⟩) (l5 (j8 rfl f) rfl)]
 exact m6 (j8 (e8 (j8 (e8 rfl (e8 (j8 rfl p1) rfl)) s1) (e8 (j8 (e8 rfl (e8 (j8 rfl p2) rfl)) s2) rfl)) sp)
theorem Y8 {a b : DE} {s s1 : DS} {r : Option (D × DS)} (h1 : a s = some (.bl true,s1)) (h2 : b s1 = r) : o6 a b s = r:= by
 unfold o6
 rw [t7 h1,Option.bind_some,if_pos rfl,h2]
theorem a0d {a b : DE} {s s1 : DS} (h1 : a s = some (.bl false,s1)) : o6 a b s = some (.bl false,s1):= by
 unfold o6
 rw [t7 h1,Option.bind_some,if_neg Bool.false_ne_true]
theorem a4N {a b : DE} {s s1 : DS} (h1 : a s = some (.bl true,s1)) : A3 a b s = some (.bl true,s1):= by
 unfold A3
 rw [t7 h1,Option.bind_some,if_pos rfl]
theorem a6E {a b : DE} {s s1 : DS} {r : Option (D × DS)} (h1 : a s = some (.bl false,s1)) (h2 : b s1 = r) : A3 a b s = r:= by
 unfold A3
 rw [t7 h1,Option.bind_some,if_neg Bool.false_ne_true,h2]
theorem b0o {a : DE} {s s1 : DS} {b : Bool} (h1 : a s = some (.bl b,s1)) : y8 a s = some (.bl (!b),s1):= by
 unfold y8
 rw [t7 h1]
 rfl
theorem a7b (x : Rat) : x.num < 0 ↔ x < 0:= by
 rw [← Int.not_le,← Rat.not_le,Rat.num_nonneg]
theorem a69 {k : Nat} {s : Rat} (fs : Option FS) (hs : Sz k s) (hk : k ≤ 4000) : WIs [fr s] fs = some (.bl (decide (0 ≤ s ∧ s ≤ 1)),fs):= by
 have b := a0F 1 s fs (Sz.lit (k := 1) (by decide)) hs (by omega)
 refine n8 (s := ⟨[.val (fr s)],fs⟩) (m6 ?_)
 have t : dOp (k0 (fun i j => decide (j ≤ i))) (dOp pIx (dL 0) (dC (.int 0))) (dC (.int 0)) ⟨[.val (fr s)],fs⟩ = some (.bl (decide (0 ≤ s.num)),⟨[.val (fr s)],fs⟩) := a8 (a8 rfl rfl (C7 s)) rfl rfl
 by_cases c : 0 ≤ s
 ·have c' : 0 ≤ s.num := Rat.num_nonneg.mpr c
  rw [decide_eq_true c'] at t
  refine (Y8 t (b0o (j8 (e8 (y9 rfl rfl) (e8 rfl rfl)) b))).trans ?_
  by_cases d : s ≤ 1
  ·rw [decide_eq_true (show 0 ≤ s ∧ s ≤ 1 from ⟨c,d⟩),decide_eq_false (show ¬ 1 < s from fun z => by grind)]
   rfl
  ·rw [decide_eq_false (show ¬ (0 ≤ s ∧ s ≤ 1) from fun z => d z.2),decide_eq_true (show 1 < s by grind)]
   rfl
 ·have c' : ¬ 0 ≤ s.num := fun z => c (Rat.num_nonneg.mp z)
  rw [decide_eq_false c'] at t
  refine (a0d t).trans ?_
  rw [decide_eq_false (show ¬ (0 ≤ s ∧ s ≤ 1) from fun z => c z.1)]
abbrev alS (a b c d : Pt) (x2 x3 x4 x5 x6 x7 : Sl) (fs : Option FS) : DS := ⟨[.val (pcD (a,b)),.val (pcD (c,d)),x2,x3,x4,x5,x6,x7],fs⟩
abbrev a5L : DM := (e7 (j4 (dIf (dB (dOp (k0 (fun i j => decide (i < j))) (dOp pIx (dOp pIx (dL 3) (dC (.int 0))) (dC (.int 0))) (dC (.int 0)))) (i3 (a0 (dC (.int 0)) (a0 (dC (.int 1)) a6))) (dOp pIx (dL 3) (dC (.int 0)))) (i4 4)) (e7 (j4 (dIf (dTr (c6 K3 (a0 (i3 (a0 (dC (.int 1)) (a0 (dC (.int 1)) a6))) (a0 (dOp pIx (dL 3) (dC (.int 1))) a6)))) (i3 (a0 (dC (.int 1)) (a0 (dC (.int 1)) a6))) (dOp pIx (dL 3) (dC (.int 1)))) (i4 5)) (e7 (l7 (dTr (c6 K3 (a0 (dV 5) (a0 (dV 4) a6)))) (j7 (dC .non)) m7) (e7 (u9 6 (D7 [0] (E8 (m8 (m9 (a0 (dV 4) (a0 (dV 5) a6))))) B4 (c6 WOw (a0 (dOp pIx (dL 1) (dC (.int 0))) (a0 (dOp pIx (dL 1) (dC (.int 1))) (a0 (dV 0) a6)))))) (e7 (l7 (dB (dOp pEq (dOp pIx (dL 6) (dC (.int 0))) (dOp pIx (dL 6) (dC (.int 1))))) (j7 (i3 (a0 (dC (.str "at")) (a0 (dOp pIx (dL 6) (dC (.int 0))) a6)))) m7) (e7 (j4 (c6 WFr (a0 (dOp pIx (dL 6) (dC (.int 0))) (a0 (dOp pIx (dL 6) (dC (.int 1))) a6))) (i4 2)) (e7 (j4 (A3 (dOp (k0 (fun i j => decide (j < i))) (dOp pIx (dOp pIx (dL 2) (dC (.int 0))) (dC (.int 0))) (dC (.int 0))) (o6 (dOp pEq (dOp pIx (dOp pIx (dL 2) (dC (.int 0))) (dC (.int 0))) (dC (.int 0))) (dOp (k0 (fun i j => decide (j < i))) (dOp pIx (dOp pIx (dL 2) (dC (.int 1))) (dC (.int 0))) (dC (.int 0))))) (i4 7)) (j7 (dIf (dTr (dL 7)) (i3 (a0 (dC (.str "along")) (a0 (dOp pIx (dL 6) (dC (.int 0))) (a0 (dOp pIx (dL 6) (dC (.int 1))) a6)))) (i3 (a0 (dC (.str "along")) (a0 (dOp pIx (dL 6) (dC (.int 1))) (a0 (dOp pIx (dL 6) (dC (.int 0))) a6)))))))))))))
theorem a3i (x : Rat) : 0 < x.num ↔ 0 < x:= by
 constructor
 ·intro z
  by_cases c : 0 < x
  ·exact c
  ·have a := Rat.num_nonneg.mp (Int.le_of_lt z)
   have b : x = 0 := by grind
   rw [b] at z
   exact absurd z (by decide)
 ·intro z
  have a := a9A (Rat.le_of_lt z)
  have b : x.num ≠ 0 := fun q => by
   rw [Rat.num_eq_zero] at q
   rw [q] at z
   exact absurd z Rat.lt_irrefl
  omega
open Classical in
theorem a4r {k l : Nat} {a b c d : Pt} {x y : Rat} (fs : Option FS) (ha : PtS k a) (hb : PtS k b) (hx : Sz l x) (hy : Sz l y) (hk : k ≤ 400) (hl : l ≤ 1300) (l1 : 1 ≤ l) (pl : PtS k (j6 a b (loS x))) (ph : PtS k (j6 a b (hiS y))) (x2 : Sl) :
  ∃ s',a5L (alS a b c d x2 (.own [fr x,fr y]) .no .no .no .no fs) = some (.ret (n0 (U0 a b (loS x) (hiS y))),s') ∧ s'.fs = fs:= by
 have zl : Sz l (loS x) := by unfold loS; split; exact (Sz.lit (k := 1) (by decide)).mono l1; exact hx
 have zh : Sz l (hiS y) := by unfold hiS; split; exact (Sz.lit (k := 1) (by decide)).mono l1; exact hy
 have low : dIf (dB (dOp (k0 (fun i j => decide (i < j))) (dOp pIx (dOp pIx (dL 3) (dC (.int 0))) (dC (.int 0))) (dC (.int 0)))) (i3 (a0 (dC (.int 0)) (a0 (dC (.int 1)) a6))) (dOp pIx (dL 3) (dC (.int 0))) (alS a b c d x2 (.own [fr x,fr y]) .no .no .no .no fs) = some (fr (loS x),alS a b c d x2 (.own [fr x,fr y]) .no .no .no .no fs):= by
  have t : dB (dOp (k0 (fun i j => decide (i < j))) (dOp pIx (dOp pIx (dL 3) (dC (.int 0))) (dC (.int 0))) (dC (.int 0))) (alS a b c d x2 (.own [fr x,fr y]) .no .no .no .no fs) = some (decide (x.num < 0),alS a b c d x2 (.own [fr x,fr y]) .no .no .no .no fs) := t7 (a8 (a8 (a8 rfl rfl rfl) rfl (C7 x)) rfl rfl)
  unfold loS
  by_cases q : x < 0
  ·rw [decide_eq_true ((a7b x).mpr q)] at t
   rw [if_pos q]
   exact (M3 t).trans (y9 rfl rfl)
  ·rw [decide_eq_false (fun z => q ((a7b x).mp z))] at t
   rw [if_neg q]
   exact (M8 t).trans (a8 rfl rfl rfl)
 have bh := a0F 1 y fs (Sz.lit (k := 1) (by decide)) hy (by omega)
 have high : dIf (dTr (c6 K3 (a0 (i3 (a0 (dC (.int 1)) (a0 (dC (.int 1)) a6))) (a0 (dOp pIx (dL 3) (dC (.int 1))) a6)))) (i3 (a0 (dC (.int 1)) (a0 (dC (.int 1)) a6))) (dOp pIx (dL 3) (dC (.int 1))) (alS a b c d x2 (.own [fr x,fr y]) (.val (fr (loS x))) .no .no .no fs) = some (fr (hiS y),alS a b c d x2 (.own [fr x,fr y]) (.val (fr (loS x))) .no .no .no fs):= by
  unfold hiS
  by_cases q : 1 < y
  ·rw [decide_eq_true q] at bh
   rw [if_pos q]
   exact (M3 (D3 (j8 (e8 (y9 rfl rfl) (e8 (a8 rfl rfl rfl) rfl)) bh))).trans (y9 rfl rfl)
  ·rw [decide_eq_false q] at bh
   rw [if_neg q]
   exact (M8 (D3 (j8 (e8 (y9 rfl rfl) (e8 (a8 rfl rfl rfl) rfl)) bh))).trans (a8 rfl rfl rfl)
 have bl := a0F (hiS y) (loS x) fs zh zl (by omega)
 have o1 := a1M fs ha hb zl hk hl
 have o2 := a1M fs ha hb zh hk hl
 unfold U0
 generalize loS x = lo at *
 generalize hiS y = hi at *
 unfold a5L
 rw [i9 (s1 := alS a b c d x2 (.own [fr x,fr y]) (.val (fr lo)) .no .no .no fs) (l5 low rfl),i9 (s1 := alS a b c d x2 (.own [fr x,fr y]) (.val (fr lo)) (.val (fr hi)) .no .no fs) (l5 high rfl)]
 by_cases q : hi < lo
 ·rw [decide_eq_true q] at bl
  rw [if_pos q]
  exact ⟨_,G3 ((C6 (D3 (j8 rfl bl))).trans (m6 rfl)),rfl⟩
 ·rw [decide_eq_false q] at bl
  rw [if_neg q,i9 (s1 := alS a b c d x2 (.own [fr x,fr y]) (.val (fr lo)) (.val (fr hi)) .no .no fs) (K2 (D3 (j8 rfl bl)))]
  have cm := a1b (caps := [.val (pcD (a,b))]) (fe := c6 WOw (a0 (dOp pIx (dL 1) (dC (.int 0))) (a0 (dOp pIx (dL 1) (dC (.int 1))) (a0 (dV 0) a6)))) fs fr (fun z => pt (j6 a b z)) [lo,hi] fun z hz => by
   have : WOw [pt a,pt b,fr z] fs = some (pt (j6 a b z),fs):= by
    rcases List.mem_cons.mp hz with e | e
    ·rw [e]; exact o1
    ·rw [List.mem_singleton.mp e]; exact o2
   exact j8 (e8 (a8 rfl rfl rfl) (e8 (a8 rfl rfl rfl) (e8 rfl rfl))) this
  have cm : B9 (fun d => some (.val d :: [.val (pcD (a,b))])) B4 (c6 WOw (a0 (dOp pIx (dL 1) (dC (.int 0))) (a0 (dOp pIx (dL 1) (dC (.int 1))) (a0 (dV 0) a6)))) [fr lo,fr hi] fs = some ([pt (j6 a b lo),pt (j6 a b hi)],fs) := cm
  have eq := a6H (Ps.of pl.1 pl.2) (Ps.of ph.1 ph.2) (by omega) (by omega)
  have fv := T4 fs pl ph (by omega)
  generalize j6 a b lo = A at *
  generalize j6 a b hi = B at *
  rw [i9 (s1 := alS a b c d x2 (.own [fr x,fr y]) (.val (fr lo)) (.val (fr hi)) (.own [pt A,pt B]) .no fs) (B2 (s1 := alS a b c d x2 (.own [fr x,fr y]) (.val (fr lo)) (.val (fr hi)) .no .no fs) (M4 (idx := [0]) (ds := [fr lo,fr hi]) (R := [pt A,pt B]) (s1 := alS a b c d x2 (.own [fr x,fr y]) (.val (fr lo)) (.val (fr hi)) .no .no fs) rfl (show 2 ≤ sizeLine by decide) cm) (show 6 < 8 by decide))]
  by_cases e : A = B
  ·rw [decide_eq_true e] at eq
   rw [if_pos e]
   exact ⟨_,G3 ((C6 (t7 (a8 (a8 rfl rfl rfl) (a8 rfl rfl rfl) eq))).trans (m6 (y9 rfl (a8 rfl rfl rfl)))),rfl⟩
  ·rw [decide_eq_false e] at eq
   rw [if_neg e,i9 (s1 := alS a b c d x2 (.own [fr x,fr y]) (.val (fr lo)) (.val (fr hi)) (.own [pt A,pt B]) .no fs) (K2 (t7 (a8 (a8 rfl rfl rfl) (a8 rfl rfl rfl) eq))),
    i9 (s1 := alS a b c d (.val (vcD (vec A B))) (.own [fr x,fr y]) (.val (fr lo)) (.val (fr hi)) (.own [pt A,pt B]) .no fs) (l5 (j8 (e8 (a8 rfl rfl rfl) (e8 (a8 rfl rfl rfl) rfl)) fv) rfl)]
   generalize vec A B = v at *
   have r1 : dOp (k0 (fun i j => decide (j < i))) (dOp pIx (dOp pIx (dL 2) (dC (.int 0))) (dC (.int 0))) (dC (.int 0)) (alS a b c d (.val (vcD v)) (.own [fr x,fr y]) (.val (fr lo)) (.val (fr hi)) (.own [pt A,pt B]) .no fs) = some (.bl (decide (0 < v.1.num)),alS a b c d (.val (vcD v)) (.own [fr x,fr y]) (.val (fr lo)) (.val (fr hi)) (.own [pt A,pt B]) .no fs) := a8 (a8 (a8 rfl rfl rfl) rfl (C7 v.1)) rfl rfl
   have r2 : dOp pEq (dOp pIx (dOp pIx (dL 2) (dC (.int 0))) (dC (.int 0))) (dC (.int 0)) (alS a b c d (.val (vcD v)) (.own [fr x,fr y]) (.val (fr lo)) (.val (fr hi)) (.own [pt A,pt B]) .no fs) = some (.bl (decide (v.1.num = 0)),alS a b c d (.val (vcD v)) (.own [fr x,fr y]) (.val (fr lo)) (.val (fr hi)) (.own [pt A,pt B]) .no fs) := a8 (a8 (a8 rfl rfl rfl) rfl (C7 v.1)) rfl (C3 _ 0)
   have r3 : dOp (k0 (fun i j => decide (j < i))) (dOp pIx (dOp pIx (dL 2) (dC (.int 1))) (dC (.int 0))) (dC (.int 0)) (alS a b c d (.val (vcD v)) (.own [fr x,fr y]) (.val (fr lo)) (.val (fr hi)) (.own [pt A,pt B]) .no fs) = some (.bl (decide (0 < v.2.num)),alS a b c d (.val (vcD v)) (.own [fr x,fr y]) (.val (fr lo)) (.val (fr hi)) (.own [pt A,pt B]) .no fs) := a8 (a8 (a8 rfl rfl rfl) rfl (C7 v.2)) rfl rfl
   have rs : A3 (dOp (k0 (fun i j => decide (j < i))) (dOp pIx (dOp pIx (dL 2) (dC (.int 0))) (dC (.int 0))) (dC (.int 0))) (o6 (dOp pEq (dOp pIx (dOp pIx (dL 2) (dC (.int 0))) (dC (.int 0))) (dC (.int 0))) (dOp (k0 (fun i j => decide (j < i))) (dOp pIx (dOp pIx (dL 2) (dC (.int 1))) (dC (.int 0))) (dC (.int 0)))) (alS a b c d (.val (vcD v)) (.own [fr x,fr y]) (.val (fr lo)) (.val (fr hi)) (.own [pt A,pt B]) .no fs) = some (.bl (decide (w8 v.1 v.2)),alS a b c d (.val (vcD v)) (.own [fr x,fr y]) (.val (fr lo)) (.val (fr hi)) (.own [pt A,pt B]) .no fs):= by
    by_cases p1 : 0 < v.1
    ·rw [decide_eq_true ((a3i v.1).mpr p1)] at r1
     rw [decide_eq_true (show w8 v.1 v.2 from .inl p1)]
     exact a4N r1
    ·rw [decide_eq_false (fun z => p1 ((a3i v.1).mp z))] at r1
     refine (a6E r1 rfl).trans ?_
     by_cases p2 : v.1 = 0
     ·rw [decide_eq_true (Rat.num_eq_zero.mpr p2)] at r2
      refine (Y8 r2 rfl).trans (r3.trans ?_)
      have : decide (0 < v.2.num) = decide (w8 v.1 v.2):= by
       rw [Bool.eq_iff_iff,decide_eq_true_iff,decide_eq_true_iff,a3i]
       exact ⟨fun z => .inr ⟨p2,z⟩,fun z => z.elim (fun w => absurd w p1) (·.2)⟩
      rw [this]
     ·rw [decide_eq_false (fun z => p2 (Rat.num_eq_zero.mp z))] at r2
      refine (a0d r2).trans ?_
      rw [decide_eq_false (show ¬ w8 v.1 v.2 from fun z => z.elim p1 (fun w => p2 w.1))]
   rw [i9 (s1 := alS a b c d (.val (vcD v)) (.own [fr x,fr y]) (.val (fr lo)) (.val (fr hi)) (.own [pt A,pt B]) (.val (.bl (decide (w8 v.1 v.2)))) fs) (l5 rs rfl)]
   refine ⟨alS a b c d (.val (vcD v)) (.own [fr x,fr y]) (.val (fr lo)) (.val (fr hi)) (.own [pt A,pt B]) (.val (.bl (decide (w8 v.1 v.2)))) fs,?_,rfl⟩
   by_cases p : w8 v.1 v.2
   ·rw [if_pos p,decide_eq_true p]
    exact m6 ((M3 (D3 rfl)).trans (S8 rfl (a8 rfl rfl rfl) (a8 rfl rfl rfl)))
   ·rw [if_neg p,decide_eq_false p]
    exact m6 ((M8 (D3 rfl)).trans (S8 rfl (a8 rfl rfl rfl) (a8 rfl rfl rfl)))
end T
namespace T
open PySem L2 DL
theorem b0x {a b c d : Pt} {x2 : Sl} {p q : D} {fs : Option FS} : a1k 3 (alS a b c d x2 (.own [p,q]) .no .no .no .no fs) = some (.next,alS a b c d x2 (.own [q,p]) .no .no .no .no fs):= by
 show (if [p,q].length ≤ sizeLine then some (Fl.next,alS a b c d x2 (.own [q,p]) .no .no .no .no fs) else none) = _
 exact if_pos (show 2 ≤ sizeLine by decide)
theorem a6q {a b c : Pt} (ha : PtS 80 a) (hb : PtS 80 b) (hc : PtS 80 c) (hab : a ≠ b) : Sz 1290 (shr a b c):=
 (a2a (a2J (a2A hab)) (a1e (N3 ha hc) (N3 ha hb)) (a1e (N3 ha hb) (N3 ha hb))).mono (by decide)
theorem a8U {a b c d : Pt} (fs : Option FS) (ha : PtS 80 a) (hb : PtS 80 b) (hc : PtS 80 c) (hd : PtS 80 d) (hab : a ≠ b) (k1 : i5 a b c = 0) (k2 : i5 a b d = 0) : WAl [pcD (a,b),pcD (c,d)] fs = some (n0 (a0l a b (shr a b c) (shr a b d)),fs):= by
 have f := T4 fs ha hb (by decide)
 have vb := N3 ha hb
 have ec : j6 a b (shr a b c) = c:= by
  obtain ⟨s,hs⟩ := V9 hab k1
  rw [hs,a1t hab]
 have ed : j6 a b (shr a b d) = d:= by
  obtain ⟨s,hs⟩ := V9 hab k2
  rw [hs,a1t hab]
 have el : ∀ z : Pt,PtS 80 z → c6 WOv (a0 (c6 WWi (a0 (c6 WFr (a0 (dOp pIx (dL 2) (dC (.int 0))) (a0 (dV 0) a6))) (a0 (dV 1) a6))) (a0 (c6 WWi (a0 (dV 1) (a0 (dV 1) a6))) a6)) ⟨.val (pt z) :: [.val (vcD (vec a b)),.val (pcD (a,b))],fs⟩ = some (fr (shr a b z),⟨.val (pt z) :: [.val (vcD (vec a b)),.val (pcD (a,b))],fs⟩) := fun z hz => by
  have vz := N3 ha hz
  have g1 := T4 fs ha hz (by decide)
  have g2 := a53 fs vz vb (by decide)
  have g3 := a53 fs vb vb (by decide)
  have g4 := a3y (J0 (vec a z) (vec a b)) (J0 (vec a b) (vec a b)) fs (a1e vz vb) (a1e vb vb) (a2J (a2A hab)) (by decide)
  exact j8 (e8 (j8 (e8 (j8 (e8 (a8 rfl rfl rfl) (e8 rfl rfl)) g1) (e8 rfl rfl)) g2) (e8 (j8 rfl g3) rfl)) g4
 have cm := a1b (caps := [.val (vcD (vec a b)),.val (pcD (a,b))]) (fe := c6 WOv (a0 (c6 WWi (a0 (c6 WFr (a0 (dOp pIx (dL 2) (dC (.int 0))) (a0 (dV 0) a6))) (a0 (dV 1) a6))) (a0 (c6 WWi (a0 (dV 1) (a0 (dV 1) a6))) a6))) fs pt (fun z => fr (shr a b z)) [c,d] fun z hz => by
  rcases List.mem_cons.mp hz with q | q
  ·rw [q]; exact el c hc
  ·rw [List.mem_singleton.mp q]; exact el d hd
 have zc := a6q ha hb hc hab
 have zd := a6q ha hb hd hab
 have bl := a0F (shr a b d) (shr a b c) fs zd zc (by decide)
 have lo : ∀ x : Rat,PtS 80 (j6 a b x) → PtS 80 (j6 a b (loS x)) := fun x h => by
  unfold loS
  split
  ·rw [P0]; exact ha
  ·exact h
 have hi : ∀ x : Rat,PtS 80 (j6 a b x) → PtS 80 (j6 a b (hiS x)) := fun x h => by
  unfold hiS
  split
  ·rw [P1]; exact hb
  ·exact h
 have pc : PtS 80 (j6 a b (shr a b c)) := by rw [ec]; exact hc
 have pd : PtS 80 (j6 a b (shr a b d)) := by rw [ed]; exact hd
 have fin : ∃ s',a0X WFr WOw K3 WOv WWi (alS a b c d .no .no .no .no .no .no fs) = some (.ret (n0 (a0l a b (shr a b c) (shr a b d))),s') ∧ s'.fs = fs:= by
  unfold a0X
  rw [i9 (s1 := alS a b c d (.val (vcD (vec a b))) .no .no .no .no .no fs) (l5 (j8 (e8 (a8 rfl rfl rfl) (e8 (a8 rfl rfl rfl) rfl)) f) rfl),
   i9 (s1 := alS a b c d (.val (vcD (vec a b))) (.own [fr (shr a b c),fr (shr a b d)]) .no .no .no .no fs) (B2 (s1 := alS a b c d (.val (vcD (vec a b))) .no .no .no .no .no fs) (M4 (idx := [2,0]) (ds := [pt c,pt d]) (R := [fr (shr a b c),fr (shr a b d)]) (s1 := alS a b c d (.val (vcD (vec a b))) .no .no .no .no .no fs) rfl (show 2 ≤ sizeLine by decide) cm) (show 3 < 8 by decide))]
  unfold a0l
  by_cases q : shr a b d < shr a b c
  ·rw [decide_eq_true q] at bl
   rw [if_pos q,i9 (s1 := alS a b c d (.val (vcD (vec a b))) (.own [fr (shr a b d),fr (shr a b c)]) .no .no .no .no fs) ((C6 (D3 (j8 (e8 (a8 rfl rfl rfl) (e8 (a8 rfl rfl rfl) rfl)) bl))).trans b0x)]
   exact a4r fs ha hb zd zc (by decide) (by decide) (by decide) (lo _ pd) (hi _ pc) _
  ·rw [decide_eq_false q] at bl
   rw [if_neg q,i9 (s1 := alS a b c d (.val (vcD (vec a b))) (.own [fr (shr a b c),fr (shr a b d)]) .no .no .no .no fs) (K2 (D3 (j8 (e8 (a8 rfl rfl rfl) (e8 (a8 rfl rfl rfl) rfl)) bl)))]
   exact a4r fs ha hb zc zd (by decide) (by decide) (by decide) (lo _ pc) (hi _ pd) _
 obtain ⟨s',e,hf⟩ := fin
 have r := n8 (n := 8) (b := a0X WFr WOw K3 WOv WWi) (ds := [pcD (a,b),pcD (c,d)]) (fs := fs) (s := s') e
 rw [hf] at r
 exact r
theorem b0H {a b c d : Pt} (fs : Option FS) (ha : PtS 80 a) (hb : PtS 80 b) (hc : PtS 80 c) (hd : PtS 80 d) (hab : a ≠ b) : WCm [pcD (a,b),pcD (c,d)] fs = some (n0 (a1m a b c d),fs):= by
 have v1 := N3 ha hb
 have v2 := N3 hc hd
 have v3 := N3 ha hc
 have f1 := T4 fs ha hb (by decide)
 have f2 := T4 fs hc hd (by decide)
 have f3 := T4 fs ha hc (by decide)
 have a1 := a30 fs v1 v2 (by decide)
 have a2 := a30 fs v3 v1 (by decide)
 have a3 := a30 fs v3 v2 (by decide)
 have z1 := a2T v1 v2
 have z2 := a2T v3 v1
 have z3 := a2T v3 v2
 have st : a3h WOw WIs WOv WAw WAl WFr ⟨[.val (pcD (a,b)),.val (pcD (c,d)),.no,.no,.no,.no,.no],fs⟩ = (e7 (l7 (dB (dOp pEq (dOp pIx (dL 5) (dC (.int 0))) (dC (.int 0)))) (j7 (dIf (dB (dOp pEq (dOp pIx (c6 WAw (a0 (dV 4) (a0 (dV 2) a6))) (dC (.int 0))) (dC (.int 0)))) (c6 WAl (a0 (dV 0) (a0 (dV 1) a6))) (dC .non))) m7) (e7 (j4 (c6 WOv (a0 (c6 WAw (a0 (dV 4) (a0 (dV 3) a6))) (a0 (dV 5) a6))) (i4 6)) (e7 (l7 (dOr (y0 (dTr (c6 WIs (a0 (dV 6) a6)))) (y0 (dTr (c6 WIs (a0 (c6 WOv (a0 (c6 WAw (a0 (dV 4) (a0 (dV 2) a6))) (a0 (dV 5) a6))) a6))))) (j7 (dC .non)) m7) (j7 (i3 (a0 (dC (.str "at")) (a0 (c6 WOw (a0 (dOp pIx (dL 0) (dC (.int 0))) (a0 (dOp pIx (dL 0) (dC (.int 1))) (a0 (dV 6) a6)))) a6))))))) ⟨[.val (pcD (a,b)),.val (pcD (c,d)),.val (vcD (vec a b)),.val (vcD (vec c d)),.val (vcD (vec a c)),.val (fr (crs (vec a b) (vec c d))),.no],fs⟩:= by
  unfold a3h
  rw [i9 (s1 := ⟨[.val (pcD (a,b)),.val (pcD (c,d)),.val (vcD (vec a b)),.val (vcD (vec c d)),.no,.no,.no],fs⟩) (a4Y (e8 (j8 (e8 (a8 rfl rfl rfl) (e8 (a8 rfl rfl rfl) rfl)) f1) (e8 (j8 (e8 (a8 rfl rfl rfl) (e8 (a8 rfl rfl rfl) rfl)) f2) rfl)) rfl),
   i9 (s1 := ⟨[.val (pcD (a,b)),.val (pcD (c,d)),.val (vcD (vec a b)),.val (vcD (vec c d)),.val (vcD (vec a c)),.no,.no],fs⟩) (l5 (j8 (e8 (a8 rfl rfl rfl) (e8 (a8 rfl rfl rfl) rfl)) f3) rfl),
   i9 (s1 := ⟨[.val (pcD (a,b)),.val (pcD (c,d)),.val (vcD (vec a b)),.val (vcD (vec c d)),.val (vcD (vec a c)),.val (fr (crs (vec a b) (vec c d))),.no],fs⟩) (l5 (j8 rfl a1) rfl)]
 have t0 : dB (dOp pEq (dOp pIx (dL 5) (dC (.int 0))) (dC (.int 0))) ⟨[.val (pcD (a,b)),.val (pcD (c,d)),.val (vcD (vec a b)),.val (vcD (vec c d)),.val (vcD (vec a c)),.val (fr (crs (vec a b) (vec c d))),.no],fs⟩ = some (decide ((crs (vec a b) (vec c d)).num = 0),⟨[.val (pcD (a,b)),.val (pcD (c,d)),.val (vcD (vec a b)),.val (vcD (vec c d)),.val (vcD (vec a c)),.val (fr (crs (vec a b) (vec c d))),.no],fs⟩) := t7 (a8 (a8 rfl rfl (C7 _)) rfl (C3 _ 0))
 have t1 : dB (dOp pEq (dOp pIx (c6 WAw (a0 (dV 4) (a0 (dV 2) a6))) (dC (.int 0))) (dC (.int 0))) ⟨[.val (pcD (a,b)),.val (pcD (c,d)),.val (vcD (vec a b)),.val (vcD (vec c d)),.val (vcD (vec a c)),.val (fr (crs (vec a b) (vec c d))),.no],fs⟩ = some (decide ((crs (vec a c) (vec a b)).num = 0),⟨[.val (pcD (a,b)),.val (pcD (c,d)),.val (vcD (vec a b)),.val (vcD (vec c d)),.val (vcD (vec a c)),.val (fr (crs (vec a b) (vec c d))),.no],fs⟩) := t7 (a8 (a8 (j8 rfl a2) rfl (C7 _)) rfl (C3 _ 0))
 unfold a1m
 by_cases hW : crs (vec a b) (vec c d) = 0
 ·rw [decide_eq_true (Rat.num_eq_zero.mpr hW)] at t0
  rw [if_pos hW]
  refine n8 (s := ⟨[.val (pcD (a,b)),.val (pcD (c,d)),.val (vcD (vec a b)),.val (vcD (vec c d)),.val (vcD (vec a c)),.val (fr (crs (vec a b) (vec c d))),.no],fs⟩) (st.trans (G3 ((C6 t0).trans (m6 ?_))))
  by_cases h0 : crs (vec a c) (vec a b) = 0
  ·rw [decide_eq_true (Rat.num_eq_zero.mpr h0)] at t1
   rw [if_pos h0]
   have k1 : i5 a b c = 0:= by
    have : i5 a b c = -crs (vec a c) (vec a b) := by unfold i5 crs vec; grind
    rw [this,h0]
    grind
   have k2 : i5 a b d = 0:= by
    have : i5 a b d = crs (vec a b) (vec c d) - crs (vec a c) (vec a b) := by unfold i5 crs vec; grind
    rw [this,h0,hW]
    grind
   exact (M3 t1).trans (j8 rfl (a8U fs ha hb hc hd hab k1 k2))
  ·rw [decide_eq_false (fun z => h0 (Rat.num_eq_zero.mp z))] at t1
   rw [if_neg h0]
   exact (M8 t1).trans rfl
 ·rw [decide_eq_false (fun z => hW (Rat.num_eq_zero.mp z))] at t0
  rw [if_neg hW]
  have o1 := a3y (crs (vec a c) (vec c d)) (crs (vec a b) (vec c d)) fs z3 z1 hW (by decide)
  have o2 := a3y (crs (vec a c) (vec a b)) (crs (vec a b) (vec c d)) fs z2 z1 hW (by decide)
  have zs : Sz 1290 (crs (vec a c) (vec c d) / crs (vec a b) (vec c d)) := (a2a hW z3 z1).mono (by decide)
  have zt : Sz 1290 (crs (vec a c) (vec a b) / crs (vec a b) (vec c d)) := (a2a hW z2 z1).mono (by decide)
  generalize crs (vec a c) (vec c d) / crs (vec a b) (vec c d) = s at *
  generalize crs (vec a c) (vec a b) / crs (vec a b) (vec c d) = t at *
  have i1 := a69 fs zs (by decide)
  have i2 := a69 fs zt (by decide)
  have ow := a1M fs ha hb zs (by decide) (by decide)
  refine n8 (s := ⟨[.val (pcD (a,b)),.val (pcD (c,d)),.val (vcD (vec a b)),.val (vcD (vec c d)),.val (vcD (vec a c)),.val (fr (crs (vec a b) (vec c d))),.val (fr s)],fs⟩) (st.trans ?_)
  rw [i9 (s1 := ⟨[.val (pcD (a,b)),.val (pcD (c,d)),.val (vcD (vec a b)),.val (vcD (vec c d)),.val (vcD (vec a c)),.val (fr (crs (vec a b) (vec c d))),.no],fs⟩) (K2 t0),
   i9 (s1 := ⟨[.val (pcD (a,b)),.val (pcD (c,d)),.val (vcD (vec a b)),.val (vcD (vec c d)),.val (vcD (vec a c)),.val (fr (crs (vec a b) (vec c d))),.val (fr s)],fs⟩) (l5 (j8 (e8 (j8 rfl a3) (e8 rfl rfl)) o1) rfl)]
  have n1 : y0 (dTr (c6 WIs (a0 (dV 6) a6))) ⟨[.val (pcD (a,b)),.val (pcD (c,d)),.val (vcD (vec a b)),.val (vcD (vec c d)),.val (vcD (vec a c)),.val (fr (crs (vec a b) (vec c d))),.val (fr s)],fs⟩ = some (!decide (0 ≤ s ∧ s ≤ 1),⟨[.val (pcD (a,b)),.val (pcD (c,d)),.val (vcD (vec a b)),.val (vcD (vec c d)),.val (vcD (vec a c)),.val (fr (crs (vec a b) (vec c d))),.val (fr s)],fs⟩) := a0U (D3 (j8 rfl i1))
  have n2 : y0 (dTr (c6 WIs (a0 (c6 WOv (a0 (c6 WAw (a0 (dV 4) (a0 (dV 2) a6))) (a0 (dV 5) a6))) a6))) ⟨[.val (pcD (a,b)),.val (pcD (c,d)),.val (vcD (vec a b)),.val (vcD (vec c d)),.val (vcD (vec a c)),.val (fr (crs (vec a b) (vec c d))),.val (fr s)],fs⟩ = some (!decide (0 ≤ t ∧ t ≤ 1),⟨[.val (pcD (a,b)),.val (pcD (c,d)),.val (vcD (vec a b)),.val (vcD (vec c d)),.val (vcD (vec a c)),.val (fr (crs (vec a b) (vec c d))),.val (fr s)],fs⟩) := a0U (D3 (j8 (e8 (j8 (e8 (j8 rfl a2) (e8 rfl rfl)) o2) rfl) i2))
  by_cases p1 : 0 ≤ s ∧ s ≤ 1
  ·rw [decide_eq_true p1] at n1
   by_cases p2 : 0 ≤ t ∧ t ≤ 1
   ·rw [decide_eq_true p2] at n2
    rw [if_neg (fun z => z.elim (fun w => w p1) (fun w => w p2)),i9 (K2 (Y3 n1 n2))]
    exact m6 (y9 rfl (j8 (e8 (a8 rfl rfl rfl) (e8 (a8 rfl rfl rfl) (e8 rfl rfl))) ow))
   ·rw [decide_eq_false p2] at n2
    rw [if_pos (.inr p2)]
    exact G3 ((C6 (Y3 n1 n2)).trans (m6 rfl))
  ·rw [decide_eq_false p1] at n1
   rw [if_pos (.inl p1)]
   exact G3 ((C6 (a2W n1)).trans (m6 rfl))
theorem a4c {x : Str} {n : Nat} (h : x.cps.toList.all (fun c => decide (c < 128)) = true) (hn : x.length ≤ n) : Ok 0 n (.str x) := (Ok.str (a85 (b2g h))).mono (by decide) hn
theorem a5u {a b c d : Pt} (ha : PtS 80 a) (hb : PtS 80 b) (hc : PtS 80 c) (hd : PtS 80 d) : Ok 2 40 (n0 (cmn a b c d)):= by
 have oa := Ps.of ha.1 ha.2
 have ob := Ps.of hb.1 hb.2
 have oc := Ps.of hc.1 hc.2
 have od := Ps.of hd.1 hd.2
 have at_ : ∀ {k : Nat} {p : Pt},Ps k p → k ≤ 1920 → Ok 2 40 (n0 (some (p,none))) := fun h hk => (Ok.tup (OkL.cons (a4c (x := "at") (n := 2) (by decide +kernel) (by decide +kernel)) (OkL.cons (Ok.pt h hk) OkL.nil))).mono (by decide) (by decide)
 have al_ : ∀ {p q : Pt},Ps (80 + 80) p → Ps (80 + 80) q → Ok 2 40 (n0 (some (p,some q))) := fun h h' => (Ok.tup (OkL.cons (a4c (x := "along") (n := 5) (by decide +kernel) (by decide +kernel)) (OkL.cons (Ok.pt h) (OkL.cons (Ok.pt h') OkL.nil)))).mono (by decide) (by decide)
 have no : Ok 2 40 (n0 none) := Ok.non.mono (by decide) (by decide)
 unfold cmn
 by_cases h0 : i5 a b c = 0 ∧ i5 a b d = 0
 ·rw [if_pos h0]
  have s1 : Ps (80 + 80) (spn a b).1 ∧ Ps (80 + 80) (spn a b).2 := by unfold spn; split <;> constructor <;> assumption
  have s2 : Ps (80 + 80) (spn c d).1 ∧ Ps (80 + 80) (spn c d).2 := by unfold spn; split <;> constructor <;> assumption
  have l := a63 s1.1 s2.1
  have m := a6g s1.2 s2.2
  unfold alg
  by_cases q1 : lsB (lxm (spn a b).2 (spn c d).2) (lxM (spn a b).1 (spn c d).1) = true
  ·rw [if_pos q1]; exact no
  ·rw [if_neg q1]
   by_cases q2 : lxM (spn a b).1 (spn c d).1 = lxm (spn a b).2 (spn c d).2
   ·rw [if_pos q2]; exact at_ l (by decide)
   ·rw [if_neg q2]; exact al_ l m
 ·rw [if_neg h0]
  by_cases p : 0 < i5 a b c * i5 a b d ∨ 0 < i5 c d a * i5 c d b
  ·rw [if_pos p]; exact no
  ·rw [if_neg p]
   have hW : crs (vec a b) (vec c d) ≠ 0 := fun z => by
    have e : i5 a b d = i5 a b c:= by
     have : i5 a b d - i5 a b c = crs (vec a b) (vec c d) := by unfold i5 crs vec; grind
     grind
    rw [e] at p h0
    have n : i5 a b c ≠ 0 := fun y => h0 ⟨y,y⟩
    exact p (.inl (a1n n))
   have x := a8h oa ob oc od hW
   exact at_ (Ps.of x.1 x.2) (by decide)
abbrev WAn : DFn := a18 LDw WGo WCh WNr
theorem b1S {r : Int} (h0 : 0 ≤ r) (h1 : r < 3) : ∃ p : Pt,atI [D.tup [.int 9999,.int (-5),.int 1],.tup [.int (-1000000000),.int 2,.int 1],.tup [.int 100000000000000000000,.int (-3),.int 7]] r = some (pt p) ∧ PtS 78 p:= by
 have k : ∀ x y d : Int,1 ≤ d → Int.gcd (Int.gcd x y : Int) d = 1 → x.natAbs < 2 ^ 78 → y.natAbs < 2 ^ 78 → d.natAbs < 2 ^ 78 → D.tup [.int x,.int y,.int d] = pt (Rat.divInt x d,Rat.divInt y d) ∧ PtS 78 (Rat.divInt x d,Rat.divInt y d) := fun x y d hd hg h1 h2 h3=>
  ⟨a9Q hd hg,Sz.of_divInt (by omega) h1 h3,Sz.of_divInt (by omega) h2 h3⟩
 have : r = 0 ∨ r = 1 ∨ r = 2 := by omega
 rcases this with rfl | rfl | rfl
 ·have q := k 9999 (-5) 1 (by decide) (by decide +kernel) (by decide) (by decide) (by decide)
  exact ⟨_,(congrArg some q.1 :),q.2⟩
 ·have q := k (-1000000000) 2 1 (by decide) (by decide +kernel) (by decide) (by decide) (by decide)
  exact ⟨_,(congrArg some q.1 :),q.2⟩
 ·have q := k 100000000000000000000 (-3) 7 (by decide) (by decide +kernel) (by decide) (by decide) (by decide)
  exact ⟨_,(congrArg some q.1 :),q.2⟩
structure LnK (c : Bool) (ps : List Pt) : Prop where
 lo : 1 ≤ ps.length
 hi : ps.length ≤ 9
 sz : ∀ p ∈ ps,PtS 80 p
 nd : Nd ps
 cl : c = true → ∀ a z,ps[0]? = some a → ps[ps.length - 1]? = some z → a ≠ z
theorem a0m {a b : DE} {s s1 : DS} {r : Option (D × DS)} (h1 : a s = some (.bl true,s1)) (h2 : b s1 = r) : o6 a b s = r:= by
 unfold o6
 rw [t7 h1,Option.bind_some,if_pos rfl]
 exact h2
theorem a0R {a b : DE} {s s1 : DS} (h1 : a s = some (.bl false,s1)) : o6 a b s = some (.bl false,s1):= by
 unfold o6
 rw [t7 h1,Option.bind_some,if_neg Bool.false_ne_true]
theorem a6y {a : DE} {s s1 : DS} {b : Bool} (h1 : a s = some (.bl b,s1)) : y8 a s = some (.bl (!b),s1):= by
 unfold y8
 rw [t7 h1]
 rfl
theorem a8P {p p' : D → D → Option D} {fa fb fc : DE} {s : DS} {x y z : D} {b c : Bool} (h1 : fa s = some (x,s)) (h2 : fb s = some (y,s)) (h3 : p x y = some (.bl b)) (h4 : fc s = some (z,s)) (h5 : p' y z = some (.bl c)) : S9 p p' fa fb fc s = some (.bl (b && c),s):= by
 unfold S9
 rw [h1,Option.bind_some,h2,Option.bind_some,h3,Option.bind_some]
 cases b with
 | true=>
  show (fc s).bind _ = _
  rw [h4,Option.bind_some,h5]
  rfl
 | false => rfl
abbrev anS (most : Int) (x2 : Sl) (ps : List Pt) (x4 : Sl) (f : FS) : DS := ⟨[.val .feed,.val (.int most),x2,.val (.tup (ps.map pt)),x4],some f⟩
theorem ixP {ps : List Pt} {i : Nat} {p : Pt} (h : ps[i]? = some p) : pIx (.tup (ps.map pt)) (.int (i : Int)) = some (pt p) := (ixT _ _).trans (atN (by rw [List.getElem?_map,h]; rfl))
theorem b1d {most : Int} {ps : List Pt} (x2 x4 : Sl) (f : FS) (hp : ∀ p ∈ ps,PtS 80 p) (h2 : 2 ≤ ps.length) : ∃ b : Bool,(b = true → 2 < ps.length ∧ ∀ a z,ps[0]? = some a → ps[ps.length - 1]? = some z → a ≠ z) ∧
  j4 (o6 (S9 (k0 (fun i j => decide (i < j))) (k0 (fun i j => decide (i < j))) (dC (.int 2)) (dCB (one k9) (a0 (dL 3) a6)) (dC (.int 9))) (o6 (dOp pNe (dOp pIx (dL 3) (dC (.int 0))) (dOp pIx (dL 3) (dUn l6 (dC (.int 1))))) (y8 (c6 WGo (a0 (dOp pIx (dL 3) (dUn l6 (dC (.int 2)))) (a0 (dOp pIx (dL 3) (dUn l6 (dC (.int 1)))) (a0 (dOp pIx (dL 3) (dC (.int 0))) a6))))))) (i4 4) (anS most x2 ps x4 f) = some (.next,anS most x2 ps (.val (.bl b)) f):= by
 obtain ⟨a,ha⟩ : ∃ z,ps[0]? = some z := ⟨_,List.getElem?_eq_getElem (by omega)⟩
 obtain ⟨y,hy⟩ : ∃ z,ps[ps.length - 2]? = some z := ⟨_,List.getElem?_eq_getElem (by omega)⟩
 obtain ⟨z,hz⟩ : ∃ z,ps[ps.length - 1]? = some z := ⟨_,List.getElem?_eq_getElem (by omega)⟩
 have sz : ∀ {i : Nat} {p : Pt},ps[i]? = some p → Ps 160 p := fun h => (hp _ (List.mem_of_getElem? h)).ps
 have i0 := ixP ha
 have i1 : pIx (.tup (ps.map pt)) (.int (-1)) = some (pt z) := (ixT _ _).trans (a2e hz)
 have i2 : pIx (.tup (ps.map pt)) (.int (-2)) = some (pt y) := (ixT _ _).trans (a6u h2 hy)
 obtain ⟨g,hg⟩ := a1y y z a (some f) (sz hy) (sz hz) (sz ha) (by decide)
 have c1 : S9 (k0 (fun i j => decide (i < j))) (k0 (fun i j => decide (i < j))) (dC (.int 2)) (dCB (one k9) (a0 (dL 3) a6)) (dC (.int 9)) (anS most x2 ps x4 f) = some (.bl (decide ((2 : Int) < ((ps.map pt).length : Int)) && decide (((ps.map pt).length : Int) < 9)),anS most x2 ps x4 f) := a8P rfl (B1 (p := k9) rfl rfl) rfl rfl rfl
 have c2 : dOp pNe (dOp pIx (dL 3) (dC (.int 0))) (dOp pIx (dL 3) (dUn l6 (dC (.int 1)))) (anS most x2 ps x4 f) = some (.bl (!decide (a = z)),anS most x2 ps x4 f) := a8 (a8 rfl rfl i0) (a8 rfl rfl i1) (a6F (sz ha) (sz hz))
 have c3 : y8 (c6 WGo (a0 (dOp pIx (dL 3) (dUn l6 (dC (.int 2)))) (a0 (dOp pIx (dL 3) (dUn l6 (dC (.int 1)))) (a0 (dOp pIx (dL 3) (dC (.int 0))) a6)))) (anS most x2 ps x4 f) = some (.bl (!g),anS most x2 ps x4 f) := a6y (j8 (e8 (a8 rfl rfl i2) (e8 (a8 rfl rfl i1) (e8 (a8 rfl rfl i0) rfl))) hg)
 generalize e1 : (decide ((2 : Int) < ((ps.map pt).length : Int)) && decide (((ps.map pt).length : Int) < 9)) = b1 at c1
 generalize e2 : (!decide (a = z)) = b2 at c2
 cases b1 with
 | false => exact ⟨false,fun q => (by cases q),l5 (a0R c1) rfl⟩
 | true=>
  cases b2 with
  | false => exact ⟨false,fun q => (by cases q),l5 (a0m c1 (a0R c2)) rfl⟩
  | true=>
   refine ⟨!g,fun _ => ⟨?_,fun a' z' q1 q2 q3 => ?_⟩,l5 (a0m c1 (a0m c2 c3)) rfl⟩
   ·rw [Bool.and_eq_true,decide_eq_true_iff,List.length_map] at e1
    omega
   ·rw [ha] at q1; rw [hz] at q2; cases q1; cases q2
    rw [decide_eq_true q3] at e2; cases e2
theorem b2Q {most : Int} {ps : List Pt} (x2 : Sl) (b : Bool) (f : FS) (hp : ∀ p ∈ ps,PtS 80 p) (h2 : 2 ≤ ps.length) : ∃ b' : Bool,(b' = true → b = true) ∧
  j4 (o6 (dV 4) (y8 (c6 WGo (a0 (dOp pIx (dL 3) (dUn l6 (dC (.int 1)))) (a0 (dOp pIx (dL 3) (dC (.int 0))) (a0 (dOp pIx (dL 3) (dC (.int 1))) a6)))))) (i4 4) (anS most x2 ps (.val (.bl b)) f) = some (.next,anS most x2 ps (.val (.bl b')) f):= by
 obtain ⟨a,ha⟩ : ∃ z,ps[0]? = some z := ⟨_,List.getElem?_eq_getElem (by omega)⟩
 obtain ⟨y,hy⟩ : ∃ z,ps[1]? = some z := ⟨_,List.getElem?_eq_getElem (by omega)⟩
 obtain ⟨z,hz⟩ : ∃ z,ps[ps.length - 1]? = some z := ⟨_,List.getElem?_eq_getElem (by omega)⟩
 have sz : ∀ {i : Nat} {p : Pt},ps[i]? = some p → Ps 160 p := fun h => (hp _ (List.mem_of_getElem? h)).ps
 have i0 := ixP ha
 have i2 := ixP hy
 have i1 : pIx (.tup (ps.map pt)) (.int (-1)) = some (pt z) := (ixT _ _).trans (a2e hz)
 obtain ⟨g,hg⟩ := a1y z a y (some f) (sz hz) (sz ha) (sz hy) (by decide)
 cases b with
 | false => exact ⟨false,fun q => q,l5 (a0R rfl) rfl⟩
 | true => exact ⟨!g,fun _ => rfl,l5 (a0m rfl (a6y (j8 (e8 (a8 rfl rfl i1) (e8 (a8 rfl rfl i0) (e8 (a8 rfl rfl i2) rfl))) hg))) rfl⟩
theorem b2U {n : Nat} {f : FS} (most : Int) (hm : 2 ≤ most ∧ most ≤ 9) (h : Fd3 n f) (hn : n < 2 ^ 26) : ∃ c ps f',WAn [.feed,.int most] (some f) = some (.tup [.bl c,.tup (ps.map pt)],some f') ∧ LnK c ps ∧ Fd3 (n + 90) f':= by
 obtain ⟨p0,f1,e1,s1,h1⟩ := a67 h (by omega)
 obtain ⟨r2,f2,e2,a1,a2,h2⟩ := B7 4 h1
 have first : ∃ p f3,PtS 78 p ∧ Fd3 (n + 6) f3 ∧ l7 (dB (dOp pEq (c6 LDw (a0 (dV 0) (a0 (dC (.int 4)) a6))) (dC (.int 0)))) (u9 2 (m9 (a0 (dOp pIx (m8 (m9 (a0 (i3 (a0 (dC (.int 9999)) (a0 (dUn l6 (dC (.int 5))) (a0 (dC (.int 1)) a6)))) (a0 (i3 (a0 (dUn l6 (dOp J4 (dC (.int 10)) (dC (.int 9)))) (a0 (dC (.int 2)) (a0 (dC (.int 1)) a6)))) (a0 (i3 (a0 (dOp J4 (dC (.int 10)) (dC (.int 20))) (a0 (dUn l6 (dC (.int 3))) (a0 (dC (.int 7)) a6)))) a6))))) (c6 LDw (a0 (dV 0) (a0 (dC (.int 3)) a6)))) a6))) m7 ⟨[.val .feed,.val (.int most),.own [pt p0],.no,.no],some f1⟩ = some (.next,⟨[.val .feed,.val (.int most),.own [pt p],.no,.no],some f3⟩):= by
  by_cases hr : r2 = 0
  ·obtain ⟨r3,f3,e3,b1,b2,h3⟩ := B7 3 h2
   obtain ⟨p,q,sp⟩ := b1S b1 b2
   refine ⟨p,f3,sp,h3,?_⟩
   rw [C6 (s1 := ⟨[.val .feed,.val (.int most),.own [pt p0],.no,.no],some f2⟩) (t7 (a8 (p7 rfl e2) rfl ((C3 r2 0).trans (by rw [decide_eq_true hr]))))]
   exact B2 (s1 := ⟨[.val .feed,.val (.int most),.own [pt p0],.no,.no],some f3⟩) (V7 (a8 (x := .lst [D.tup [.int 9999,.int (-5),.int 1],.tup [.int (-1000000000),.int 2,.int 1],.tup [.int 100000000000000000000,.int (-3),.int 7]]) (s1 := ⟨[.val .feed,.val (.int most),.own [pt p0],.no,.no],some f2⟩) rfl (p7 rfl e3) (D0 q))) (show 2 < 5 by decide)
  ·refine ⟨p0,f2,s1.mono (by decide),h2.mono (by omega),?_⟩
   rw [L9 (s1 := ⟨[.val .feed,.val (.int most),.own [pt p0],.no,.no],some f2⟩) (t7 (a8 (p7 rfl e2) rfl ((C3 r2 0).trans (by rw [decide_eq_false hr]))))]
   rfl
 obtain ⟨p,f3,sp,h3,e3⟩ := first
 obtain ⟨ps,f4,e4,hp,hd,l2,l9,h4⟩ := a9o hm sp h3 (by omega)
 obtain ⟨b,cb,c1⟩ := b1d (most := most) (.val (.lst [pt p])) .no f4 hp l2
 obtain ⟨b',cb2,c2⟩ := b2Q (most := most) (.val (.lst [pt p])) b f4 hp l2
 obtain ⟨r5,f5,e5,i1,i2,h5⟩ := B7 2 h4
 have fin : ∃ (c : Bool) (f6 : FS),Fd3 (n + 90) f6 ∧ (c = true → b' = true) ∧ o6 (dV 4) (dOp pEq (c6 LDw (a0 (dV 0) (a0 (dC (.int 2)) a6))) (dC (.int 0))) (anS most (.val (.lst [pt p])) ps (.val (.bl b')) f4) = some (.bl c,anS most (.val (.lst [pt p])) ps (.val (.bl b')) f6):= by
  cases b' with
  | false => exact ⟨false,f4,h4.mono (by omega),fun q => q,a0R rfl⟩
  | true => exact ⟨decide (r5 = 0),f5,h5.mono (by omega),fun _ => rfl,a0m rfl (a8 (p7 rfl e5) rfl (C3 r5 0))⟩
 obtain ⟨c,f6,h6,hc,e6⟩ := fin
 refine ⟨c,ps,f6,n8 (s := anS most (.val (.lst [pt p])) ps (.val (.bl b')) f6) ?_,⟨by omega,l9,hp,hd,fun q => (cb (cb2 (hc q))).2⟩,h6⟩
 show a1Y LDw WGo WCh WNr ⟨[.val .feed,.val (.int most),.no,.no,.no],some f⟩ = _
 unfold a1Y
 rw [i9 (s1 := ⟨[.val .feed,.val (.int most),.own [pt p0],.no,.no],some f1⟩) (B2 (s1 := ⟨[.val .feed,.val (.int most),.no,.no,.no],some f1⟩) (V7 (p7 rfl e1)) (show 2 < 5 by decide)),i9 e3,
  i9 (s1 := anS most (.val (.lst [pt p])) ps .no f4) (l5 (a0Z (sl' := [.val .feed,.val (.int most),.val (.lst [pt p]),.no,.no]) rfl e4) rfl),i9 c1,i9 c2]
 exact m6 (y9 e6 rfl)
theorem a8C {a b c : Pt} (h : crs (vec a b) (vec b c) ≠ 0) : xpt a b b c = b:= by
 have e1 : nmX a b b c = b.1 * crs (vec a b) (vec b c) := by unfold nmX crs vec; grind
 have e2 : nmY a b b c = b.2 * crs (vec a b) (vec b c) := by unfold nmY crs vec; grind
 unfold xpt
 rw [e1,e2]
 generalize crs (vec a b) (vec b c) = w at h
 exact Prod.ext (by show b.1 * w / w = b.1; grind) (by show b.2 * w / w = b.2; grind)
theorem b1D {a b c p : Pt} (h : alg (spn a b) (spn b c) = some (p,none)) : p = b:= by
 unfold alg at h
 by_cases q1 : lsB (lxm (spn a b).2 (spn b c).2) (lxM (spn a b).1 (spn b c).1) = true
 ·rw [if_pos q1] at h; cases h
 rw [if_neg q1] at h
 by_cases q2 : lxM (spn a b).1 (spn b c).1 = lxm (spn a b).2 (spn b c).2
 ·rw [if_pos q2] at h
  have h := (Prod.mk.inj (Option.some.inj h)).1
  unfold spn at h q2
  by_cases h1 : lsB a b = true <;> by_cases h2 : lsB b c = true
  ·rw [if_pos h1,if_pos h2] at h
   rw [← h]; show lxM a b = b
   unfold lxM; rw [if_pos h1]
  ·rw [if_pos h1,if_neg h2] at h q2
   rw [← h,q2]; show lxm b b = b
   unfold lxm; split <;> rfl
  ·rw [if_neg h1,if_pos h2] at h
   rw [← h]; show lxM b b = b
   unfold lxM; split <;> rfl
  ·rw [if_neg h1,if_neg h2] at h
   rw [← h]; show lxM b c = b
   unfold lxM; rw [if_neg h2]
 ·rw [if_neg q2] at h; cases h
theorem a51 {a b c p : Pt} (h : cmn a b b c = some (p,none)) : p = b:= by
 have z : i5 a b b = 0 := by unfold i5; grind
 unfold cmn at h
 by_cases h0 : i5 a b b = 0 ∧ i5 a b c = 0
 ·rw [if_pos h0] at h; exact b1D h
 ·rw [if_neg h0] at h
  by_cases q : 0 < i5 a b b * i5 a b c ∨ 0 < i5 b c a * i5 b c b
  ·rw [if_pos q] at h; cases h
  ·rw [if_neg q] at h
   have h := (Prod.mk.inj (Option.some.inj h)).1
   rw [← h]
   refine a8C fun w => h0 ⟨z,?_⟩
   have e : i5 a b c = crs (vec a b) (vec b c) := by unfold i5 crs vec; grind
   rw [e,w]
def Q4 (R : Res) (jt : Bool) : Bool := match R with
 | none => false
 | some (_,none) => !jt
 | some (_,some _) => true
def jtB (c : Bool) (m i j : Nat) : Bool := decide (j = i + 1) || (c && (decide (i = 0) && decide (j + 1 = m)))
def jts (c : Bool) (m i j : Nat) (q : Pt × Pt) : List Pt := (if j = i + 1 then [q.2] else []) ++ (if c = true ∧ i = 0 ∧ j + 1 = m then [q.1] else [])
theorem b0J {c : Bool} {m i j : Nat} {q : Pt × Pt} : (jts c m i j q).length ≤ 2:= by
 unfold jts
 rw [List.length_append]
 split <;> split <;> simp
structure PcS (c : Bool) (qs : List (Pt × Pt)) : Prop where
 hi : qs.length ≤ 9
 sz : ∀ q ∈ qs,PtS 80 q.1 ∧ PtS 80 q.2
 ne : ∀ q ∈ qs,q.1 ≠ q.2
 nx : ∀ i q r,qs[i]? = some q → qs[i + 1]? = some r → q.2 = r.1
 cl : c = true → ∀ q r,qs[0]? = some q → qs[qs.length - 1]? = some r → r.2 = q.1
theorem LnK.pc {c : Bool} {ps : List Pt} (h : LnK c ps) : PcS c (nbs c ps):= by
 have hl := h.hi
 have nl := N6 c ps
 have gl : ∀ {i : Nat} {q : Pt × Pt},(nbs c ps)[i]? = some q → i < (nbs c ps).length := fun e => (List.getElem?_eq_some_iff.mp e).1
 have gt : ∀ {i : Nat} {q : Pt × Pt},(nbs c ps)[i]? = some q → ps[i]? = some q.1 ∧ ps[(i + 1) % ps.length]? = some q.2 := fun {i q} e => by
  obtain ⟨a,b,h1,h2,h3⟩ := a0t (gl e)
  rw [e] at h3; cases h3
  exact ⟨h1,h2⟩
 refine ⟨Nat.le_trans (a2x c ps) hl,fun q hq => ?_,fun q hq => ?_,fun i q r hq hr => ?_,fun hc q r hq hr => ?_⟩
 ·obtain ⟨m1,m2⟩ := b0f hq
  exact ⟨h.sz _ m1,h.sz _ m2⟩
 ·obtain ⟨i,hi,e⟩ := List.getElem_of_mem hq
  have e : (nbs c ps)[i]? = some q := by rw [List.getElem?_eq_getElem hi,e]
  obtain ⟨h1,h2⟩ := gt e
  by_cases k : i + 1 < ps.length
  ·rw [Nat.mod_eq_of_lt k] at h2
   exact h.nd i _ _ h1 h2
  ·have ip := (List.getElem?_eq_some_iff.mp h1).1
   have k : i + 1 = ps.length := by omega
   rw [k,Nat.mod_self] at h2
   have hc : c = true:= by
    cases c with
    | true => rfl
    | false => simp at nl; omega
   exact fun z => h.cl hc _ _ h2 (by rw [show ps.length - 1 = i by omega]; exact h1) z.symm
 ·obtain ⟨h1,h2⟩ := gt hq
  obtain ⟨h3,h4⟩ := gt hr
  have := (List.getElem?_eq_some_iff.mp h3).1
  rw [Nat.mod_eq_of_lt this,h3] at h2
  exact (Option.some.inj h2).symm
 ·subst hc
  have lo := h.lo
  have nn : (nbs true ps).length = ps.length:= by
   rw [nl,if_pos rfl,Nat.min_eq_left (by omega)]; omega
  obtain ⟨h1,h2⟩ := gt hq
  obtain ⟨h3,h4⟩ := gt hr
  rw [nn,Nat.sub_add_cancel (by omega),Nat.mod_self,h1] at h4
  exact (Option.some.inj h4).symm
theorem exT.ne {a b : Pt} (h : exT a b) : a ≠ b := fun e => by
 obtain ⟨r,r0,q,_⟩ := h
 subst e
 have z : dsq a a = 0 := by unfold dsq; grind
 rw [z] at q
 have := Rat.mul_pos r0 r0
 rw [← q] at this
 exact absurd this Rat.lt_irrefl
theorem b0R {c : Bool} {ps : List Pt} (h : ExS c ps) (t : Tg c ps) : LnK c ps:= by
 have h2 := h.lo
 refine ⟨h2,h.hi,t.2,fun i a b ha hb => ?_,fun hc a z ha hz => ?_⟩
 ·have hl := N6 c ps
  have ib := (List.getElem?_eq_some_iff.mp hb).1
  obtain ⟨x,y,e1,e2,e3⟩ := a0t (c := c) (l := ps) (j := i) (by rw [hl]; omega)
  rw [Nat.mod_eq_of_lt ib,hb] at e2
  rw [ha] at e1; cases e1; cases e2
  exact (t.1 _ (List.mem_of_getElem? e3)).ne
 ·subst hc
  have hl := N6 true ps
  rw [if_pos rfl,Nat.min_eq_left (by omega)] at hl
  obtain ⟨x,y,e1,e2,e3⟩ := a0t (c := true) (l := ps) (j := ps.length - 1) (by omega)
  rw [Nat.sub_add_cancel (by omega),Nat.mod_self,ha] at e2
  rw [hz] at e1; cases e1; cases e2
  exact fun z => (t.1 _ (List.mem_of_getElem? e3)).ne z.symm
def Z2 (R : Pt × Option Pt) (J : List Pt) : Bool := match R with
 | (p,none) => !J.any fun b => decide (p = b)
 | (_,some _) => true
theorem b1e {c : Bool} {qs : List (Pt × Pt)} (S : PcS c qs) {i j : Nat} {q r : Pt × Pt} (hq : qs[i]? = some q) (hr : qs[j]? = some r) {R : Pt × Option Pt} (hR : some R = cmn q.1 q.2 r.1 r.2) :
  Q4 (some R) (jtB c qs.length i j) = Z2 R (jts c qs.length i j q):= by
  obtain ⟨p,o⟩ := R
  cases o with
  | some _ => rfl
  | none=>
   show (!jtB c qs.length i j) = !((jts c qs.length i j q).any fun b => decide (p = b))
   congr 1
   have k1 : j = i + 1 → p = q.2 := fun e => by
    rw [e] at hr
    have e2 := S.nx i q r hq hr
    rw [← e2] at hR
    exact a51 hR.symm
   have k2 : c = true ∧ i = 0 ∧ j + 1 = qs.length → p = q.1 := fun hQ__ => by
    obtain ⟨hc,hi,hj⟩ := hQ__
    subst hi
    have e2 := S.cl hc q r hq (by rw [← hj,Nat.add_sub_cancel]; exact hr)
    have n1 := S.ne q (List.mem_of_getElem? hq)
    have n2 := S.ne r (List.mem_of_getElem? hr)
    have sw := b3e (a := r.1) (b := r.2) (c := q.1) (d := q.2) n2 n1
    rw [← hR] at sw
    rw [e2] at sw
    exact a51 sw.symm
   unfold jtB jts
   rw [List.any_append]
   by_cases a1 : j = i + 1
   ·rw [decide_eq_true a1,if_pos a1,Bool.true_or]
    simp only [List.any_cons,decide_eq_true (k1 a1),Bool.true_or]
   ·rw [decide_eq_false a1,if_neg a1,Bool.false_or,List.any_nil,Bool.false_or]
    by_cases a2 : c = true ∧ i = 0 ∧ j + 1 = qs.length
    ·rw [if_pos a2]
     simp only [List.any_cons,List.any_nil,Bool.or_false,decide_eq_true (k2 a2),a2.1,decide_eq_true a2.2.1,decide_eq_true a2.2.2,Bool.and_self]
    ·rw [if_neg a2,List.any_nil]
     cases hc : c with
     | false => rfl
     | true=>
      rw [Bool.true_and]
      rw [Bool.and_eq_false_iff,decide_eq_false_iff_not,decide_eq_false_iff_not]
      by_cases hi : i = 0
      ·exact .inr fun hj => a2 ⟨hc,hi,hj⟩
      ·exact .inl hi
def a36 (i j : Nat) (R : Res) : D := .tup [.int (i : Int),.int (j : Int),n0 R]
def L3 (c : Bool) (qs : List (Pt × Pt)) (i j : Nat) (L : List D) : List D := match qs[i]?,qs[j]? with
 | some q,some r => if Q4 (cmn q.1 q.2 r.1 r.2) (jtB c qs.length i j) = true then L ++ [a36 i j (cmn q.1 q.2 r.1 r.2)] else L
 | _,_ => L
theorem a27 {c : Bool} {qs : List (Pt × Pt)} {i j : Nat} {L : List D} {q r : Pt × Pt} (hq : qs[i]? = some q) (hr : qs[j]? = some r) : L3 c qs i j L = if Q4 (cmn q.1 q.2 r.1 r.2) (jtB c qs.length i j) = true then L ++ [a36 i j (cmn q.1 q.2 r.1 r.2)] else L:= by
 unfold L3
 rw [hq,hr]
def inL (c : Bool) (qs : List (Pt × Pt)) (i : Nat) : Nat → List D → List D
 | 0,L => L
 | k + 1,L => L3 c qs i (i + 1 + k) (inL c qs i k L)
def F7 (c : Bool) (qs : List (Pt × Pt)) : Nat → List D
 | 0 => []
 | i + 1 => inL c qs i (qs.length - (i + 1)) (F7 c qs i)
def Q8 (d : D) : Prop := Ok 3 50 d ∧ D.flat d = true
theorem b3M (R : Res) : D.flat (n0 R) = true:= by
 cases R with
 | none => rfl
 | some R=>
  obtain ⟨p,o⟩ := R
  cases o <;> rfl
theorem b2H {i j : Nat} {q r : Pt × Pt} (hi : i < 9) (hj : j < 9) (h1 : PtS 80 q.1 ∧ PtS 80 q.2) (h2 : PtS 80 r.1 ∧ PtS 80 r.2) : Q8 (a36 i j (cmn q.1 q.2 r.1 r.2)):= by
 refine ⟨(Ok.tup (OkL.cons (Ok.int ?_) (OkL.cons (Ok.int ?_) (OkL.cons (a5u h1.1 h1.2 h2.1 h2.2) OkL.nil)))).mono (by decide) (by decide),?_⟩
 ·show (i : Int).natAbs < 2 ^ 1920
  exact Nat.lt_of_lt_of_le (show (i : Int).natAbs < 2 ^ 4 by rw [Int.natAbs_natCast]; omega) (Nat.pow_le_pow_right (by decide) (by decide))
 ·show (j : Int).natAbs < 2 ^ 1920
  exact Nat.lt_of_lt_of_le (show (j : Int).natAbs < 2 ^ 4 by rw [Int.natAbs_natCast]; omega) (Nat.pow_le_pow_right (by decide) (by decide))
 ·show (true && (true && (D.flat (n0 _) && true))) = true
  rw [b3M]; rfl
section
variable {c : Bool} {qs : List (Pt × Pt)}
theorem b1B (S : PcS c qs) {i j : Nat} {L : List D} (h : ∀ d ∈ L,Q8 d) : (∀ d ∈ L3 c qs i j L,Q8 d) ∧ (L3 c qs i j L).length ≤ L.length + 1:= by
 cases hq : qs[i]? with
 | none => unfold L3; rw [hq]; exact ⟨h,Nat.le_succ _⟩
 | some q=>
  cases hr : qs[j]? with
  | none => unfold L3; rw [hq,hr]; exact ⟨h,Nat.le_succ _⟩
  | some r=>
   rw [a27 hq hr]
   have il := (List.getElem?_eq_some_iff.mp hq).1
   have jl := (List.getElem?_eq_some_iff.mp hr).1
   have hl := S.hi
   split
   ·refine ⟨fun d hd => ?_,by rw [List.length_append,List.length_singleton]; exact Nat.le_refl _⟩
    rcases List.mem_append.mp hd with hd | hd
    ·exact h d hd
    ·rw [List.mem_singleton.mp hd]
     exact b2H (by omega) (by omega) (S.sz q (List.mem_of_getElem? hq)) (S.sz r (List.mem_of_getElem? hr))
   ·exact ⟨h,Nat.le_succ _⟩
theorem a31 (S : PcS c qs) {i : Nat} {L : List D} (h : ∀ d ∈ L,Q8 d) : ∀ k,(∀ d ∈ inL c qs i k L,Q8 d) ∧ (inL c qs i k L).length ≤ L.length + k := fun k => by
 induction k with
 | zero => exact ⟨h,Nat.le_refl _⟩
 | succ k ih=>
  obtain ⟨a,b⟩ := b1B S (i := i) (j := i + 1 + k) ih.1
  exact ⟨a,by show (L3 c qs i (i + 1 + k) (inL c qs i k L)).length ≤ _; omega⟩
theorem a2G (S : PcS c qs) : ∀ i,(∀ d ∈ F7 c qs i,Q8 d) ∧ (F7 c qs i).length ≤ 9 * i := fun i => by
 induction i with
 | zero => exact ⟨fun d hd => (by cases hd),Nat.le_refl _⟩
 | succ i ih=>
  obtain ⟨a,b⟩ := a31 S (i := i) ih.1 (qs.length - (i + 1))
  have := S.hi
  exact ⟨a,by show (inL c qs i (qs.length - (i + 1)) (F7 c qs i)).length ≤ _; omega⟩
end
theorem a6r {A B C : DE} {s : DS} {a b c : Bool} (h1 : A s = some (.bl a,s)) (h2 : B s = some (.bl b,s)) (h3 : C s = some (.bl c,s)) : o6 A (o6 B C) s = some (.bl (a && (b && c)),s):= by
 cases a with
 | false => exact a0d h1
 | true=>
  refine Y8 h1 ?_
  cases b with
  | false => exact a0d h2
  | true => exact Y8 h2 h3
theorem b07 {A B : DE} {s : DS} {a b : Bool} (h1 : A s = some (.bl a,s)) (h2 : B s = some (.bl b,s)) : A3 A B s = some (.bl (a || b),s):= by
 cases a with
 | true => exact a4N h1
 | false => exact a6E h1 h2
abbrev A1 (c : Bool) (ps : List Pt) : D := .tup [.bl c,.tup (ps.map pt)]
theorem a7z (i j : Nat) : decide ((j : Int) = (i : Int) + 1) = decide (j = i + 1):= by
 by_cases h : j = i + 1
 ·rw [decide_eq_true h,decide_eq_true (by omega)]
 ·rw [decide_eq_false h,decide_eq_false (by omega)]
theorem a6X (i : Nat) : decide ((i : Int) = 0) = decide (i = 0):= by
 by_cases h : i = 0
 ·rw [decide_eq_true h,decide_eq_true (by omega)]
 ·rw [decide_eq_false h,decide_eq_false (by omega)]
theorem a7v (j m : Nat) : decide ((j : Int) = (m : Int) - 1) = decide (j + 1 = m):= by
 by_cases h : j + 1 = m
 ·rw [decide_eq_true h,decide_eq_true (by omega)]
 ·rw [decide_eq_false h,decide_eq_false (by omega)]
def a2l (R : Pt × Option Pt) : Bool := match R with
 | (_,none) => true
 | (_,some _) => false
theorem b30 (R : Pt × Option Pt) (s : DS) (h : s.sl[3]? = some (.val (n0 (some R)))) : dOp pEq (dOp pIx (dL 3) (dC (.int 0))) (dC (.str "at")) s = some (.bl (a2l R),s):= by
 have e : dL 3 s = some (n0 (some R),s) := by unfold dL; rw [h]
 obtain ⟨p,o⟩ := R
 cases o with
 | none => exact a8 (a8 e rfl rfl) rfl rfl
 | some q=>
  refine a8 (x := .str "along") (a8 e rfl rfl) rfl ?_
  show some (D.bl (decide (("along" : Str) = "at"))) = _
  rw [decide_eq_false (by decide +kernel)]
  rfl
theorem a7Y {c : Bool} {ps : List Pt} {m i j : Nat} (hm : c = true → m = ps.length) (R : Pt × Option Pt) (fs : Option FS) : M6 [A1 c ps,.int (i : Int),.int (j : Int),n0 (some R)] fs = some (.bl (jtB c m i j && a2l R),fs):= by
 have e1 : dOp pEq (dL 2) (dOp t6 (dL 1) (dC (.int 1))) ⟨[.val (A1 c ps),.val (.int (i : Int)),.val (.int (j : Int)),.val (n0 (some R)),.no],fs⟩ = some (.bl (decide (j = i + 1)),⟨[.val (A1 c ps),.val (.int (i : Int)),.val (.int (j : Int)),.val (n0 (some R)),.no],fs⟩):= by
  rw [← a7z]; exact a8 rfl (a8 rfl rfl rfl) (C3 _ _)
 have e2 : dOp pEq (dL 1) (dC (.int 0)) ⟨[.val (A1 c ps),.val (.int (i : Int)),.val (.int (j : Int)),.val (n0 (some R)),.no],fs⟩ = some (.bl (decide (i = 0)),⟨[.val (A1 c ps),.val (.int (i : Int)),.val (.int (j : Int)),.val (n0 (some R)),.no],fs⟩):= by
  rw [← a6X]; exact a8 rfl rfl (C3 _ _)
 have e3 : dOp pEq (dL 2) (dOp t9 (dCB (one k9) (a0 (dOp pIx (dL 0) (dC (.int 1))) a6)) (dC (.int 1))) ⟨[.val (A1 c ps),.val (.int (i : Int)),.val (.int (j : Int)),.val (n0 (some R)),.no],fs⟩ = some (.bl (decide (j + 1 = (ps.map pt).length)),⟨[.val (A1 c ps),.val (.int (i : Int)),.val (.int (j : Int)),.val (n0 (some R)),.no],fs⟩):= by
  rw [← a7v]; exact a8 rfl (a8 (B1 (p := k9) (a8 rfl rfl rfl) rfl) rfl rfl) (C3 _ _)
 have e4 := b07 e1 (a6r (A := dOp pIx (dL 0) (dC (.int 0))) (a := c) rfl e2 e3)
 have ej : (decide (j = i + 1) || (c && (decide (i = 0) && decide (j + 1 = (ps.map pt).length)))) = jtB c m i j:= by
  unfold jtB
  rw [List.length_map]
  cases c with
  | false => rfl
  | true => rw [hm rfl]
 rw [ej] at e4
 refine n8 (s := ⟨[.val (A1 c ps),.val (.int (i : Int)),.val (.int (j : Int)),.val (n0 (some R)),.val (.bl (jtB c m i j))],fs⟩) ?_
 show a3z ⟨[.val (A1 c ps),.val (.int (i : Int)),.val (.int (j : Int)),.val (n0 (some R)),.no],fs⟩ = _
 unfold a3z
 rw [i9 (s1 := ⟨[.val (A1 c ps),.val (.int (i : Int)),.val (.int (j : Int)),.val (n0 (some R)),.val (.bl (jtB c m i j))],fs⟩) (l5 e4 rfl)]
 have a := b30 R ⟨[.val (A1 c ps),.val (.int (i : Int)),.val (.int (j : Int)),.val (n0 (some R)),.val (.bl (jtB c m i j))],fs⟩ rfl
 refine m6 ?_
 cases hj : jtB c m i j with
 | false => rw [hj] at a; exact a0d rfl
 | true => rw [hj] at a; rw [Bool.true_and]; exact Y8 rfl a
abbrev FCx : DFn := a3X M6 FCm FPc
abbrev lCx : DM := a06 M6 FCm FPc
abbrev oCx : DM := a0s M6 FCm FPc
abbrev crS (c : Bool) (ps : List Pt) (qs : List (Pt × Pt)) (L : List D) (x3 x4 x5 x6 : Sl) (fs : Option FS) : DS := ⟨[.val (A1 c ps),.val (.tup (qs.map pcD)),.own L,x3,x4,x5,x6],fs⟩
theorem a7m (R : Pt × Option Pt) : a0f (n0 (some R)) .non = some (.bl true):= by
 obtain ⟨p,o⟩ := R
 cases o <;> rfl
theorem b4f (R : Pt × Option Pt) (b : Bool) : Q4 (some R) b = !(b && a2l R):= by
 obtain ⟨p,o⟩ := R
 cases o with
 | none => show (!b) = !(b && true); rw [Bool.and_true]
 | some q => show true = !(b && false); rw [Bool.and_false]; rfl
theorem b2a {c : Bool} {ps : List Pt} {qs : List (Pt × Pt)} (S : PcS c qs) (hm : c = true → qs.length = ps.length) {i j : Nat} {q r : Pt × Pt} {L : List D} (x6 : Sl) (fs : Option FS) (hL : L.length ≤ 99) (hq : qs[i]? = some q) (hr : qs[j]? = some r) :
  ∃ y6,lCx (crS c ps qs L (.val (.int (i : Int))) (.val (pcD q)) (.val (.int (j : Int))) x6 fs) = some (.next,crS c ps qs (L3 c qs i j L) (.val (.int (i : Int))) (.val (pcD q)) (.val (.int (j : Int))) y6 fs):= by
 have s1 := S.sz q (List.mem_of_getElem? hq)
 have s2 := S.sz r (List.mem_of_getElem? hr)
 have cm := b1k fs (Ps.of s1.1.1 s1.1.2) (Ps.of s1.2.1 s1.2.2) (Ps.of s2.1.1 s2.1.2) (Ps.of s2.2.1 s2.2.2) (by decide)
 have ix : pIx (.tup (qs.map pcD)) (.int (j : Int)) = some (pcD r) := (ixT _ _).trans (atN (by rw [List.getElem?_map,hr]; rfl))
 rw [a27 hq hr]
 refine ⟨.val (n0 (cmn q.1 q.2 r.1 r.2)),?_⟩
 show a06 M6 FCm FPc _ = _
 unfold a06
 rw [i9 (s1 := crS c ps qs L (.val (.int (i : Int))) (.val (pcD q)) (.val (.int (j : Int))) (.val (n0 (cmn q.1 q.2 r.1 r.2))) fs) (l5 (j8 (e8 rfl (e8 (a8 rfl rfl ix) rfl)) cm) rfl)]
 generalize cmn q.1 q.2 r.1 r.2 = R
 cases R with
 | none=>
  rw [L9 (Z6 (t7 (a8 rfl rfl rfl)))]
  rfl
 | some R=>
  have mj := a7Y (i := i) (j := j) hm R fs
  have t := Q7 (t7 (a8 (a := dL 6) (b := dC .non) (s := crS c ps qs L (.val (.int (i : Int))) (.val (pcD q)) (.val (.int (j : Int))) (.val (n0 (some R))) fs) rfl rfl (a7m R))) (a0U (D3 (j8 (a := a0 (dV 0) (a0 (dV 3) (a0 (dV 5) (a0 (dV 6) a6)))) rfl mj)))
  rw [← b4f] at t
  cases hk : Q4 (some R) (jtB c qs.length i j) with
  | false=>
   rw [hk] at t
   rw [L9 t]
   rfl
  | true=>
   rw [hk] at t
   rw [C6 t]
   exact U1 (s1 := crS c ps qs L (.val (.int (i : Int))) (.val (pcD q)) (.val (.int (j : Int))) (.val (n0 (some R))) fs) rfl (S8 rfl rfl rfl) rfl (Nat.lt_of_le_of_lt hL (by decide))
theorem a6I {i m : Nat} (hi : i < 9) (hm : m ≤ 9) : L4 [.int ((i : Int) + 1),.int (m : Int)] = some (ups ((i : Int) + 1) (m - (i + 1))):= by
 have e : ((m : Int) - ((i : Int) + 1)).toNat = m - (i + 1) := by omega
 rw [← e]
 generalize ha : (i : Int) + 1 = a
 generalize hb : (m : Int) = b
 exact if_pos ⟨by omega,by omega,by omega,by omega⟩
theorem b2t {c : Bool} {ps : List Pt} {qs : List (Pt × Pt)} (S : PcS c qs) (hm : c = true → qs.length = ps.length) {i : Nat} {q : Pt × Pt} {L : List D} (x5 x6 : Sl) (fs : Option FS) (hL : ∀ d ∈ L,Q8 d) (hl : L.length ≤ 9 * i) (hq : qs[i]? = some q) :
  ∃ y5 y6,oCx (crS c ps qs L (.val (.int (i : Int))) (.val (pcD q)) x5 x6 fs) = some (.next,crS c ps qs (inL c qs i (qs.length - (i + 1)) L) (.val (.int (i : Int))) (.val (pcD q)) y5 y6 fs):= by
 have il := (List.getElem?_eq_some_iff.mp hq).1
 have h9 := S.hi
 obtain ⟨s',lp,y5,y6,rfl⟩ := N7 (t := i4 5) (b := lCx) (fun k s => ∃ y5 y6,s = crS c ps qs (inL c qs i k L) (.val (.int (i : Int))) (.val (pcD q)) y5 y6 fs) (ups ((i : Int) + 1) (qs.length - (i + 1))) 0 (crS c ps qs L (.val (.int (i : Int))) (.val (pcD q)) x5 x6 fs)
  ⟨x5,x6,rfl⟩ (by
   rintro k d s hd ⟨y5,y6,rfl⟩
   obtain ⟨rfl,hk⟩ := Q3 hd
   rw [Nat.zero_add] at *
   have ej : (i : Int) + 1 + (k : Int) = ((i + 1 + k : Nat) : Int) := by omega
   obtain ⟨z,e⟩ := b2a S hm (i := i) (j := i + 1 + k) (L := inL c qs i k L) y6 fs (by have := (a31 S (i := i) hL k).2; omega) hq (List.getElem?_eq_getElem (show i + 1 + k < qs.length by omega))
   refine ⟨crS c ps qs (inL c qs i k L) (.val (.int (i : Int))) (.val (pcD q)) (.val (.int ((i + 1 + k : Nat) : Int))) y6 fs,_,?_,.inl e,_,z,rfl⟩
   rw [ej]; rfl)
 rw [Nat.zero_add,J3] at lp
 refine ⟨y5,y6,?_⟩
 show a0s M6 FCm FPc _ = _
 unfold a0s
 exact (T1 (xs := [.int ((i : Int) + 1),.int ((qs.map pcD).length : Int)]) (s1 := crS c ps qs L (.val (.int (i : Int))) (.val (pcD q)) x5 x6 fs) (e8 (a8 rfl rfl rfl) (e8 (B1 (p := k9) rfl rfl) rfl)) (by rw [List.length_map]; exact a6I (by omega) h9)).trans lp
theorem a5Y (c : Bool) (ps : List Pt) : (nbs c (ps.map pt)).map pr2 = (nbs c ps).map pcD:= by
 rw [a4w,List.map_map]
 rfl
theorem b1x {c : Bool} {ps : List Pt} (h : LnK c ps) (fs : Option FS) : FCx [A1 c ps] fs = some (.lst (F7 c (nbs c ps) (nbs c ps).length),fs):= by
 have S := h.pc
 have hl := h.hi
 have h9 := S.hi
 have nl := N6 c ps
 have hm : c = true → (nbs c ps).length = ps.length := fun hc => by
  subst hc
  have := h.lo
  rw [nl,if_pos rfl,Nat.min_eq_left (by omega)]; omega
 have pp := b1P (ps.map pt) c fs (b0M (c := c) hl).2
 rw [a5Y] at pp
 generalize nbs c ps = qs at *
 obtain ⟨s',lp,y3,y4,y5,y6,rfl⟩ := N7 (t := u3 2 (m5 (i4 3) (m5 (i4 4) u5))) (b := oCx) (fun i s => ∃ y3 y4 y5 y6,s = crS c ps qs (F7 c qs i) y3 y4 y5 y6 fs) (G9 (qs.map pcD)) 0 (crS c ps qs [] .no .no .no .no fs)
  ⟨.no,.no,.no,.no,rfl⟩ (by
   rintro i d s hd ⟨y3,y4,y5,y6,rfl⟩
   have il : i < qs.length:= by
    have := (List.getElem?_eq_some_iff.mp hd).1
    unfold G9 at this
    rw [List.length_map,List.length_zipIdx,List.length_map] at this
    exact this
   obtain ⟨q,hq⟩ : ∃ q,qs[i]? = some q := ⟨_,List.getElem?_eq_getElem il⟩
   rw [a4u (d := pcD q) (by rw [List.getElem?_map,hq]; rfl)] at hd
   cases hd
   rw [Nat.zero_add] at *
   obtain ⟨o1,o2⟩ := a2G S i
   obtain ⟨z5,z6,e⟩ := b2t S hm y5 y6 fs o1 o2 hq
   exact ⟨crS c ps qs (F7 c qs i) (.val (.int (i : Int))) (.val (pcD q)) y5 y6 fs,_,rfl,.inl e,_,_,z5,z6,rfl⟩)
 have el : (G9 (qs.map pcD)).length = qs.length := by unfold G9; rw [List.length_map,List.length_zipIdx,List.length_map]
 rw [Nat.zero_add,el] at lp
 refine n8 (s := ⟨[.val (A1 c ps),.val (.tup (qs.map pcD)),.val (.lst (F7 c qs qs.length)),y3,y4,y5,y6],fs⟩) ?_
 show a16 M6 FCm FPc ⟨[.val (A1 c ps),.no,.no,.no,.no,.no,.no],fs⟩ = _
 unfold a16
 rw [i9 (s1 := ⟨[.val (A1 c ps),.val (.tup (qs.map pcD)),.no,.no,.no,.no,.no],fs⟩) (l5 (j8 rfl pp) rfl),
  i9 (s1 := crS c ps qs [] .no .no .no .no fs) (B2 (s1 := ⟨[.val (A1 c ps),.val (.tup (qs.map pcD)),.no,.no,.no,.no,.no],fs⟩) rfl (show 2 < 7 by decide)),
  i9 ((b2N (s1 := crS c ps qs [] .no .no .no .no fs) rfl).trans lp)]
 exact m6 rfl
theorem a8i (p b : Pt) : PyData.eqv (D.py (.tup [.str "at",pt b])) (D.py (.tup [.str "at",pt p])) = decide (p = b):= by
 unfold pt
 simp only [D.py,D.pys,PyData.eqv,PyData.eqvAll,Bool.beq_eq_decide_eq,Bool.and_true,decide_true,Bool.true_and,beq_self_eq_true]
 rw [Bool.eq_iff_iff]
 simp only [Bool.and_eq_true,decide_eq_true_iff]
 constructor
 ·rintro ⟨h1,h2,h3⟩; exact (a4a h1 h2 h3).symm
 ·rintro rfl; exact ⟨rfl,rfl,rfl⟩
theorem b0w (p q b : Pt) : PyData.eqv (D.py (.tup [.str "at",pt b])) (D.py (.tup [.str "along",pt p,pt q])) = false:= by
 unfold pt
 simp [D.py,D.pys,PyData.eqv,PyData.eqvAll]
theorem b2l (p : Pt) : ∀ J : List Pt,inD (.tup [.str "at",pt p]) (J.map fun b => .tup [.str "at",pt b]) = J.any fun b => decide (p = b) := fun J => by
 induction J with
 | nil => rfl
 | cons b r ih=>
  show (PyData.eqv (D.py (.tup [.str "at",pt b])) (D.py (.tup [.str "at",pt p])) || inD (.tup [.str "at",pt p]) (r.map fun b => .tup [.str "at",pt b])) = _
  rw [ih,a8i,List.any_cons]
theorem a8o (p q : Pt) : ∀ J : List Pt,inD (.tup [.str "along",pt p,pt q]) (J.map fun b => .tup [.str "at",pt b]) = false := fun J => by
 induction J with
 | nil => rfl
 | cons b r ih=>
  show (PyData.eqv (D.py (.tup [.str "at",pt b])) (D.py (.tup [.str "along",pt p,pt q])) || inD (.tup [.str "along",pt p,pt q]) (r.map fun b => .tup [.str "at",pt b])) = _
  rw [ih,b0w,Bool.or_false]
theorem a89 {R : Pt × Option Pt} {J : List Pt} (ok : Ok 2 40 (n0 (some R))) (hJ : ∀ b ∈ J,Ps 160 b) : a1d (n0 (some R)) (.lst (J.map fun b => .tup [.str "at",pt b])) = some (.bl (Z2 R J)):= by
 have o1 := ok.eq (by decide)
 have o2 : u7 (.lst (J.map fun b => D.tup [.str "at",pt b])) = true := (Ok.lst (OkL.all (k := 2) (n := 40) (ds := J.map fun b => D.tup [.str "at",pt b]) fun d hd => by
  obtain ⟨b,hb,rfl⟩ := List.mem_map.mp hd
  exact (Ok.tup (OkL.cons (a4c (x := "at") (n := 2) (by decide +kernel) (by decide +kernel)) (OkL.cons (Ok.pt (hJ b hb)) OkL.nil))).mono (by decide) (by decide))).eq (by decide)
 show (if (u7 (n0 (some R)) && u7 (.lst (J.map fun b => D.tup [.str "at",pt b]))) = true then some (D.bl (!(inD (n0 (some R)) (J.map fun b => D.tup [.str "at",pt b])))) else none) = _
 rw [o1,o2,Bool.and_self,if_pos rfl]
 obtain ⟨p,o⟩ := R
 cases o with
 | none=>
  show some (D.bl (!inD (.tup [.str "at",pt p]) (J.map fun b => D.tup [.str "at",pt b]))) = _
  rw [b2l]; rfl
 | some q=>
  show some (D.bl (!inD (.tup [.str "along",pt p,pt q]) (J.map fun b => D.tup [.str "at",pt b]))) = _
  rw [a8o]; rfl
theorem a7p (x : D) (b : Bool) : O6 (.lst [x]) (.int (if b then 1 else 0)) = some (if b then [x] else []) := by cases b <;> rfl
theorem a8s {c : Bool} {m i j : Nat} {q : Pt × Pt} : (if decide (j = i + 1) then [pt q.2] else []) ++ (if (c && (decide (i = 0) && decide (j + 1 = m))) then [pt q.1] else []) = (jts c m i j q).map pt:= by
 unfold jts
 rw [List.map_append]
 congr 1
 ·by_cases h : j = i + 1
  ·rw [decide_eq_true h,if_pos rfl,if_pos h]; rfl
  ·rw [decide_eq_false h,if_neg Bool.false_ne_true,if_neg h]; rfl
 ·by_cases h : c = true ∧ i = 0 ∧ j + 1 = m
  ·rw [if_pos h,h.1,decide_eq_true h.2.1,decide_eq_true h.2.2,Bool.and_self,Bool.and_self,if_pos rfl]; rfl
  ·have e : (c && (decide (i = 0) && decide (j + 1 = m))) = false:= by
    rw [Bool.eq_false_iff]
    intro z
    rw [Bool.and_eq_true,Bool.and_eq_true,decide_eq_true_iff,decide_eq_true_iff] at z
    exact h z
   rw [e,if_neg h,if_neg Bool.false_ne_true]; rfl
abbrev WDu : DFn := a1H WCm K8
abbrev lDu : DM := Y0 WCm K8
abbrev oDu : DM := a0G WCm K8
abbrev duS (c : Bool) (ps : List Pt) (qs : List (Pt × Pt)) (L : List D) (x3 x4 x5 x6 : Sl) (fs : Option FS) : DS := ⟨[.val (A1 c ps),.val (.lst (qs.map pcD)),.own L,x3,x4,x5,x6],fs⟩
theorem b03 {c : Bool} {ps : List Pt} {qs : List (Pt × Pt)} {L : List D} {x3 x4 : Sl} {fs : Option FS} {R : Pt × Option Pt} {J : List Pt} (ok : Ok 2 40 (n0 (some R))) (hJ : ∀ b ∈ J,Ps 160 b) (h2 : J.length ≤ 2) :
  v8 (dB (dOp a0f (dL 5) (dC .non))) (dB (dOp a1d (dL 5) (m8 (D7 [] (E8 (dV 6)) B4 (i3 (a0 (dC (.str "at")) (a0 (dV 0) a6))))))) (duS c ps qs L x3 x4 (.val (n0 (some R))) (.own (J.map pt)) fs) = some (Z2 R J,duS c ps qs L x3 x4 (.val (n0 (some R))) (.val (.lst (J.map pt))) fs):= by
 have cm := a3n (idx := []) (fe := i3 (a0 (dC (.str "at")) (a0 (dV 0) a6))) (g := fun d => .tup [.str "at",d]) [] fs (J.map pt) fun d _ => ⟨⟨[.val d],fs⟩,y9 rfl rfl,rfl⟩
 rw [List.map_map] at cm
 have cp := M4 (idx := []) (fi := E8 (dV 6)) (fc := B4) (fe := i3 (a0 (dC (.str "at")) (a0 (dV 0) a6))) (s := duS c ps qs L x3 x4 (.val (n0 (some R))) (.own (J.map pt)) fs) (s1 := duS c ps qs L x3 x4 (.val (n0 (some R))) (.val (.lst (J.map pt))) fs) (ds := J.map pt) (R := J.map ((fun d => .tup [.str "at",d]) ∘ pt)) rfl (T6 (by rw [List.length_map]; omega)) cm
 exact Q7 (t7 (a8 rfl rfl (a7m R))) (t7 (a8 rfl (C0 cp) (a89 ok hJ)))
theorem a9p {c : Bool} {ps : List Pt} {qs : List (Pt × Pt)} (S : PcS c qs) {i j : Nat} {q r : Pt × Pt} {L : List D} (x5 x6 : Sl) (fs : Option FS) (hL : L.length ≤ 99) (hij : i < j) (hq : qs[i]? = some q) (hr : qs[j]? = some r) :
  ∃ y5 y6,lDu (duS c ps qs L (.val (.int (i : Int))) (.val (.int (j : Int))) x5 x6 fs) = some (.next,duS c ps qs (L3 c qs i j L) (.val (.int (i : Int))) (.val (.int (j : Int))) y5 y6 fs):= by
 have s1 := S.sz q (List.mem_of_getElem? hq)
 have s2 := S.sz r (List.mem_of_getElem? hr)
 have n1 := S.ne q (List.mem_of_getElem? hq)
 have n2 := S.ne r (List.mem_of_getElem? hr)
 have cm := b0H fs s1.1 s1.2 s2.1 s2.2 n1
 rw [b33 n1 n2] at cm
 have ok := a5u s1.1 s1.2 s2.1 s2.2
 have kj : ∀ R',some R' = cmn q.1 q.2 r.1 r.2 → Q4 (some R') (jtB c qs.length i j) = Z2 R' (jts c qs.length i j q) := fun R' e => b1e S hq hr e
 have ixi : pIx (.lst (qs.map pcD)) (.int (i : Int)) = some (pcD q) := D0 (atN (by rw [List.getElem?_map,hq]; rfl))
 have ixj : pIx (.lst (qs.map pcD)) (.int (j : Int)) = some (pcD r) := D0 (atN (by rw [List.getElem?_map,hr]; rfl))
 have hJ : ∀ b ∈ jts c qs.length i j q,Ps 160 b := fun b hb => by
  unfold jts at hb
  rcases List.mem_append.mp hb with hb | hb
  ·split at hb
   ·rw [List.mem_singleton.mp hb]; exact Ps.of s1.2.1 s1.2.2
   ·cases hb
  ·split at hb
   ·rw [List.mem_singleton.mp hb]; exact Ps.of s1.1.1 s1.1.2
   ·cases hb
 rw [a27 hq hr]
 generalize cmn q.1 q.2 r.1 r.2 = R at *
 have a1 : j4 (c6 WCm (a0 (dOp pIx (dL 1) (dL 3)) (a0 (dOp pIx (dL 1) (dL 4)) a6))) (i4 5) (duS c ps qs L (.val (.int (i : Int))) (.val (.int (j : Int))) x5 x6 fs) = some (.next,duS c ps qs L (.val (.int (i : Int))) (.val (.int (j : Int))) (.val (n0 R)) x6 fs) := l5 (j8 (e8 (a8 rfl rfl ixi) (e8 (a8 rfl rfl ixj) rfl)) cm) rfl
 have a2 : u9 6 (E4 O6 (m8 (m9 (a0 (dOp pIx (dOp pIx (dL 1) (dL 3)) (dC (.int 1))) a6))) (dCB (one N5) (a0 (dOp pEq (dL 4) (dOp t6 (dL 3) (dC (.int 1)))) a6))) (duS c ps qs L (.val (.int (i : Int))) (.val (.int (j : Int))) (.val (n0 R)) x6 fs) = some (.next,duS c ps qs L (.val (.int (i : Int))) (.val (.int (j : Int))) (.val (n0 R)) (.own (if decide (j = i + 1) then [pt q.2] else [])) fs):= by
  have b : dOp pEq (dL 4) (dOp t6 (dL 3) (dC (.int 1))) (duS c ps qs L (.val (.int (i : Int))) (.val (.int (j : Int))) (.val (n0 R)) x6 fs) = some (.bl (decide (j = i + 1)),duS c ps qs L (.val (.int (i : Int))) (.val (.int (j : Int))) (.val (n0 R)) x6 fs):= by
   rw [← a7z]; exact a8 rfl (a8 rfl rfl rfl) (C3 _ _)
  exact B2 (s1 := duS c ps qs L (.val (.int (i : Int))) (.val (.int (j : Int))) (.val (n0 R)) x6 fs) (O9 (C0 (V7 (a8 (a8 rfl rfl ixi) rfl rfl))) (B1 (p := N5) b rfl) (a7p _ _)) (show 6 < 7 by decide)
 have a3 : u9 6 (E4 L0 (dL 6) (m8 (E4 O6 (m8 (m9 (a0 (dOp pIx (dOp pIx (dL 1) (dL 3)) (dC (.int 0))) a6))) (dCB (one N5) (a0 (o6 (dOp pIx (dL 0) (dC (.int 0))) (o6 (dOp pEq (dL 3) (dC (.int 0))) (dOp pEq (dL 4) (dOp t9 (dCB (one k9) (a0 (dL 1) a6)) (dC (.int 1)))))) a6))))) (duS c ps qs L (.val (.int (i : Int))) (.val (.int (j : Int))) (.val (n0 R)) (.own (if decide (j = i + 1) then [pt q.2] else [])) fs) = some (.next,duS c ps qs L (.val (.int (i : Int))) (.val (.int (j : Int))) (.val (n0 R)) (.own ((jts c qs.length i j q).map pt)) fs):= by
  have b : o6 (dOp pIx (dL 0) (dC (.int 0))) (o6 (dOp pEq (dL 3) (dC (.int 0))) (dOp pEq (dL 4) (dOp t9 (dCB (one k9) (a0 (dL 1) a6)) (dC (.int 1))))) (duS c ps qs L (.val (.int (i : Int))) (.val (.int (j : Int))) (.val (n0 R)) (.own (if decide (j = i + 1) then [pt q.2] else [])) fs) = some (.bl (c && (decide (i = 0) && decide (j + 1 = (qs.map pcD).length))),duS c ps qs L (.val (.int (i : Int))) (.val (.int (j : Int))) (.val (n0 R)) (.own (if decide (j = i + 1) then [pt q.2] else [])) fs):= by
   refine a6r rfl ?_ ?_
   ·rw [← a6X]; exact a8 rfl rfl (C3 _ _)
   ·rw [← a7v]; exact a8 rfl (a8 (B1 (p := k9) rfl rfl) rfl rfl) (C3 _ _)
  rw [List.length_map] at b
  rw [← a8s]
  exact B2 (s1 := duS c ps qs L (.val (.int (i : Int))) (.val (.int (j : Int))) (.val (n0 R)) (.own (if decide (j = i + 1) then [pt q.2] else [])) fs) (O9 rfl (C0 (O9 (C0 (V7 (a8 (a8 rfl rfl ixi) rfl rfl))) (B1 (p := N5) b rfl) (a7p _ _))) (X0 (by split <;> split <;> simp))) (show 6 < 7 by decide)
 cases R with
 | none=>
  refine ⟨.val (n0 none),.own ((jts c qs.length i j q).map pt),?_⟩
  show Y0 WCm K8 _ = _
  unfold Y0
  rw [i9 a1,i9 a2,i9 a3,L9 (Z6 (t7 (a8 rfl rfl rfl)))]
  rfl
 | some R=>
  have t := b03 (c := c) (ps := ps) (qs := qs) (L := L) (x3 := .val (.int (i : Int))) (x4 := .val (.int (j : Int))) (fs := fs) ok hJ b0J
  have kk : Q4 (some R) (jtB c qs.length i j) = Z2 R (jts c qs.length i j q):= by
   exact kj R rfl
  rw [← kk] at t
  refine ⟨.val (n0 (some R)),.val (.lst ((jts c qs.length i j q).map pt)),?_⟩
  show Y0 WCm K8 _ = _
  unfold Y0
  rw [i9 a1,i9 a2,i9 a3]
  cases hk : Q4 (some R) (jtB c qs.length i j) with
  | false=>
   rw [hk] at t
   rw [L9 t]
   rfl
  | true=>
   rw [hk] at t
   rw [C6 t]
   exact U1 (s1 := duS c ps qs L (.val (.int (i : Int))) (.val (.int (j : Int))) (.val (n0 (some R))) (.val (.lst ((jts c qs.length i j q).map pt))) fs) rfl (S8 rfl rfl rfl) rfl (Nat.lt_of_le_of_lt hL (by decide))
theorem b1H {c : Bool} {ps : List Pt} {qs : List (Pt × Pt)} (S : PcS c qs) {i : Nat} {L : List D} (x4 x5 x6 : Sl) (fs : Option FS) (hL : ∀ d ∈ L,Q8 d) (hl : L.length ≤ 9 * i) (il : i < qs.length) :
  ∃ y4 y5 y6,oDu (duS c ps qs L (.val (.int (i : Int))) x4 x5 x6 fs) = some (.next,duS c ps qs (inL c qs i (qs.length - (i + 1)) L) (.val (.int (i : Int))) y4 y5 y6 fs):= by
 have hq : qs[i]? = some qs[i] := List.getElem?_eq_getElem il
 have h9 := S.hi
 obtain ⟨s',lp,y4,y5,y6,rfl⟩ := N7 (t := i4 4) (b := lDu) (fun k s => ∃ y4 y5 y6,s = duS c ps qs (inL c qs i k L) (.val (.int (i : Int))) y4 y5 y6 fs) (ups ((i : Int) + 1) (qs.length - (i + 1))) 0 (duS c ps qs L (.val (.int (i : Int))) x4 x5 x6 fs)
  ⟨x4,x5,x6,rfl⟩ (by
   rintro k d s hd ⟨y4,y5,y6,rfl⟩
   obtain ⟨rfl,hk⟩ := Q3 hd
   rw [Nat.zero_add] at *
   have ej : (i : Int) + 1 + (k : Int) = ((i + 1 + k : Nat) : Int) := by omega
   obtain ⟨z5,z6,e⟩ := a9p (c := c) (ps := ps) S (i := i) (j := i + 1 + k) (L := inL c qs i k L) y5 y6 fs (by have := (a31 S (i := i) hL k).2; omega) (by omega) hq (List.getElem?_eq_getElem (show i + 1 + k < qs.length by omega))
   refine ⟨duS c ps qs (inL c qs i k L) (.val (.int (i : Int))) (.val (.int ((i + 1 + k : Nat) : Int))) y5 y6 fs,_,?_,.inl e,_,z5,z6,rfl⟩
   rw [ej]; rfl)
 rw [Nat.zero_add,J3] at lp
 refine ⟨y4,y5,y6,?_⟩
 show a0G WCm K8 _ = _
 unfold a0G
 exact (T1 (xs := [.int ((i : Int) + 1),.int ((qs.map pcD).length : Int)]) (s1 := duS c ps qs L (.val (.int (i : Int))) x4 x5 x6 fs) (e8 (a8 rfl rfl rfl) (e8 (B1 (p := k9) rfl rfl) rfl)) (by rw [List.length_map]; exact a6I (by omega) h9)).trans lp
theorem b0q {c : Bool} {ps : List Pt} (h : LnK c ps) (fs : Option FS) : WDu [A1 c ps] fs = some (.lst (F7 c (nbs c ps) (nbs c ps).length),fs):= by
 have S := h.pc
 have h9 := S.hi
 have pp := b3X (ps.map pt) c fs (by rw [List.length_map]; exact h.lo) (by rw [List.length_map]; exact h.hi)
 rw [a5Y] at pp
 generalize nbs c ps = qs at *
 obtain ⟨s',lp,y3,y4,y5,y6,rfl⟩ := N7 (t := i4 3) (b := oDu) (fun i s => ∃ y3 y4 y5 y6,s = duS c ps qs (F7 c qs i) y3 y4 y5 y6 fs) (ups 0 qs.length) 0 (duS c ps qs [] .no .no .no .no fs)
  ⟨.no,.no,.no,.no,rfl⟩ (by
   rintro i d s hd ⟨y3,y4,y5,y6,rfl⟩
   obtain ⟨rfl,il⟩ := Q3 hd
   rw [Nat.zero_add] at *
   obtain ⟨o1,o2⟩ := a2G S i
   obtain ⟨z4,z5,z6,e⟩ := b1H (c := c) (ps := ps) S y4 y5 y6 fs o1 o2 il
   refine ⟨duS c ps qs (F7 c qs i) (.val (.int (i : Int))) y4 y5 y6 fs,_,?_,.inl e,_,z4,z5,z6,rfl⟩
   rw [Int.zero_add]; rfl)
 rw [Nat.zero_add,J3] at lp
 refine n8 (s := ⟨[.val (A1 c ps),.val (.lst (qs.map pcD)),.val (.lst (F7 c qs qs.length)),y3,y4,y5,y6],fs⟩) ?_
 show a1W WCm K8 ⟨[.val (A1 c ps),.no,.no,.no,.no,.no,.no],fs⟩ = _
 unfold a1W
 rw [i9 (s1 := ⟨[.val (A1 c ps),.val (.lst (qs.map pcD)),.no,.no,.no,.no,.no],fs⟩) (l5 (j8 rfl pp) rfl),
  i9 (s1 := duS c ps qs [] .no .no .no .no fs) (B2 (s1 := ⟨[.val (A1 c ps),.val (.lst (qs.map pcD)),.no,.no,.no,.no,.no],fs⟩) rfl (show 2 < 7 by decide)),
  i9 ((T1 (xs := [.int ((qs.map pcD).length : Int)]) (s1 := duS c ps qs [] .no .no .no .no fs) (e8 (B1 (p := k9) rfl rfl) rfl) (by rw [List.length_map]; exact V2 (by omega))).trans lp)]
 exact m6 rfl
theorem a9a {m : DFn} {t : DA} {s s1 : DS} {as ds : List D} (h : t s = some (as,s1)) (hf : D.flats as = true) (hm : m as none = some (.lst ds,none)) (hd : D.flats ds = true) : W7 m t s = some (ds,s1):= by
 have e : frD (.lst ds,none) = some ds := if_pos hd
 unfold W7
 rw [h,Option.bind_some]
 show (if D.flats as = true then ((m as none).bind frD).map fun ds => (ds,s1) else none) = _
 rw [if_pos hf,hm,Option.bind_some,e]
 rfl
theorem a5h : ∀ ds : List D,(∀ d ∈ ds,D.flat d = true) → D.flats ds = true := fun ds => by
 induction ds with
 | nil => exact fun _ => rfl
 | cons d r ih=>
  intro h
  show (D.flat d && D.flats r) = true
  rw [h d (List.mem_cons_self ..),ih fun x hx => h x (List.mem_cons_of_mem _ hx)]
  rfl
theorem a9d (c : Bool) (ps : List Pt) : D.flats [A1 c ps] = true:= by
 have e : D.flats (ps.map pt) = true := a5h _ fun d hd => by
  obtain ⟨p,_,rfl⟩ := List.mem_map.mp hd
  rfl
 show ((true && (D.flats (ps.map pt) && true)) && true) = true
 rw [e]; rfl
abbrev C55 : DM := a0S FCx WDu WEx WAn P4
abbrev a5S : DM := a1f FCx WDu WEx WAn P4
theorem b2p {Ln : D} {L : List D} (fl : D.flats [Ln] = true) (hx : FCx [Ln] none = some (.lst L,none)) (ok : Ok 4 5000 (.lst L)) (hl : L.length ≤ 99) (hf : D.flats L = true) (x0 x2 x5 x6 : Sl) (f : FS) : a5S ⟨[x0,.val .feed,x2,.val Ln,.val (.lst L),x5,x6],some f⟩ = some (.next,⟨[x0,.val .feed,x2,.val Ln,.val (.lst L),x5,.own (L ++ [.non])],some f⟩):= by
 have rp := ok.repr (by decide) (by decide)
 show a1f FCx WDu WEx WAn P4 _ = _
 unfold a1f
 rw [i9 (s1 := ⟨[x0,.val .feed,x2,.val Ln,.val (.lst L),x5,.own L],some f⟩) (B2 (s1 := ⟨[x0,.val .feed,x2,.val Ln,.val (.lst L),x5,x6],some f⟩) (a9a (as := [Ln]) rfl fl hx hf) (show 6 < 7 by decide)),
  i9 (s1 := ⟨[x0,.val .feed,x2,.val Ln,.val (.lst L),x5,.own L],some f⟩) (K2 (t7 (a8 (B1 (p := P7) rfl rp) (B1 (p := P7) rfl rp) (b2n _))))]
 exact U1 (s1 := ⟨[x0,.val .feed,x2,.val Ln,.val (.lst L),x5,.own L],some f⟩) rfl rfl rfl (Nat.lt_of_le_of_lt hl (by decide))
theorem b1m {n : Nat} {f : FS} (k : Int) (h : Fd3 n f) (hn : n < 2 ^ 24) (x0 x3 x4 x5 x6 : Sl) : ∃ y3 y4 y5 y6 f',C55 ⟨[x0,.val .feed,.val (.int k),x3,x4,x5,x6],some f⟩ = some (.next,⟨[x0,.val .feed,.val (.int k),y3,y4,y5,y6],some f'⟩) ∧ Fd3 (n + 90) f':= by
 have dr : ∃ (c : Bool) (ps : List Pt) (f1 : FS),LnK c ps ∧ Fd3 (n + 90) f1 ∧ dIf (dB (dOp pEq (dOp y7 (dL 2) (dC (.int 2))) (dC (.int 1)))) (c6 WEx (a0 (dV 1) (a0 (dC (.int 5)) a6))) (c6 WAn (a0 (dV 1) (a0 (dC (.int 7)) a6))) ⟨[x0,.val .feed,.val (.int k),x3,x4,x5,x6],some f⟩ = some (A1 c ps,⟨[x0,.val .feed,.val (.int k),x3,x4,x5,x6],some f1⟩):= by
  have mm : y7 (.int k) (.int 2) = some (.int (k.fmod 2)) := a9Y k (by decide)
  by_cases hk : k.fmod 2 = 1
  ·obtain ⟨c,ps,f1,e1,hx,tx,h1⟩ := a8y 5 (by decide) h (by omega)
   exact ⟨c,ps,f1,b0R hx tx,h1.mono (by omega),(M3 (t7 (a8 (a8 rfl rfl mm) rfl ((C3 _ 1).trans (by rw [decide_eq_true hk]))))).trans (p7 rfl e1)⟩
  ·obtain ⟨c,ps,f1,e1,hx,h1⟩ := b2U 7 (by decide) h (by omega)
   exact ⟨c,ps,f1,hx,h1.mono (by omega),(M8 (t7 (a8 (a8 rfl rfl mm) rfl ((C3 _ 1).trans (by rw [decide_eq_false hk]))))).trans (p7 rfl e1)⟩
 obtain ⟨c,ps,f1,hx,h1,e1⟩ := dr
 have e2 := b1x hx none
 have e3 := b0q hx (some f1)
 obtain ⟨o1,o2⟩ := a2G hx.pc (nbs c ps).length
 have h9 := hx.pc.hi
 have fl := a9d c ps
 generalize F7 c (nbs c ps) (nbs c ps).length = L at *
 have ok : Ok 4 5000 (.lst L) := (Ok.lst (OkL.all (k := 3) (n := 50) fun d hd => (o1 d hd).1)).mono (by decide) (by omega)
 have hf := a5h L fun d hd => (o1 d hd).2
 generalize A1 c ps = Ln at *
 obtain ⟨s',lp,y5,y6,rfl⟩ := N7 (t := i4 5) (b := a5S) (fun i s => ∃ y5 y6,s = ⟨[x0,.val .feed,.val (.int k),.val Ln,.val (.lst L),y5,y6],some f1⟩) (ups 0 2) 0 ⟨[x0,.val .feed,.val (.int k),.val Ln,.val (.lst L),x5,x6],some f1⟩
  ⟨x5,x6,rfl⟩ (by
   rintro i d s hd ⟨y5,y6,rfl⟩
   obtain ⟨rfl,hi⟩ := Q3 hd
   exact ⟨⟨[x0,.val .feed,.val (.int k),.val Ln,.val (.lst L),.val (.int ((0 : Int) + i)),y6],some f1⟩,_,rfl,.inl (b2p fl e2 ok (by omega) hf x0 _ _ y6 f1),_,_,rfl⟩)
 refine ⟨.val Ln,.val (.lst L),y5,y6,f1,?_,h1⟩
 show a0S FCx WDu WEx WAn P4 _ = _
 unfold a0S
 rw [i9 (s1 := ⟨[x0,.val .feed,.val (.int k),.val Ln,x4,x5,x6],some f1⟩) (l5 e1 rfl),i9 (s1 := ⟨[x0,.val .feed,.val (.int k),.val Ln,.val (.lst L),x5,x6],some f1⟩) (l5 (j8 rfl e3) rfl)]
 exact (T1 (xs := [.int 2]) (s1 := ⟨[x0,.val .feed,.val (.int k),.val Ln,.val (.lst L),x5,x6],some f1⟩) rfl (V2 (n := 2) (by decide))).trans lp
abbrev b4o : DFn := a2Y FCx WDu WEx WAn P4
theorem math (ns : List Int) (hl : ns.length ≤ 63) : ∃ fs',b4o [.scr ns] none = some (.bl true,fs'):= by
 have e0 := b0X ns
 obtain ⟨s',lp,x2,x3,x4,x5,x6,f',rfl,I⟩ := N7 (t := i4 2) (b := C55) (fun i s => ∃ x2 x3 x4 x5 x6 f',s = ⟨[.val (.scr ns),.val .feed,x2,x3,x4,x5,x6],some f'⟩ ∧ Fd3 (90 * i) f') (ups 0 4) 0 ⟨[.val (.scr ns),.val .feed,.no,.no,.no,.no,.no],some ⟨ns,0,0,0,1⟩⟩
  ⟨.no,.no,.no,.no,.no,_,rfl,Fd3.zero ns⟩ (by
   rintro i d s hd ⟨x2,x3,x4,x5,x6,f',rfl,I⟩
   obtain ⟨rfl,hi⟩ := Q3 hd
   rw [Nat.zero_add] at *
   obtain ⟨y3,y4,y5,y6,f'',e,I'⟩ := b1m ((0 : Int) + i) I (by omega) (.val (.scr ns)) x3 x4 x5 x6
   exact ⟨⟨[.val (.scr ns),.val .feed,.val (.int ((0 : Int) + i)),x3,x4,x5,x6],some f'⟩,_,rfl,.inl e,_,y3,y4,y5,y6,f'',rfl,I'.mono (by omega)⟩)
 refine ⟨some f',n8 (s := ⟨[.val (.scr ns),.val .feed,x2,x3,x4,x5,x6],some f'⟩) ?_⟩
 show a21 FCx WDu WEx WAn P4 ⟨[.val (.scr ns),.no,.no,.no,.no,.no,.no],none⟩ = _
 unfold a21
 rw [i9 (s1 := ⟨[.val (.scr ns),.val .feed,.no,.no,.no,.no,.no],some ⟨ns,0,0,0,1⟩⟩) (l5 (p7 rfl e0) rfl),
  i9 ((T1 (xs := [.int 4]) (s1 := ⟨[.val (.scr ns),.val .feed,.no,.no,.no,.no,.no],some ⟨ns,0,0,0,1⟩⟩) rfl (V2 (n := 4) (by decide))).trans lp)]
 exact m6 rfl
end T
namespace T
open PySem PySem.Spec L2 DL
def top (i : Nat) : Stmt := PySem.Challenge.pw_widelines_k55_crossings_of_lines.main.body.getD i (.Pass ⟨0,0,0,0⟩)
abbrev a1X : Stmt := top 22
theorem sc_law_new_tape : FnScope ["_law_script"] ["_law_script"] (l3 a1X) := ⟨rfl,rfl,rfl,by decide +kernel,rfl,by decide +kernel,by decide +kernel⟩
set_option maxHeartbeats 4000000 in
section
variable {P : Program} {w : World} {K : PySem.W.Frag} {mg : Str → Option Value} {base : Heap}
theorem b00 {f : Addr} {fd : FuncData} (B : Blt mg) (F : GF K mg "_law_new_tape" a1X f fd) : Cal P w K mg base 1 "_law_new_tape" ["_law_script"] (P4):=
 r8 F (fun _ _ _ _ _ _ => on1 fun _ => rfl) sc_law_new_tape fun cdv A outer s H E g hr=>
  have nd := sc_law_new_tape.nd
  (j9 (l4 (a71 (pv 0))))
abbrev a17 : Stmt := top 38
theorem sc_law_pairs : FnScope ["_law_line", "_law_closed_here", "_law_some", "_law_found"] ["_law_line"] (l3 a17) := ⟨rfl,rfl,rfl,by decide +kernel,rfl,by decide +kernel,by decide +kernel⟩
set_option maxHeartbeats 4000000 in
theorem a8T {f : Addr} {fd : FuncData} (B : Blt mg) (F : GF K mg "_law_pairs" a17 f fd) : Cal P w K mg base 1 "_law_pairs" ["_law_line"] (K8):=
 r8 F (fun _ _ _ _ _ _ => on1 fun _ => rfl) sc_law_pairs fun cdv A outer s H E g hr=>
  have nd := sc_law_pairs.nd
  (i8 (K5 (c9 (pv 0)) (E9 rfl (v5 (u4 (o7 (i := 1) nd rfl (by first | exact Or.inl rfl | exact Or.inr rfl))) (v5 (u4 (o7 (i := 2) nd rfl (by first | exact Or.inl rfl | exact Or.inr rfl))) F0)))) (i8 (W9 (i := 3) nd rfl (by first | exact Or.inl rfl | exact Or.inr rfl) (X5 (N' := ["_law_k", "_law_some"]) (idx := [2]) rfl (O0 (by rfl) (.cons rfl .nil) (by decide +kernel) rfl (by decide +kernel) (by rfl) (.cons rfl (by first | exact Or.inl rfl | exact Or.inr rfl) (by first | exact Or.inl rfl | exact Or.inr rfl) .nil)) (b2b (by rfl) B.range (j5 E7 E6 (EO.b (B6 D6 E1 (by rfl) B.len E2 (bc (a9 (pv 2)) u8))) (EO.b a7))) (fun _ _ _ _ => o7 (i := 0) (show List.Nodup (["_law_k", "_law_some"] : List Str) by decide +kernel) rfl (Or.inl rfl)) (fun _ _ _ _ _ => L1) (fun _ _ _ _ _ => (j3 (ac (d0 c7 c8 (a9 (pv 1)) (a9 (pv 0)) (fun _ _ => rfl)) (ac (d0 c7 c8 (a9 (pv 1)) (EO.b (j5 D1 D5 (a9 (pv 0)) (EO.b a7))) (fun _ _ => rfl)) b6)))))) (j9 (l4 (FO.v (M7 U2 W8 (a9 (pv 3)) (EO.b (FO.v (M7 a1q a3O (EO.b (FO.v (w9 (ac (j3 (ac (d0 c7 c8 (a9 (pv 2)) (EO.b (A2 A0 A4 (EO.b a7))) (fun _ _ => rfl)) (ac (d0 c7 c8 (a9 (pv 2)) (EO.b a7) (fun _ _ => rfl)) b6))) b6)))) (EO.b (N8 a1u a4g (by rfl) B.int a3b (bc (a9 (pv 1)) u8))))))))))))
abbrev a3L : Stmt := top 24
theorem sc_law_divisor : FnScope ["_law_one", "_law_other"] ["_law_one", "_law_other"] (l3 a3L) := ⟨rfl,rfl,rfl,by decide +kernel,rfl,by decide +kernel,by decide +kernel⟩
set_option maxHeartbeats 4000000 in
theorem b0n {f : Addr} {fd : FuncData} (B : Blt mg) (F : GF K mg "_law_divisor" a3L f fd) : Cal P w K mg base 1 "_law_divisor" ["_law_one", "_law_other"] (u6):=
 r8 F (fun _ _ _ _ _ _ => on2 fun _ _ => rfl) sc_law_divisor fun cdv A outer s H E g hr=>
  have nd := sc_law_divisor.nd
  (i8 (a04 (i := 0) (j := 1) rfl nd rfl rfl (by decide) rfl rfl (ac (B6 a0L a08 (by rfl) B.abs a1c (bc (a9 (pv 0)) u8)) (ac (B6 a0L a08 (by rfl) B.abs a1c (bc (a9 (pv 1)) u8)) b6)) rfl) (i8 (a6t PassesOwn.never (v4 Q1 (B8 (fun i j => decide (j < i))) (a9 (pv 1)) (EO.b a7) (o8 _)) (j9 (a04 (i := 0) (j := 1) rfl nd rfl rfl (by decide) rfl rfl (ac (c9 (pv 1)) (ac (j5 J6 K1 (a9 (pv 0)) (a9 (pv 1))) b6)) rfl))) (j9 (l4 (c9 (pv 0))))))
abbrev a4k : Stmt := top 25
theorem sc_law_low : FnScope ["_law_top", "_law_bottom", "_law_shared"] ["_law_top", "_law_bottom"] (l3 a4k) := ⟨rfl,rfl,rfl,by decide +kernel,rfl,by decide +kernel,by decide +kernel⟩
set_option maxHeartbeats 4000000 in
theorem a8q {m_law_divisor : DFn} (C_law_divisor : Cal P w K mg base 1 "_law_divisor" ["_law_one", "_law_other"] m_law_divisor) {f : Addr} {fd : FuncData} (B : Blt mg) (F : GF K mg "_law_low" a4k f fd) : Cal P w K mg base 2 "_law_low" ["_law_top", "_law_bottom"] (w6 m_law_divisor):=
 r8 F (fun _ _ _ _ _ _ => on2 fun _ _ => rfl) sc_law_low fun cdv A outer s H E g hr=>
  have nd := sc_law_low.nd
  (i8 (l8 (i := 2) nd rfl (by first | exact Or.inl rfl | exact Or.inr rfl) (i7 C_law_divisor _ hr (by decide) (by rfl) (ac (c9 (pv 0)) (ac (c9 (pv 1)) b6)) (c5 (c5 i6)))) (i8 (A8 (v4 G1 (B8 (fun i j => decide (i < j))) (a9 (pv 1)) (EO.b a7) (o8 _)) (j9 (l8 (i := 2) nd rfl (by first | exact Or.inl rfl | exact Or.inr rfl) (A2 A0 A4 (a9 (pv 2))))) B0) (j9 (l4 (j3 (ac (j5 T2 T9 (a9 (pv 0)) (a9 (pv 2))) (ac (j5 T2 T9 (a9 (pv 1)) (a9 (pv 2))) b6)))))))
abbrev a2z : Stmt := top 32
theorem sc_law_xy : FnScope ["_law_spot_here"] ["_law_spot_here"] (l3 a2z) := ⟨rfl,rfl,rfl,by decide +kernel,rfl,by decide +kernel,by decide +kernel⟩
set_option maxHeartbeats 4000000 in
theorem a9X {m_law_low : DFn} (C_law_low : Cal P w K mg base 2 "_law_low" ["_law_top", "_law_bottom"] m_law_low) {f : Addr} {fd : FuncData} (B : Blt mg) (F : GF K mg "_law_xy" a2z f fd) : Cal P w K mg base 3 "_law_xy" ["_law_spot_here"] (N4 m_law_low):=
 r8 F (fun _ _ _ _ _ _ => on1 fun _ => rfl) sc_law_xy fun cdv A outer s H E g hr=>
  have nd := sc_law_xy.nd
  (j9 (l4 (j3 (ac (i7 C_law_low _ hr (by decide) (by rfl) (ac (d0 c7 c8 (a9 (pv 0)) (EO.b a7) (fun _ _ => rfl)) (ac (d0 c7 c8 (a9 (pv 0)) (EO.b a7) (fun _ _ => rfl)) b6)) (c5 (c5 i6))) (ac (i7 C_law_low _ hr (by decide) (by rfl) (ac (d0 c7 c8 (a9 (pv 0)) (EO.b a7) (fun _ _ => rfl)) (ac (d0 c7 c8 (a9 (pv 0)) (EO.b a7) (fun _ _ => rfl)) b6)) (c5 (c5 i6))) b6)))))
abbrev a1L : Stmt := top 27
theorem sc_law_minus : FnScope ["_law_one", "_law_other"] ["_law_one", "_law_other"] (l3 a1L) := ⟨rfl,rfl,rfl,by decide +kernel,rfl,by decide +kernel,by decide +kernel⟩
set_option maxHeartbeats 4000000 in
theorem b3U {m_law_low : DFn} (C_law_low : Cal P w K mg base 2 "_law_low" ["_law_top", "_law_bottom"] m_law_low) {f : Addr} {fd : FuncData} (B : Blt mg) (F : GF K mg "_law_minus" a1L f fd) : Cal P w K mg base 3 "_law_minus" ["_law_one", "_law_other"] (T5 m_law_low):=
 r8 F (fun _ _ _ _ _ _ => on2 fun _ _ => rfl) sc_law_minus fun cdv A outer s H E g hr=>
  have nd := sc_law_minus.nd
  (j9 (l4 (i7 C_law_low _ hr (by decide) (by rfl) (ac (j5 E7 E6 (EO.b (j5 n9 o0 (EO.b (d0 c7 c8 (a9 (pv 0)) (EO.b a7) (fun _ _ => rfl))) (EO.b (d0 c7 c8 (a9 (pv 1)) (EO.b a7) (fun _ _ => rfl))))) (EO.b (j5 n9 o0 (EO.b (d0 c7 c8 (a9 (pv 1)) (EO.b a7) (fun _ _ => rfl))) (EO.b (d0 c7 c8 (a9 (pv 0)) (EO.b a7) (fun _ _ => rfl)))))) (ac (j5 n9 o0 (EO.b (d0 c7 c8 (a9 (pv 0)) (EO.b a7) (fun _ _ => rfl))) (EO.b (d0 c7 c8 (a9 (pv 1)) (EO.b a7) (fun _ _ => rfl)))) b6)) (c5 (c5 i6)))))
abbrev a2o : Stmt := top 44
theorem sc_law_far : FnScope ["_law_a", "_law_b", "_law_x", "_law_y", "_law_far_here", "_law_high"] ["_law_a", "_law_b"] (l3 a2o) := ⟨rfl,rfl,rfl,by decide +kernel,rfl,by decide +kernel,by decide +kernel⟩
set_option maxHeartbeats 4000000 in
theorem b14 {m_law_minus : DFn} {m_law_xy : DFn} (C_law_minus : Cal P w K mg base 3 "_law_minus" ["_law_one", "_law_other"] m_law_minus) (C_law_xy : Cal P w K mg base 3 "_law_xy" ["_law_spot_here"] m_law_xy) {f : Addr} {fd : FuncData} (B : Blt mg) (F : GF K mg "_law_far" a2o f fd) : Cal P w K mg base 4 "_law_far" ["_law_a", "_law_b"] (X6 m_law_minus m_law_xy):=
 r8 F (fun _ _ _ _ _ _ => on2 fun _ _ => rfl) sc_law_far fun cdv A outer s H E g hr=>
  have nd := sc_law_far.nd
  (i8 (K5 (j3 (ac (i7 C_law_xy _ hr (by decide) (by rfl) (ac (c9 (pv 0)) b6) (c5 i6)) (ac (i7 C_law_xy _ hr (by decide) (by rfl) (ac (c9 (pv 1)) b6) (c5 i6)) b6))) (E9 rfl (v5 (E9 rfl (v5 (u4 (o7 (i := 2) nd rfl (by first | exact Or.inl rfl | exact Or.inr rfl))) (v5 (u4 (o7 (i := 3) nd rfl (by first | exact Or.inl rfl | exact Or.inr rfl))) F0))) (v5 (E9 rfl (v5 (u4 (o7 (i := 4) nd rfl (by first | exact Or.inl rfl | exact Or.inr rfl))) (v5 (u4 (o7 (i := 5) nd rfl (by first | exact Or.inl rfl | exact Or.inr rfl))) F0))) F0)))) (j9 (l4 (j3 (ac (i7 C_law_minus _ hr (by decide) (by rfl) (ac (c9 (pv 4)) (ac (c9 (pv 2)) b6)) (c5 (c5 i6))) (ac (i7 C_law_minus _ hr (by decide) (by rfl) (ac (c9 (pv 5)) (ac (c9 (pv 3)) b6)) (c5 (c5 i6))) b6))))))
abbrev a3u : Stmt := top 28
theorem sc_law_product : FnScope ["_law_one", "_law_other"] ["_law_one", "_law_other"] (l3 a3u) := ⟨rfl,rfl,rfl,by decide +kernel,rfl,by decide +kernel,by decide +kernel⟩
set_option maxHeartbeats 4000000 in
theorem b2C {m_law_low : DFn} (C_law_low : Cal P w K mg base 2 "_law_low" ["_law_top", "_law_bottom"] m_law_low) {f : Addr} {fd : FuncData} (B : Blt mg) (F : GF K mg "_law_product" a3u f fd) : Cal P w K mg base 3 "_law_product" ["_law_one", "_law_other"] (R7 m_law_low):=
 r8 F (fun _ _ _ _ _ _ => on2 fun _ _ => rfl) sc_law_product fun cdv A outer s H E g hr=>
  have nd := sc_law_product.nd
  (j9 (l4 (i7 C_law_low _ hr (by decide) (by rfl) (ac (j5 n9 o0 (EO.b (d0 c7 c8 (a9 (pv 0)) (EO.b a7) (fun _ _ => rfl))) (EO.b (d0 c7 c8 (a9 (pv 1)) (EO.b a7) (fun _ _ => rfl)))) (ac (j5 n9 o0 (EO.b (d0 c7 c8 (a9 (pv 0)) (EO.b a7) (fun _ _ => rfl))) (EO.b (d0 c7 c8 (a9 (pv 1)) (EO.b a7) (fun _ _ => rfl)))) b6)) (c5 (c5 i6)))))
abbrev a3t : Stmt := top 45
theorem sc_law_athwart : FnScope ["_law_one", "_law_other"] ["_law_one", "_law_other"] (l3 a3t) := ⟨rfl,rfl,rfl,by decide +kernel,rfl,by decide +kernel,by decide +kernel⟩
set_option maxHeartbeats 4000000 in
theorem a8z {m_law_minus : DFn} {m_law_product : DFn} (C_law_minus : Cal P w K mg base 3 "_law_minus" ["_law_one", "_law_other"] m_law_minus) (C_law_product : Cal P w K mg base 3 "_law_product" ["_law_one", "_law_other"] m_law_product) {f : Addr} {fd : FuncData} (B : Blt mg) (F : GF K mg "_law_athwart" a3t f fd) : Cal P w K mg base 4 "_law_athwart" ["_law_one", "_law_other"] (a13 m_law_minus m_law_product):=
 r8 F (fun _ _ _ _ _ _ => on2 fun _ _ => rfl) sc_law_athwart fun cdv A outer s H E g hr=>
  have nd := sc_law_athwart.nd
  (j9 (l4 (i7 C_law_minus _ hr (by decide) (by rfl) (ac (i7 C_law_product _ hr (by decide) (by rfl) (ac (d0 c7 c8 (a9 (pv 0)) (EO.b a7) (fun _ _ => rfl)) (ac (d0 c7 c8 (a9 (pv 1)) (EO.b a7) (fun _ _ => rfl)) b6)) (c5 (c5 i6))) (ac (i7 C_law_product _ hr (by decide) (by rfl) (ac (d0 c7 c8 (a9 (pv 0)) (EO.b a7) (fun _ _ => rfl)) (ac (d0 c7 c8 (a9 (pv 1)) (EO.b a7) (fun _ _ => rfl)) b6)) (c5 (c5 i6))) b6)) (c5 (c5 i6)))))
abbrev a2t : Stmt := top 29
theorem sc_law_over : FnScope ["_law_one", "_law_other"] ["_law_one", "_law_other"] (l3 a2t) := ⟨rfl,rfl,rfl,by decide +kernel,rfl,by decide +kernel,by decide +kernel⟩
set_option maxHeartbeats 4000000 in
theorem b09 {m_law_low : DFn} (C_law_low : Cal P w K mg base 2 "_law_low" ["_law_top", "_law_bottom"] m_law_low) {f : Addr} {fd : FuncData} (B : Blt mg) (F : GF K mg "_law_over" a2t f fd) : Cal P w K mg base 3 "_law_over" ["_law_one", "_law_other"] (a0O m_law_low):=
 r8 F (fun _ _ _ _ _ _ => on2 fun _ _ => rfl) sc_law_over fun cdv A outer s H E g hr=>
  have nd := sc_law_over.nd
  (j9 (l4 (i7 C_law_low _ hr (by decide) (by rfl) (ac (j5 n9 o0 (EO.b (d0 c7 c8 (a9 (pv 0)) (EO.b a7) (fun _ _ => rfl))) (EO.b (d0 c7 c8 (a9 (pv 1)) (EO.b a7) (fun _ _ => rfl)))) (ac (j5 n9 o0 (EO.b (d0 c7 c8 (a9 (pv 0)) (EO.b a7) (fun _ _ => rfl))) (EO.b (d0 c7 c8 (a9 (pv 1)) (EO.b a7) (fun _ _ => rfl)))) b6)) (c5 (c5 i6)))))
abbrev a1w : Stmt := top 31
theorem sc_law_spot : FnScope ["_law_x", "_law_y", "_law_some", "_law_shared"] ["_law_x", "_law_y"] (l3 a1w) := ⟨rfl,rfl,rfl,by decide +kernel,rfl,by decide +kernel,by decide +kernel⟩
set_option maxHeartbeats 4000000 in
theorem a9F {m_law_divisor : DFn} (C_law_divisor : Cal P w K mg base 1 "_law_divisor" ["_law_one", "_law_other"] m_law_divisor) {f : Addr} {fd : FuncData} (B : Blt mg) (F : GF K mg "_law_spot" a1w f fd) : Cal P w K mg base 2 "_law_spot" ["_law_x", "_law_y"] (O5 m_law_divisor):=
 r8 F (fun _ _ _ _ _ _ => on2 fun _ _ => rfl) sc_law_spot fun cdv A outer s H E g hr=>
  have nd := sc_law_spot.nd
  (i8 (l8 (i := 2) nd rfl (by first | exact Or.inl rfl | exact Or.inr rfl) (j3 (ac (j5 n9 o0 (EO.b (d0 c7 c8 (a9 (pv 0)) (EO.b a7) (fun _ _ => rfl))) (EO.b (d0 c7 c8 (a9 (pv 1)) (EO.b a7) (fun _ _ => rfl)))) (ac (j5 n9 o0 (EO.b (d0 c7 c8 (a9 (pv 1)) (EO.b a7) (fun _ _ => rfl))) (EO.b (d0 c7 c8 (a9 (pv 0)) (EO.b a7) (fun _ _ => rfl)))) (ac (j5 n9 o0 (EO.b (d0 c7 c8 (a9 (pv 0)) (EO.b a7) (fun _ _ => rfl))) (EO.b (d0 c7 c8 (a9 (pv 1)) (EO.b a7) (fun _ _ => rfl)))) b6))))) (i8 (l8 (i := 3) nd rfl (by first | exact Or.inl rfl | exact Or.inr rfl) (i7 C_law_divisor _ hr (by decide) (by rfl) (ac (i7 C_law_divisor _ hr (by decide) (by rfl) (ac (d0 c7 c8 (a9 (pv 2)) (EO.b a7) (fun _ _ => rfl)) (ac (d0 c7 c8 (a9 (pv 2)) (EO.b a7) (fun _ _ => rfl)) b6)) (c5 (c5 i6))) (ac (d0 c7 c8 (a9 (pv 2)) (EO.b a7) (fun _ _ => rfl)) b6)) (c5 (c5 i6)))) (j9 (l4 (N8 W1 V8 (by rfl) B.tuple V6 (bc (EO.b (FO.v (a3I (N' := ["_law_one", "_law_shared"]) (idx := [3]) rfl (O0 (by rfl) (.cons rfl .nil) (by decide +kernel) rfl (by decide +kernel) (by rfl) (.cons rfl (by first | exact Or.inl rfl | exact Or.inr rfl) (by first | exact Or.inl rfl | exact Or.inr rfl) .nil)) (M2 (c9 (pv 2))) (fun _ _ _ _ => o7 (i := 0) (show List.Nodup (["_law_one", "_law_shared"] : List Str) by decide +kernel) rfl (Or.inl rfl)) (fun _ _ _ _ _ => L1) (fun _ _ _ _ _ => (j5 T2 T9 (a9 (pv 0)) (a9 (pv 1))))))) u8))))))
abbrev a14 : Stmt := top 26
theorem sc_law_plus : FnScope ["_law_one", "_law_other"] ["_law_one", "_law_other"] (l3 a14) := ⟨rfl,rfl,rfl,by decide +kernel,rfl,by decide +kernel,by decide +kernel⟩
set_option maxHeartbeats 4000000 in
theorem b25 {m_law_low : DFn} (C_law_low : Cal P w K mg base 2 "_law_low" ["_law_top", "_law_bottom"] m_law_low) {f : Addr} {fd : FuncData} (B : Blt mg) (F : GF K mg "_law_plus" a14 f fd) : Cal P w K mg base 3 "_law_plus" ["_law_one", "_law_other"] (R9 m_law_low):=
 r8 F (fun _ _ _ _ _ _ => on2 fun _ _ => rfl) sc_law_plus fun cdv A outer s H E g hr=>
  have nd := sc_law_plus.nd
  (j9 (l4 (i7 C_law_low _ hr (by decide) (by rfl) (ac (j5 D1 D5 (EO.b (j5 n9 o0 (EO.b (d0 c7 c8 (a9 (pv 0)) (EO.b a7) (fun _ _ => rfl))) (EO.b (d0 c7 c8 (a9 (pv 1)) (EO.b a7) (fun _ _ => rfl))))) (EO.b (j5 n9 o0 (EO.b (d0 c7 c8 (a9 (pv 1)) (EO.b a7) (fun _ _ => rfl))) (EO.b (d0 c7 c8 (a9 (pv 0)) (EO.b a7) (fun _ _ => rfl)))))) (ac (j5 n9 o0 (EO.b (d0 c7 c8 (a9 (pv 0)) (EO.b a7) (fun _ _ => rfl))) (EO.b (d0 c7 c8 (a9 (pv 1)) (EO.b a7) (fun _ _ => rfl)))) b6)) (c5 (c5 i6)))))
abbrev a2m : Stmt := top 47
theorem sc_law_on_the_way : FnScope ["_law_a", "_law_b", "_law_share", "_law_x", "_law_y", "_law_far_here", "_law_high"] ["_law_a", "_law_b", "_law_share"] (l3 a2m) := ⟨rfl,rfl,rfl,by decide +kernel,rfl,by decide +kernel,by decide +kernel⟩
set_option maxHeartbeats 4000000 in
theorem a8c {m_law_spot : DFn} {m_law_plus : DFn} {m_law_product : DFn} {m_law_far : DFn} {m_law_xy : DFn} (C_law_spot : Cal P w K mg base 2 "_law_spot" ["_law_x", "_law_y"] m_law_spot) (C_law_plus : Cal P w K mg base 3 "_law_plus" ["_law_one", "_law_other"] m_law_plus) (C_law_product : Cal P w K mg base 3 "_law_product" ["_law_one", "_law_other"] m_law_product) (C_law_far : Cal P w K mg base 4 "_law_far" ["_law_a", "_law_b"] m_law_far) (C_law_xy : Cal P w K mg base 3 "_law_xy" ["_law_spot_here"] m_law_xy) {f : Addr} {fd : FuncData} (B : Blt mg) (F : GF K mg "_law_on_the_way" a2m f fd) : Cal P w K mg base 5 "_law_on_the_way" ["_law_a", "_law_b", "_law_share"] (a02 m_law_spot m_law_plus m_law_product m_law_far m_law_xy):=
 r8 F (fun _ _ _ _ _ _ => on3 fun _ _ _ => rfl) sc_law_on_the_way fun cdv A outer s H E g hr=>
  have nd := sc_law_on_the_way.nd
  (i8 (K5 (i7 C_law_xy _ hr (by decide) (by rfl) (ac (c9 (pv 0)) b6) (c5 i6)) (E9 rfl (v5 (u4 (o7 (i := 3) nd rfl (by first | exact Or.inl rfl | exact Or.inr rfl))) (v5 (u4 (o7 (i := 4) nd rfl (by first | exact Or.inl rfl | exact Or.inr rfl))) F0)))) (i8 (K5 (i7 C_law_far _ hr (by decide) (by rfl) (ac (c9 (pv 0)) (ac (c9 (pv 1)) b6)) (c5 (c5 i6))) (E9 rfl (v5 (u4 (o7 (i := 5) nd rfl (by first | exact Or.inl rfl | exact Or.inr rfl))) (v5 (u4 (o7 (i := 6) nd rfl (by first | exact Or.inl rfl | exact Or.inr rfl))) F0)))) (j9 (l4 (i7 C_law_spot _ hr (by decide) (by rfl) (ac (i7 C_law_plus _ hr (by decide) (by rfl) (ac (c9 (pv 3)) (ac (i7 C_law_product _ hr (by decide) (by rfl) (ac (c9 (pv 2)) (ac (c9 (pv 5)) b6)) (c5 (c5 i6))) b6)) (c5 (c5 i6))) (ac (i7 C_law_plus _ hr (by decide) (by rfl) (ac (c9 (pv 4)) (ac (i7 C_law_product _ hr (by decide) (by rfl) (ac (c9 (pv 2)) (ac (c9 (pv 6)) b6)) (c5 (c5 i6))) b6)) (c5 (c5 i6))) b6)) (c5 (c5 i6)))))))
abbrev a3W : Stmt := top 30
theorem sc_law_below : FnScope ["_law_one", "_law_other"] ["_law_one", "_law_other"] (l3 a3W) := ⟨rfl,rfl,rfl,by decide +kernel,rfl,by decide +kernel,by decide +kernel⟩
set_option maxHeartbeats 4000000 in
theorem b3f {f : Addr} {fd : FuncData} (B : Blt mg) (F : GF K mg "_law_below" a3W f fd) : Cal P w K mg base 1 "_law_below" ["_law_one", "_law_other"] (K3):=
 r8 F (fun _ _ _ _ _ _ => on2 fun _ _ => rfl) sc_law_below fun cdv A outer s H E g hr=>
  have nd := sc_law_below.nd
  (j9 (l4 (D4 G1 (B8 (fun i j => decide (i < j))) (EO.b (j5 n9 o0 (EO.b (d0 c7 c8 (a9 (pv 0)) (EO.b a7) (fun _ _ => rfl))) (EO.b (d0 c7 c8 (a9 (pv 1)) (EO.b a7) (fun _ _ => rfl))))) (EO.b (j5 n9 o0 (EO.b (d0 c7 c8 (a9 (pv 1)) (EO.b a7) (fun _ _ => rfl))) (EO.b (d0 c7 c8 (a9 (pv 0)) (EO.b a7) (fun _ _ => rfl))))) (o8 _))))
abbrev a3Q : Stmt := top 46
theorem sc_law_with : FnScope ["_law_one", "_law_other"] ["_law_one", "_law_other"] (l3 a3Q) := ⟨rfl,rfl,rfl,by decide +kernel,rfl,by decide +kernel,by decide +kernel⟩
set_option maxHeartbeats 4000000 in
theorem b1I {m_law_plus : DFn} {m_law_product : DFn} (C_law_plus : Cal P w K mg base 3 "_law_plus" ["_law_one", "_law_other"] m_law_plus) (C_law_product : Cal P w K mg base 3 "_law_product" ["_law_one", "_law_other"] m_law_product) {f : Addr} {fd : FuncData} (B : Blt mg) (F : GF K mg "_law_with" a3Q f fd) : Cal P w K mg base 4 "_law_with" ["_law_one", "_law_other"] (a2v m_law_plus m_law_product):=
 r8 F (fun _ _ _ _ _ _ => on2 fun _ _ => rfl) sc_law_with fun cdv A outer s H E g hr=>
  have nd := sc_law_with.nd
  (j9 (l4 (i7 C_law_plus _ hr (by decide) (by rfl) (ac (i7 C_law_product _ hr (by decide) (by rfl) (ac (d0 c7 c8 (a9 (pv 0)) (EO.b a7) (fun _ _ => rfl)) (ac (d0 c7 c8 (a9 (pv 1)) (EO.b a7) (fun _ _ => rfl)) b6)) (c5 (c5 i6))) (ac (i7 C_law_product _ hr (by decide) (by rfl) (ac (d0 c7 c8 (a9 (pv 0)) (EO.b a7) (fun _ _ => rfl)) (ac (d0 c7 c8 (a9 (pv 1)) (EO.b a7) (fun _ _ => rfl)) b6)) (c5 (c5 i6))) b6)) (c5 (c5 i6)))))
abbrev a1P : Stmt := top 49
theorem sc_law_alongside : FnScope ["_law_one", "_law_other", "_law_choice", "_law_some", "_law_low_here", "_law_high", "_law_ends", "_law_rises"] ["_law_one", "_law_other"] (l3 a1P) := ⟨rfl,rfl,rfl,by decide +kernel,rfl,by decide +kernel,by decide +kernel⟩
set_option maxHeartbeats 4000000 in
theorem a8I {m_law_far : DFn} {m_law_on_the_way : DFn} {m_law_below : DFn} {m_law_over : DFn} {m_law_with : DFn} (C_law_far : Cal P w K mg base 4 "_law_far" ["_law_a", "_law_b"] m_law_far) (C_law_on_the_way : Cal P w K mg base 5 "_law_on_the_way" ["_law_a", "_law_b", "_law_share"] m_law_on_the_way) (C_law_below : Cal P w K mg base 1 "_law_below" ["_law_one", "_law_other"] m_law_below) (C_law_over : Cal P w K mg base 3 "_law_over" ["_law_one", "_law_other"] m_law_over) (C_law_with : Cal P w K mg base 4 "_law_with" ["_law_one", "_law_other"] m_law_with) {f : Addr} {fd : FuncData} (B : Blt mg) (F : GF K mg "_law_alongside" a1P f fd) : Cal P w K mg base 6 "_law_alongside" ["_law_one", "_law_other"] (a2Z m_law_far m_law_on_the_way m_law_below m_law_over m_law_with):=
 r8 F (fun _ _ _ _ _ _ => on2 fun _ _ => rfl) sc_law_alongside fun cdv A outer s H E g hr=>
  have nd := sc_law_alongside.nd
  (i8 (l8 (i := 2) nd rfl (by first | exact Or.inl rfl | exact Or.inr rfl) (i7 C_law_far _ hr (by decide) (by rfl) (ac (d0 c7 c8 (a9 (pv 0)) (EO.b a7) (fun _ _ => rfl)) (ac (d0 c7 c8 (a9 (pv 0)) (EO.b a7) (fun _ _ => rfl)) b6)) (c5 (c5 i6)))) (i8 (W9 (i := 3) nd rfl (by first | exact Or.inl rfl | exact Or.inr rfl) (X5 (N' := ["_law_spot_here", "_law_choice", "_law_one"]) (idx := [2,0]) rfl (O0 (by rfl) (.cons rfl (.cons rfl .nil)) (by decide +kernel) rfl (by decide +kernel) (by rfl) (.cons rfl (by first | exact Or.inl rfl | exact Or.inr rfl) (by first | exact Or.inl rfl | exact Or.inr rfl) (.cons rfl (by first | exact Or.inl rfl | exact Or.inr rfl) (by first | exact Or.inl rfl | exact Or.inr rfl) .nil))) (M2 (c9 (pv 1))) (fun _ _ _ _ => o7 (i := 0) (show List.Nodup (["_law_spot_here", "_law_choice", "_law_one"] : List Str) by decide +kernel) rfl (Or.inl rfl)) (fun _ _ _ _ _ => L1) (fun _ _ _ _ _ => (i7 C_law_over _ hr (by decide) (by rfl) (ac (i7 C_law_with _ hr (by decide) (by rfl) (ac (i7 C_law_far _ hr (by decide) (by rfl) (ac (d0 c7 c8 (a9 (pv 2)) (EO.b a7) (fun _ _ => rfl)) (ac (c9 (pv 0)) b6)) (c5 (c5 i6))) (ac (c9 (pv 1)) b6)) (c5 (c5 i6))) (ac (i7 C_law_with _ hr (by decide) (by rfl) (ac (c9 (pv 1)) (ac (c9 (pv 1)) b6)) (c5 (c5 i6))) b6)) (c5 (c5 i6)))))) (i8 (A8 (F9 (EO.b (i7 C_law_below _ hr (by decide) (by rfl) (ac (d0 c7 c8 (a9 (pv 3)) (EO.b a7) (fun _ _ => rfl)) (ac (d0 c7 c8 (a9 (pv 3)) (EO.b a7) (fun _ _ => rfl)) b6)) (c5 (c5 i6))))) (j9 (b0j (pv 3))) B0) (i8 (l8 (i := 4) nd rfl (by first | exact Or.inl rfl | exact Or.inr rfl) (L8 (v4 G1 (B8 (fun i j => decide (i < j))) (EO.b (d0 c7 c8 (EO.b (d0 c7 c8 (a9 (pv 3)) (EO.b a7) (fun _ _ => rfl))) (EO.b a7) (fun _ _ => rfl))) (EO.b a7) (o8 _)) (j3 (ac a7 (ac a7 b6))) (d0 c7 c8 (a9 (pv 3)) (EO.b a7) (fun _ _ => rfl)))) (i8 (l8 (i := 5) nd rfl (by first | exact Or.inl rfl | exact Or.inr rfl) (L8 (F9 (EO.b (i7 C_law_below _ hr (by decide) (by rfl) (ac (j3 (ac a7 (ac a7 b6))) (ac (d0 c7 c8 (a9 (pv 3)) (EO.b a7) (fun _ _ => rfl)) b6)) (c5 (c5 i6))))) (j3 (ac a7 (ac a7 b6))) (d0 c7 c8 (a9 (pv 3)) (EO.b a7) (fun _ _ => rfl)))) (i8 (A8 (F9 (EO.b (i7 C_law_below _ hr (by decide) (by rfl) (ac (c9 (pv 5)) (ac (c9 (pv 4)) b6)) (c5 (c5 i6))))) (j9 (l4 M5)) B0) (i8 (W9 (i := 6) nd rfl (by first | exact Or.inl rfl | exact Or.inr rfl) (X5 (N' := ["_law_share", "_law_one"]) (idx := [0]) rfl (O0 (by rfl) (.cons rfl .nil) (by decide +kernel) rfl (by decide +kernel) (by rfl) (.cons rfl (by first | exact Or.inl rfl | exact Or.inr rfl) (by first | exact Or.inl rfl | exact Or.inr rfl) .nil)) (M2 (FO.v (w9 (ac (c9 (pv 4)) (ac (c9 (pv 5)) b6))))) (fun _ _ _ _ => o7 (i := 0) (show List.Nodup (["_law_share", "_law_one"] : List Str) by decide +kernel) rfl (Or.inl rfl)) (fun _ _ _ _ _ => L1) (fun _ _ _ _ _ => (i7 C_law_on_the_way _ hr (by decide) (by rfl) (ac (d0 c7 c8 (a9 (pv 1)) (EO.b a7) (fun _ _ => rfl)) (ac (d0 c7 c8 (a9 (pv 1)) (EO.b a7) (fun _ _ => rfl)) (ac (c9 (pv 0)) b6))) (c5 (c5 (c5 i6))))))) (i8 (A8 (v4 (C1 (u64 hr)) C4 (EO.b (d0 c7 c8 (a9 (pv 6)) (EO.b a7) (fun _ _ => rfl))) (EO.b (d0 c7 c8 (a9 (pv 6)) (EO.b a7) (fun _ _ => rfl))) (o8 _)) (j9 (l4 (j3 (ac (M9 (by decide +kernel)) (ac (d0 c7 c8 (a9 (pv 6)) (EO.b a7) (fun _ _ => rfl)) b6))))) B0) (i8 (l8 (i := 2) nd rfl (by first | exact Or.inl rfl | exact Or.inr rfl) (i7 C_law_far _ hr (by decide) (by rfl) (ac (d0 c7 c8 (a9 (pv 6)) (EO.b a7) (fun _ _ => rfl)) (ac (d0 c7 c8 (a9 (pv 6)) (EO.b a7) (fun _ _ => rfl)) b6)) (c5 (c5 i6)))) (i8 (l8 (i := 7) nd rfl (by first | exact Or.inl rfl | exact Or.inr rfl) (a5l (D4 Q1 (B8 (fun i j => decide (j < i))) (EO.b (d0 c7 c8 (EO.b (d0 c7 c8 (a9 (pv 2)) (EO.b a7) (fun _ _ => rfl))) (EO.b a7) (fun _ _ => rfl))) (EO.b a7) (o8 _)) (J2 (G7 (D4 (C1 (u64 hr)) C4 (EO.b (d0 c7 c8 (EO.b (d0 c7 c8 (a9 (pv 2)) (EO.b a7) (fun _ _ => rfl))) (EO.b a7) (fun _ _ => rfl))) (EO.b a7) (o8 _)) (J2 (D4 Q1 (B8 (fun i j => decide (j < i))) (EO.b (d0 c7 c8 (EO.b (d0 c7 c8 (a9 (pv 2)) (EO.b a7) (fun _ _ => rfl))) (EO.b a7) (fun _ _ => rfl))) (EO.b a7) (o8 _))))))) (j9 (l4 (L8 (F9 (a9 (pv 7))) (j3 (ac (M9 (by decide +kernel)) (ac (d0 c7 c8 (a9 (pv 6)) (EO.b a7) (fun _ _ => rfl)) (ac (d0 c7 c8 (a9 (pv 6)) (EO.b a7) (fun _ _ => rfl)) b6)))) (j3 (ac (M9 (by decide +kernel)) (ac (d0 c7 c8 (a9 (pv 6)) (EO.b a7) (fun _ _ => rfl)) (ac (d0 c7 c8 (a9 (pv 6)) (EO.b a7) (fun _ _ => rfl)) b6)))))))))))))))))
abbrev a2q : Stmt := top 48
theorem sc_law_is_share : FnScope ["_law_share"] ["_law_share"] (l3 a2q) := ⟨rfl,rfl,rfl,by decide +kernel,rfl,by decide +kernel,by decide +kernel⟩
set_option maxHeartbeats 4000000 in
theorem a9E {m_law_below : DFn} (C_law_below : Cal P w K mg base 1 "_law_below" ["_law_one", "_law_other"] m_law_below) {f : Addr} {fd : FuncData} (B : Blt mg) (F : GF K mg "_law_is_share" a2q f fd) : Cal P w K mg base 2 "_law_is_share" ["_law_share"] (a3Z m_law_below):=
 r8 F (fun _ _ _ _ _ _ => on1 fun _ => rfl) sc_law_is_share fun cdv A outer s H E g hr=>
  have nd := sc_law_is_share.nd
  (j9 (l4 (G7 (D4 a4X (B8 (fun i j => decide (j ≤ i))) (EO.b (d0 c7 c8 (a9 (pv 0)) (EO.b a7) (fun _ _ => rfl))) (EO.b a7) (o8 _)) (J2 (a2U (i7 C_law_below _ hr (by decide) (by rfl) (ac (j3 (ac a7 (ac a7 b6))) (ac (c9 (pv 0)) b6)) (c5 (c5 i6))))))))
abbrev a15 : Stmt := top 50
theorem sc_law_common : FnScope ["_law_one", "_law_other", "_law_first", "_law_second", "_law_between", "_law_whole", "_law_share"] ["_law_one", "_law_other"] (l3 a15) := ⟨rfl,rfl,rfl,by decide +kernel,rfl,by decide +kernel,by decide +kernel⟩
set_option maxHeartbeats 4000000 in
theorem a9I {m_law_on_the_way : DFn} {m_law_is_share : DFn} {m_law_over : DFn} {m_law_athwart : DFn} {m_law_alongside : DFn} {m_law_far : DFn} (C_law_on_the_way : Cal P w K mg base 5 "_law_on_the_way" ["_law_a", "_law_b", "_law_share"] m_law_on_the_way) (C_law_is_share : Cal P w K mg base 2 "_law_is_share" ["_law_share"] m_law_is_share) (C_law_over : Cal P w K mg base 3 "_law_over" ["_law_one", "_law_other"] m_law_over) (C_law_athwart : Cal P w K mg base 4 "_law_athwart" ["_law_one", "_law_other"] m_law_athwart) (C_law_alongside : Cal P w K mg base 6 "_law_alongside" ["_law_one", "_law_other"] m_law_alongside) (C_law_far : Cal P w K mg base 4 "_law_far" ["_law_a", "_law_b"] m_law_far) {f : Addr} {fd : FuncData} (B : Blt mg) (F : GF K mg "_law_common" a15 f fd) : Cal P w K mg base 7 "_law_common" ["_law_one", "_law_other"] (a10 m_law_on_the_way m_law_is_share m_law_over m_law_athwart m_law_alongside m_law_far):=
 r8 F (fun _ _ _ _ _ _ => on2 fun _ _ => rfl) sc_law_common fun cdv A outer s H E g hr=>
  have nd := sc_law_common.nd
  (i8 (a04 (i := 2) (j := 3) rfl nd rfl rfl (by decide) rfl rfl (ac (i7 C_law_far _ hr (by decide) (by rfl) (ac (d0 c7 c8 (a9 (pv 0)) (EO.b a7) (fun _ _ => rfl)) (ac (d0 c7 c8 (a9 (pv 0)) (EO.b a7) (fun _ _ => rfl)) b6)) (c5 (c5 i6))) (ac (i7 C_law_far _ hr (by decide) (by rfl) (ac (d0 c7 c8 (a9 (pv 1)) (EO.b a7) (fun _ _ => rfl)) (ac (d0 c7 c8 (a9 (pv 1)) (EO.b a7) (fun _ _ => rfl)) b6)) (c5 (c5 i6))) b6)) rfl) (i8 (l8 (i := 4) nd rfl (by first | exact Or.inl rfl | exact Or.inr rfl) (i7 C_law_far _ hr (by decide) (by rfl) (ac (d0 c7 c8 (a9 (pv 0)) (EO.b a7) (fun _ _ => rfl)) (ac (d0 c7 c8 (a9 (pv 1)) (EO.b a7) (fun _ _ => rfl)) b6)) (c5 (c5 i6)))) (i8 (l8 (i := 5) nd rfl (by first | exact Or.inl rfl | exact Or.inr rfl) (i7 C_law_athwart _ hr (by decide) (by rfl) (ac (c9 (pv 2)) (ac (c9 (pv 3)) b6)) (c5 (c5 i6)))) (i8 (A8 (v4 (C1 (u64 hr)) C4 (EO.b (d0 c7 c8 (a9 (pv 5)) (EO.b a7) (fun _ _ => rfl))) (EO.b a7) (o8 _)) (j9 (l4 (L8 (v4 (C1 (u64 hr)) C4 (EO.b (d0 c7 c8 (EO.b (i7 C_law_athwart _ hr (by decide) (by rfl) (ac (c9 (pv 4)) (ac (c9 (pv 2)) b6)) (c5 (c5 i6)))) (EO.b a7) (fun _ _ => rfl))) (EO.b a7) (o8 _)) (i7 C_law_alongside _ hr (by decide) (by rfl) (ac (c9 (pv 0)) (ac (c9 (pv 1)) b6)) (c5 (c5 i6))) M5))) B0) (i8 (l8 (i := 6) nd rfl (by first | exact Or.inl rfl | exact Or.inr rfl) (i7 C_law_over _ hr (by decide) (by rfl) (ac (i7 C_law_athwart _ hr (by decide) (by rfl) (ac (c9 (pv 4)) (ac (c9 (pv 3)) b6)) (c5 (c5 i6))) (ac (c9 (pv 5)) b6)) (c5 (c5 i6)))) (i8 (A8 (WO.t (a2b (a0M (F9 (EO.b (i7 C_law_is_share _ hr (by decide) (by rfl) (ac (c9 (pv 6)) b6) (c5 i6))))) (a3o (a0M (F9 (EO.b (i7 C_law_is_share _ hr (by decide) (by rfl) (ac (i7 C_law_over _ hr (by decide) (by rfl) (ac (i7 C_law_athwart _ hr (by decide) (by rfl) (ac (c9 (pv 4)) (ac (c9 (pv 2)) b6)) (c5 (c5 i6))) (ac (c9 (pv 5)) b6)) (c5 (c5 i6))) b6) (c5 i6)))))))) (j9 (l4 M5)) B0) (j9 (l4 (j3 (ac (M9 (by decide +kernel)) (ac (i7 C_law_on_the_way _ hr (by decide) (by rfl) (ac (d0 c7 c8 (a9 (pv 0)) (EO.b a7) (fun _ _ => rfl)) (ac (d0 c7 c8 (a9 (pv 0)) (EO.b a7) (fun _ _ => rfl)) (ac (c9 (pv 6)) b6))) (c5 (c5 (c5 i6)))) b6)))))))))))
abbrev a2n : Stmt := top 51
theorem sc_law_due : FnScope ["_law_line", "_law_some", "_law_found", "_law_i", "_law_j", "_law_what", "_law_joint"] ["_law_line"] (l3 a2n) := ⟨rfl,rfl,rfl,by decide +kernel,rfl,by decide +kernel,by decide +kernel⟩
set_option maxHeartbeats 4000000 in
theorem a8B {m_law_common : DFn} {m_law_pairs : DFn} (C_law_common : Cal P w K mg base 7 "_law_common" ["_law_one", "_law_other"] m_law_common) (C_law_pairs : Cal P w K mg base 1 "_law_pairs" ["_law_line"] m_law_pairs) {f : Addr} {fd : FuncData} (B : Blt mg) (F : GF K mg "_law_due" a2n f fd) : Cal P w K mg base 8 "_law_due" ["_law_line"] (a1H m_law_common m_law_pairs):=
 r8 F (fun _ _ _ _ _ _ => on1 fun _ => rfl) sc_law_due fun cdv A outer s H E g hr=>
  have nd := sc_law_due.nd
  (i8 (l8 (i := 1) nd rfl (by first | exact Or.inl rfl | exact Or.inr rfl) (i7 C_law_pairs _ hr (by decide) (by rfl) (ac (c9 (pv 0)) b6) (c5 i6))) (i8 (D2 (i := 2) nd rfl (by first | exact Or.inl rfl | exact Or.inr rfl) (w9 b6)) (i8 (Z5 PassesOwn.never rfl (by rfl) B.range (B6 D6 E1 (by rfl) B.len E2 (bc (a9 (pv 1)) u8)) (u4 (o7 (i := 3) nd rfl (by first | exact Or.inl rfl | exact Or.inr rfl))) (j9 (a68 PassesOwn.never rfl (by rfl) B.range (j5 D1 D5 (a9 (pv 3)) (EO.b a7)) (B6 D6 E1 (by rfl) B.len E2 (bc (a9 (pv 1)) u8)) (u4 (o7 (i := 4) nd rfl (by first | exact Or.inl rfl | exact Or.inr rfl))) (i8 (l8 (i := 5) nd rfl (by first | exact Or.inl rfl | exact Or.inr rfl) (i7 C_law_common _ hr (by decide) (by rfl) (ac (d0 c7 c8 (a9 (pv 1)) (a9 (pv 3)) (fun _ _ => rfl)) (ac (d0 c7 c8 (a9 (pv 1)) (a9 (pv 4)) (fun _ _ => rfl)) b6)) (c5 (c5 i6)))) (i8 (D2 (i := 6) nd rfl (by first | exact Or.inl rfl | exact Or.inr rfl) (M7 a1q a3O (EO.b (FO.v (w9 (ac (d0 c7 c8 (EO.b (d0 c7 c8 (a9 (pv 1)) (a9 (pv 3)) (fun _ _ => rfl))) (EO.b a7) (fun _ _ => rfl)) b6)))) (EO.b (N8 a1u a4g (by rfl) B.int a3b (bc (EO.b (D4 (C1 (u64 hr)) C4 (a9 (pv 4)) (EO.b (j5 D1 D5 (a9 (pv 3)) (EO.b a7))) (o8 _))) u8))))) (i8 (D2 (i := 6) nd rfl (by first | exact Or.inl rfl | exact Or.inr rfl) (M7 U2 W8 (a9 (pv 6)) (EO.b (FO.v (M7 a1q a3O (EO.b (FO.v (w9 (ac (d0 c7 c8 (EO.b (d0 c7 c8 (a9 (pv 1)) (a9 (pv 3)) (fun _ _ => rfl))) (EO.b a7) (fun _ _ => rfl)) b6)))) (EO.b (N8 a1u a4g (by rfl) B.int a3b (bc (EO.b (G7 (d0 c7 c8 (a9 (pv 0)) (EO.b a7) (fun _ _ => rfl)) (G7 (D4 (C1 (u64 hr)) C4 (a9 (pv 3)) (EO.b a7) (o8 _)) (J2 (D4 (C1 (u64 hr)) C4 (a9 (pv 4)) (EO.b (j5 E7 E6 (EO.b (B6 D6 E1 (by rfl) B.len E2 (bc (a9 (pv 1)) u8))) (EO.b a7))) (o8 _)))))) u8)))))))) (j9 (A8 (WO.t (Y6 (v4 a6e a5x (a9 (pv 5)) (EO.b M5) (o8 _)) (a1j (v4 (b2B (u64 hr)) b3E (a9 (pv 5)) (EO.b (FO.v (a3I (N' := ["_law_spot_here"]) (idx := []) rfl (O0 (by rfl) .nil (by decide +kernel) rfl (by decide +kernel) (by rfl) .nil) (M2 (c9 (pv 6))) (fun _ _ _ _ => o7 (i := 0) (show List.Nodup (["_law_spot_here"] : List Str) by decide +kernel) rfl (Or.inl rfl)) (fun _ _ _ _ _ => L1) (fun _ _ _ _ _ => (j3 (ac (M9 (by decide +kernel)) (ac (c9 (pv 0)) b6))))))) (by rfl))))) (j9 (U3 (pv 2) (j3 (ac (c9 (pv 3)) (ac (c9 (pv 4)) (ac (c9 (pv 5)) b6)))))) B0)))))))) (j9 (l4 (c9 (pv 2)))))))
abbrev a2F : Stmt := top 23
theorem sc_law_draw : FnScope ["_law_tape", "_law_many", "_law_found", "_law_spot_here", "_law_cell", "_law_seed"] ["_law_tape", "_law_many"] (l3 a2F) := ⟨rfl,rfl,rfl,by decide +kernel,rfl,by decide +kernel,by decide +kernel⟩
set_option maxHeartbeats 4000000 in
theorem b4k {f : Addr} {fd : FuncData} (B : Blt mg) (F : GF K mg "_law_draw" a2F f fd) : Cal P w K mg base 1 "_law_draw" ["_law_tape", "_law_many"] (G8):=
 r8 F (fun _ _ _ _ _ _ => on2 fun _ _ => rfl) sc_law_draw fun cdv A outer s H E g hr=>
  have nd := sc_law_draw.nd
  (i8 (A8 (v4 Q1 (B8 (fun i j => decide (j < i))) (EO.b (R8 (pv 0))) (EO.b a7) (o8 _)) (i8 (l8 (i := 2) nd rfl (by first | exact Or.inl rfl | exact Or.inr rfl) (j5 J6 K1 (EO.b (R8 (pv 0))) (a9 (pv 1)))) (i8 (a2j (pv 0) (j5 T2 T9 (EO.b (R8 (pv 0))) (a9 (pv 1)))) (j9 (l4 (c9 (pv 2)))))) B0) (i8 (l8 (i := 3) nd rfl (by first | exact Or.inl rfl | exact Or.inr rfl) (R8 (pv 0))) (i8 (a2j (pv 0) (j5 D1 D5 (a9 (pv 3)) (EO.b a7))) (i8 (l8 (i := 4) nd rfl (by first | exact Or.inl rfl | exact Or.inr rfl) a7) (i8 (A8 (v4 Q1 (B8 (fun i j => decide (j < i))) (EO.b (B6 D6 E1 (by rfl) B.len E2 (bc (EO.b (R8 (pv 0))) u8))) (EO.b a7) (o8 _)) (j9 (l8 (i := 4) nd rfl (by first | exact Or.inl rfl | exact Or.inr rfl) (d0 c7 c8 (EO.b (R8 (pv 0))) (EO.b (j5 J6 K1 (a9 (pv 3)) (EO.b (B6 D6 E1 (by rfl) B.len E2 (bc (EO.b (R8 (pv 0))) u8))))) (fun _ _ => rfl)))) B0) (i8 (A8 (WO.t (Y6 (v4 a4X (B8 (fun i j => decide (j ≤ i))) (a9 (pv 4)) (EO.b (j5 a05 a0J (EO.b a7) (EO.b a7))) (o8 _)) (a1j (v4 G1 (B8 (fun i j => decide (i < j))) (a9 (pv 3)) (EO.b (B6 D6 E1 (by rfl) B.len E2 (bc (EO.b (R8 (pv 0))) u8))) (o8 _))))) (i8 (a2j (pv 0) (j5 T2 T9 (a9 (pv 4)) (a9 (pv 1)))) (j9 (l4 (j5 J6 K1 (a9 (pv 4)) (a9 (pv 1)))))) B0) (i8 (l8 (i := 5) nd rfl (by first | exact Or.inl rfl | exact Or.inr rfl) (j5 J6 K1 (EO.b (j5 n9 o0 (EO.b (j5 D1 D5 (EO.b (j5 D1 D5 (EO.b (j5 J6 K1 (a9 (pv 4)) (EO.b a7))) (EO.b (j5 n9 o0 (EO.b (j5 n9 o0 (EO.b a7) (a9 (pv 3)))) (a9 (pv 3)))))) (EO.b a7))) (EO.b a7))) (EO.b a7))) (j9 (l4 (j5 J6 K1 (EO.b (j5 T2 T9 (EO.b (j5 J6 K1 (EO.b (j5 n9 o0 (EO.b (j5 J6 K1 (EO.b (j5 D1 D5 (EO.b (j5 n9 o0 (a9 (pv 5)) (EO.b a7))) (EO.b (j5 n9 o0 (a9 (pv 3)) (EO.b a7))))) (EO.b a7))) (EO.b a7))) (EO.b a7))) (EO.b a7))) (a9 (pv 1))))))))))))
abbrev a3r : Stmt := top 34
theorem sc_law_start : FnScope ["_law_tape", "_law_some", "_law_x"] ["_law_tape"] (l3 a3r) := ⟨rfl,rfl,rfl,by decide +kernel,rfl,by decide +kernel,by decide +kernel⟩
set_option maxHeartbeats 4000000 in
theorem b0e {m_law_draw : DFn} (C_law_draw : Cal P w K mg base 1 "_law_draw" ["_law_tape", "_law_many"] m_law_draw) {f : Addr} {fd : FuncData} (B : Blt mg) (F : GF K mg "_law_start" a3r f fd) : Cal P w K mg base 2 "_law_start" ["_law_tape"] (a0P m_law_draw):=
 r8 F (fun _ _ _ _ _ _ => on1 fun _ => rfl) sc_law_start fun cdv A outer s H E g hr=>
  have nd := sc_law_start.nd
  (i8 (D2 (i := 1) nd rfl (by first | exact Or.inl rfl | exact Or.inr rfl) (w9 (ac (j3 (ac a7 (ac a7 b6))) (ac (j3 (ac a7 (ac a7 b6))) (ac (j3 (ac (A2 A0 A4 (EO.b a7)) (ac a7 b6))) (ac (j3 (ac a7 (ac a7 b6))) (ac (j3 (ac (A2 A0 A4 (EO.b a7)) (ac a7 b6))) (ac (j3 (ac a7 (ac a7 b6))) b6)))))))) (i8 (l8 (i := 2) nd rfl (by first | exact Or.inl rfl | exact Or.inr rfl) (d0 c7 c8 (a9 (pv 1)) (EO.b (i7 C_law_draw _ hr (by decide) (by rfl) (ac (c9 (pv 0)) (ac a7 b6)) (c5 (c5 i6)))) (fun _ _ => rfl))) (j9 (l4 (j3 (ac (c9 (pv 2)) (ac (d0 c7 c8 (a9 (pv 1)) (EO.b (i7 C_law_draw _ hr (by decide) (by rfl) (ac (c9 (pv 0)) (ac a7 b6)) (c5 (c5 i6)))) (fun _ _ => rfl)) b6)))))))
abbrev a1U : Stmt := top 36
theorem sc_law_closed : FnScope ["_law_tape", "_law_some", "_law_told", "_law_k", "_law_a", "_law_b", "_law_h", "_law_size", "_law_x", "_law_y", "_law_found", "_law_one", "_law_other", "_law_far_here", "_law_high"] ["_law_tape"] (l3 a1U) := ⟨rfl,rfl,rfl,by decide +kernel,rfl,by decide +kernel,by decide +kernel⟩
set_option maxHeartbeats 4000000 in
theorem b1G {m_law_spot : DFn} {m_law_plus : DFn} {m_law_product : DFn} {m_law_start : DFn} {m_law_draw : DFn} (C_law_spot : Cal P w K mg base 2 "_law_spot" ["_law_x", "_law_y"] m_law_spot) (C_law_plus : Cal P w K mg base 3 "_law_plus" ["_law_one", "_law_other"] m_law_plus) (C_law_product : Cal P w K mg base 3 "_law_product" ["_law_one", "_law_other"] m_law_product) (C_law_start : Cal P w K mg base 2 "_law_start" ["_law_tape"] m_law_start) (C_law_draw : Cal P w K mg base 1 "_law_draw" ["_law_tape", "_law_many"] m_law_draw) {f : Addr} {fd : FuncData} (B : Blt mg) (F : GF K mg "_law_closed" a1U f fd) : Cal P w K mg base 4 "_law_closed" ["_law_tape"] (a3P m_law_spot m_law_plus m_law_product m_law_start m_law_draw):=
 r8 F (fun _ _ _ _ _ _ => on1 fun _ => rfl) sc_law_closed fun cdv A outer s H E g hr=>
  have nd := sc_law_closed.nd
  (i8 (D2 (i := 1) nd rfl (by first | exact Or.inl rfl | exact Or.inr rfl) (w9 (ac (j3 (ac (j3 (ac a7 (ac a7 b6))) (ac (j3 (ac a7 (ac a7 b6))) (ac (j3 (ac a7 (ac a7 b6))) b6)))) (ac (j3 (ac (j3 (ac a7 (ac a7 b6))) (ac (j3 (ac a7 (ac a7 b6))) (ac (j3 (ac a7 (ac a7 b6))) b6)))) (ac (j3 (ac (j3 (ac a7 (ac a7 b6))) (ac (j3 (ac a7 (ac a7 b6))) (ac (j3 (ac a7 (ac a7 b6))) (ac (j3 (ac a7 (ac a7 b6))) b6))))) b6))))) (i8 (D2 (i := 1) nd rfl (by first | exact Or.inl rfl | exact Or.inr rfl) (M7 U2 W8 (a9 (pv 1)) (EO.b (FO.v (w9 (ac (j3 (ac (j3 (ac a7 (ac a7 b6))) (ac (j3 (ac a7 (ac a7 b6))) (ac (j3 (ac a7 (ac a7 b6))) (ac (j3 (ac a7 (ac a7 b6))) b6))))) (ac (j3 (ac (j3 (ac a7 (ac a7 b6))) (ac (j3 (ac a7 (ac a7 b6))) (ac (j3 (ac a7 (ac a7 b6))) (ac (j3 (ac a7 (ac a7 b6))) b6))))) b6))))))) (i8 (D2 (i := 1) nd rfl (by first | exact Or.inl rfl | exact Or.inr rfl) (M7 U2 W8 (a9 (pv 1)) (EO.b (FO.v (w9 (ac (j3 (ac (j3 (ac a7 (ac a7 b6))) (ac (j3 (ac a7 (ac a7 b6))) (ac (j3 (ac a7 (ac a7 b6))) (ac (j3 (ac a7 (ac a7 b6))) (ac (j3 (ac a7 (ac a7 b6))) (ac (j3 (ac a7 (ac a7 b6))) b6))))))) b6)))))) (i8 (D2 (i := 1) nd rfl (by first | exact Or.inl rfl | exact Or.inr rfl) (M7 U2 W8 (a9 (pv 1)) (EO.b (FO.v (w9 (ac (j3 (ac (j3 (ac a7 (ac a7 b6))) (ac (j3 (ac a7 (ac a7 b6))) (ac (j3 (ac a7 (ac a7 b6))) (ac (j3 (ac a7 (ac a7 b6))) (ac (j3 (ac a7 (ac a7 b6))) (ac (j3 (ac a7 (ac a7 b6))) (ac (j3 (ac a7 (ac a7 b6))) (ac (j3 (ac a7 (ac a7 b6))) b6))))))))) b6)))))) (i8 (l8 (i := 2) nd rfl (by first | exact Or.inl rfl | exact Or.inr rfl) (d0 c7 c8 (a9 (pv 1)) (EO.b (i7 C_law_draw _ hr (by decide) (by rfl) (ac (c9 (pv 0)) (ac a7 b6)) (c5 (c5 i6)))) (fun _ _ => rfl))) (i8 (l8 (i := 3) nd rfl (by first | exact Or.inl rfl | exact Or.inr rfl) (i7 C_law_draw _ hr (by decide) (by rfl) (ac (c9 (pv 0)) (ac (B6 D6 E1 (by rfl) B.len E2 (bc (a9 (pv 2)) u8)) b6)) (c5 (c5 i6)))) (i8 (l8 (i := 2) nd rfl (by first | exact Or.inl rfl | exact Or.inr rfl) (b18 (EO.b (j5 D1 D5 (EO.b (Z8 (a9 (pv 2)) (a0b (a9 (pv 3))) a0i)) (EO.b (Z8 (a9 (pv 2)) a0i (a0b (a9 (pv 3))))))) (EO.b (j5 E7 E6 (EO.b a7) (EO.b (j5 n9 o0 (EO.b a7) (EO.b (i7 C_law_draw _ hr (by decide) (by rfl) (ac (c9 (pv 0)) (ac a7 b6)) (c5 (c5 i6)))))))))) (i8 (K5 (d0 c7 c8 (EO.b (FO.v (w9 (ac (j3 (ac a7 (ac a7 (ac a7 b6)))) (ac (j3 (ac a7 (ac a7 (ac a7 b6)))) (ac (j3 (ac a7 (ac a7 (ac a7 b6)))) (ac (j3 (ac (A2 A0 A4 (EO.b a7)) (ac a7 (ac a7 b6)))) (ac (j3 (ac a7 (ac a7 (ac a7 b6)))) b6)))))))) (EO.b (i7 C_law_draw _ hr (by decide) (by rfl) (ac (c9 (pv 0)) (ac a7 b6)) (c5 (c5 i6)))) (fun _ _ => rfl)) (E9 rfl (v5 (u4 (o7 (i := 4) nd rfl (by first | exact Or.inl rfl | exact Or.inr rfl))) (v5 (u4 (o7 (i := 5) nd rfl (by first | exact Or.inl rfl | exact Or.inr rfl))) (v5 (u4 (o7 (i := 6) nd rfl (by first | exact Or.inl rfl | exact Or.inr rfl))) F0))))) (i8 (l8 (i := 7) nd rfl (by first | exact Or.inl rfl | exact Or.inr rfl) (d0 c7 c8 (EO.b (FO.v (w9 (ac (j3 (ac a7 (ac a7 b6))) (ac (j3 (ac a7 (ac a7 b6))) (ac (j3 (ac a7 (ac a7 b6))) b6)))))) (EO.b (i7 C_law_draw _ hr (by decide) (by rfl) (ac (c9 (pv 0)) (ac a7 b6)) (c5 (c5 i6)))) (fun _ _ => rfl))) (i8 (K5 (i7 C_law_start _ hr (by decide) (by rfl) (ac (c9 (pv 0)) b6) (c5 i6)) (E9 rfl (v5 (u4 (o7 (i := 8) nd rfl (by first | exact Or.inl rfl | exact Or.inr rfl))) (v5 (u4 (o7 (i := 9) nd rfl (by first | exact Or.inl rfl | exact Or.inr rfl))) F0)))) (i8 (D2 (i := 10) nd rfl (by first | exact Or.inl rfl | exact Or.inr rfl) (w9 b6)) (i8 (a4e PassesOwn.never rfl (c9 (pv 2)) (E9 rfl (v5 (u4 (o7 (i := 11) nd rfl (by first | exact Or.inl rfl | exact Or.inr rfl))) (v5 (u4 (o7 (i := 12) nd rfl (by first | exact Or.inl rfl | exact Or.inr rfl))) F0))) (i8 (l8 (i := 13) nd rfl (by first | exact Or.inl rfl | exact Or.inr rfl) (i7 C_law_product _ hr (by decide) (by rfl) (ac (c9 (pv 7)) (ac (j3 (ac (j5 E7 E6 (EO.b (j5 n9 o0 (a9 (pv 11)) (a9 (pv 4)))) (EO.b (j5 n9 o0 (a9 (pv 12)) (a9 (pv 5))))) (ac (c9 (pv 6)) b6))) b6)) (c5 (c5 i6)))) (i8 (l8 (i := 14) nd rfl (by first | exact Or.inl rfl | exact Or.inr rfl) (i7 C_law_product _ hr (by decide) (by rfl) (ac (c9 (pv 7)) (ac (j3 (ac (j5 D1 D5 (EO.b (j5 n9 o0 (a9 (pv 11)) (a9 (pv 5)))) (EO.b (j5 n9 o0 (a9 (pv 12)) (a9 (pv 4))))) (ac (c9 (pv 6)) b6))) b6)) (c5 (c5 i6)))) (j9 (U3 (pv 10) (i7 C_law_spot _ hr (by decide) (by rfl) (ac (i7 C_law_plus _ hr (by decide) (by rfl) (ac (c9 (pv 8)) (ac (c9 (pv 13)) b6)) (c5 (c5 i6))) (ac (i7 C_law_plus _ hr (by decide) (by rfl) (ac (c9 (pv 9)) (ac (c9 (pv 14)) b6)) (c5 (c5 i6))) b6)) (c5 (c5 i6)))))))) (j9 (l4 (j3 (ac a1h (ac (N8 W1 V8 (by rfl) B.tuple V6 (bc (a9 (pv 10)) u8)) b6)))))))))))))))))
abbrev a34 : Stmt := top 33
theorem sc_law_menu : FnScope ["_law_tape", "_law_great", "_law_choice", "_law_some", "_law_a", "_law_b", "_law_h", "_law_found", "_law_x", "_law_y"] ["_law_tape"] (l3 a34) := ⟨rfl,rfl,rfl,by decide +kernel,rfl,by decide +kernel,by decide +kernel⟩
set_option maxHeartbeats 4000000 in
theorem a9g {m_law_draw : DFn} (C_law_draw : Cal P w K mg base 1 "_law_draw" ["_law_tape", "_law_many"] m_law_draw) {f : Addr} {fd : FuncData} (B : Blt mg) (F : GF K mg "_law_menu" a34 f fd) : Cal P w K mg base 2 "_law_menu" ["_law_tape"] (a2O m_law_draw):=
 r8 F (fun _ _ _ _ _ _ => on1 fun _ => rfl) sc_law_menu fun cdv A outer s H E g hr=>
  have nd := sc_law_menu.nd
  (i8 (l8 (i := 1) nd rfl (by first | exact Or.inl rfl | exact Or.inr rfl) (d0 c7 c8 (EO.b (FO.v (w9 (ac a7 (ac a7 (ac a7 (ac a7 (ac a7 (ac a7 (ac a7 (ac (j5 a05 a0J (EO.b a7) (EO.b a7)) b6))))))))))) (EO.b (i7 C_law_draw _ hr (by decide) (by rfl) (ac (c9 (pv 0)) (ac a7 b6)) (c5 (c5 i6)))) (fun _ _ => rfl))) (i8 (l8 (i := 2) nd rfl (by first | exact Or.inl rfl | exact Or.inr rfl) (i7 C_law_draw _ hr (by decide) (by rfl) (ac (c9 (pv 0)) (ac a7 b6)) (c5 (c5 i6)))) (i8 (A8 (v4 (C1 (u64 hr)) C4 (a9 (pv 2)) (EO.b a7) (o8 _)) (i8 (D2 (i := 3) nd rfl (by first | exact Or.inl rfl | exact Or.inr rfl) (w9 (ac (j3 (ac a7 (ac a7 b6))) (ac (j3 (ac a7 (ac a7 b6))) (ac (j3 (ac a7 (ac a7 b6))) (ac (j3 (ac a7 (ac a7 b6))) (ac (j3 (ac a7 (ac a7 b6))) b6))))))) (j9 (l4 (j3 (ac (FO.v (w9 (ac (j3 (ac a7 (ac a7 (ac a7 b6)))) (ac (j3 (ac a7 (ac a7 (ac a7 b6)))) (ac (j3 (ac (A2 A0 A4 (EO.b a7)) (ac a7 (ac a7 b6)))) (ac (j3 (ac a7 (ac (A2 A0 A4 (EO.b a7)) (ac a7 b6)))) b6)))))) (ac (FO.v (a4v (caps := ["_law_great"]) (idx := [1]) rfl (a4C (by rfl) (.cons rfl .nil) (by decide +kernel) rfl (by decide +kernel) (by rfl) (.cons rfl (by first | exact Or.inl rfl | exact Or.inr rfl) (by first | exact Or.inl rfl | exact Or.inr rfl) .nil)) (M2 (c9 (pv 3))) (show List.Nodup (["_law_top", "_law_bottom", "_law_great"] : List Str) by decide +kernel) (fun _ _ _ _ => rfl) (fun _ _ _ _ => rfl) (fun _ _ _ _ _ => L1) (fun _ _ _ _ _ => (j3 (ac (j5 n9 o0 (a9 (pv 2)) (a9 (pv 0))) (ac (c9 (pv 1)) b6)))))) b6)))))) B0) (i8 (K5 (d0 c7 c8 (EO.b (FO.v (w9 (ac (j3 (ac a7 (ac a7 (ac a7 b6)))) (ac (j3 (ac a7 (ac a7 (ac a7 b6)))) (ac (j3 (ac a7 (ac a7 (ac a7 b6)))) (ac (j3 (ac a7 (ac a7 (ac a7 b6)))) b6))))))) (EO.b (j5 E7 E6 (a9 (pv 2)) (EO.b a7))) (fun _ _ => rfl)) (E9 rfl (v5 (u4 (o7 (i := 4) nd rfl (by first | exact Or.inl rfl | exact Or.inr rfl))) (v5 (u4 (o7 (i := 5) nd rfl (by first | exact Or.inl rfl | exact Or.inr rfl))) (v5 (u4 (o7 (i := 6) nd rfl (by first | exact Or.inl rfl | exact Or.inr rfl))) F0))))) (i8 (D2 (i := 7) nd rfl (by first | exact Or.inl rfl | exact Or.inr rfl) (w9 (ac (j3 (ac (c9 (pv 6)) (ac a7 (ac (c9 (pv 6)) b6)))) (ac (j3 (ac a7 (ac (c9 (pv 6)) (ac (c9 (pv 6)) b6)))) (ac (j3 (ac (A2 A0 A4 (a9 (pv 6))) (ac a7 (ac (c9 (pv 6)) b6)))) (ac (j3 (ac a7 (ac (A2 A0 A4 (a9 (pv 6))) (ac (c9 (pv 6)) b6)))) b6)))))) (i8 (a4e PassesOwn.never rfl (FO.v (w9 (ac (j3 (ac (c9 (pv 4)) (ac (c9 (pv 5)) b6))) (ac (j3 (ac (c9 (pv 5)) (ac (c9 (pv 4)) b6))) b6)))) (E9 rfl (v5 (u4 (o7 (i := 8) nd rfl (by first | exact Or.inl rfl | exact Or.inr rfl))) (v5 (u4 (o7 (i := 9) nd rfl (by first | exact Or.inl rfl | exact Or.inr rfl))) F0))) (j9 (D2 (i := 7) nd rfl (by first | exact Or.inl rfl | exact Or.inr rfl) (M7 U2 W8 (a9 (pv 7)) (EO.b (FO.v (w9 (ac (j3 (ac (c9 (pv 8)) (ac (c9 (pv 9)) (ac (c9 (pv 6)) b6)))) (ac (j3 (ac (A2 A0 A4 (a9 (pv 9))) (ac (c9 (pv 8)) (ac (c9 (pv 6)) b6)))) (ac (j3 (ac (A2 A0 A4 (a9 (pv 8))) (ac (A2 A0 A4 (a9 (pv 9))) (ac (c9 (pv 6)) b6)))) (ac (j3 (ac (c9 (pv 9)) (ac (A2 A0 A4 (a9 (pv 8))) (ac (c9 (pv 6)) b6)))) b6))))))))))) (j9 (l4 (j3 (ac (c9 (pv 7)) (ac (FO.v (a4v (caps := ["_law_great"]) (idx := [1]) rfl (a4C (by rfl) (.cons rfl .nil) (by decide +kernel) rfl (by decide +kernel) (by rfl) (.cons rfl (by first | exact Or.inl rfl | exact Or.inr rfl) (by first | exact Or.inl rfl | exact Or.inr rfl) .nil)) (M2 (FO.v (w9 (ac (j3 (ac (c9 (pv 6)) (ac a7 b6))) (ac (j3 (ac a7 (ac a7 b6))) (ac (j3 (ac (c9 (pv 6)) (ac a7 b6))) (ac (j3 (ac a7 (ac a7 b6))) b6))))))) (show List.Nodup (["_law_top", "_law_bottom", "_law_great"] : List Str) by decide +kernel) (fun _ _ _ _ => rfl) (fun _ _ _ _ => rfl) (fun _ _ _ _ _ => L1) (fun _ _ _ _ _ => (j3 (ac (j5 n9 o0 (a9 (pv 2)) (a9 (pv 0))) (ac (c9 (pv 1)) b6)))))) b6)))))))))))
abbrev a29 : Stmt := top 35
theorem sc_law_open : FnScope ["_law_tape", "_law_most", "_law_ways", "_law_sizes", "_law_x", "_law_y", "_law_found", "_law_former", "_law_k", "_law_some", "_law_size"] ["_law_tape", "_law_most"] (l3 a29) := ⟨rfl,rfl,rfl,by decide +kernel,rfl,by decide +kernel,by decide +kernel⟩
set_option maxHeartbeats 4000000 in
theorem b22 {m_law_spot : DFn} {m_law_plus : DFn} {m_law_product : DFn} {m_law_draw : DFn} {m_law_start : DFn} {m_law_menu : DFn} (C_law_spot : Cal P w K mg base 2 "_law_spot" ["_law_x", "_law_y"] m_law_spot) (C_law_plus : Cal P w K mg base 3 "_law_plus" ["_law_one", "_law_other"] m_law_plus) (C_law_product : Cal P w K mg base 3 "_law_product" ["_law_one", "_law_other"] m_law_product) (C_law_draw : Cal P w K mg base 1 "_law_draw" ["_law_tape", "_law_many"] m_law_draw) (C_law_start : Cal P w K mg base 2 "_law_start" ["_law_tape"] m_law_start) (C_law_menu : Cal P w K mg base 2 "_law_menu" ["_law_tape"] m_law_menu) {f : Addr} {fd : FuncData} (B : Blt mg) (F : GF K mg "_law_open" a29 f fd) : Cal P w K mg base 4 "_law_open" ["_law_tape", "_law_most"] (a1C m_law_spot m_law_plus m_law_product m_law_draw m_law_start m_law_menu):=
 r8 F (fun _ _ _ _ _ _ => on2 fun _ _ => rfl) sc_law_open fun cdv A outer s H E g hr=>
  have nd := sc_law_open.nd
  (i8 (K5 (i7 C_law_menu _ hr (by decide) (by rfl) (ac (c9 (pv 0)) b6) (c5 i6)) (E9 rfl (v5 (u4 (o7 (i := 2) nd rfl (by first | exact Or.inl rfl | exact Or.inr rfl))) (v5 (u4 (o7 (i := 3) nd rfl (by first | exact Or.inl rfl | exact Or.inr rfl))) F0)))) (i8 (K5 (i7 C_law_start _ hr (by decide) (by rfl) (ac (c9 (pv 0)) b6) (c5 i6)) (E9 rfl (v5 (u4 (o7 (i := 4) nd rfl (by first | exact Or.inl rfl | exact Or.inr rfl))) (v5 (u4 (o7 (i := 5) nd rfl (by first | exact Or.inl rfl | exact Or.inr rfl))) F0)))) (i8 (D2 (i := 6) nd rfl (by first | exact Or.inl rfl | exact Or.inr rfl) (w9 (ac (i7 C_law_spot _ hr (by decide) (by rfl) (ac (c9 (pv 4)) (ac (c9 (pv 5)) b6)) (c5 (c5 i6))) b6))) (i8 (l8 (i := 7) nd rfl (by first | exact Or.inl rfl | exact Or.inr rfl) M5) (i8 (Z5 PassesOwn.never rfl (by rfl) B.range (j5 D1 D5 (EO.b a7) (EO.b (i7 C_law_draw _ hr (by decide) (by rfl) (ac (c9 (pv 0)) (ac (j5 E7 E6 (a9 (pv 1)) (EO.b a7)) b6)) (c5 (c5 i6))))) (u4 (o7 (i := 8) nd rfl (by first | exact Or.inl rfl | exact Or.inr rfl))) (i8 (W9 (i := 9) nd rfl (by first | exact Or.inl rfl | exact Or.inr rfl) (X5 (N' := ["_law_choice", "_law_former"]) (idx := [7]) rfl (O0 (by rfl) (.cons rfl .nil) (by decide +kernel) rfl (by decide +kernel) (by rfl) (.cons rfl (by first | exact Or.inl rfl | exact Or.inr rfl) (by first | exact Or.inl rfl | exact Or.inr rfl) .nil)) (M2 (c9 (pv 2))) (fun _ _ _ _ => o7 (i := 0) (show List.Nodup (["_law_choice", "_law_former"] : List Str) by decide +kernel) rfl (Or.inl rfl)) (fun _ _ _ _ _ => (b4l (v4 (U8 (u64 hr)) X3 (a9 (pv 0)) (a9 (pv 1)) (o8 _)))) (fun _ _ _ _ _ => (c9 (pv 0))))) (i8 (l8 (i := 7) nd rfl (by first | exact Or.inl rfl | exact Or.inr rfl) (d0 c7 c8 (a9 (pv 9)) (EO.b (i7 C_law_draw _ hr (by decide) (by rfl) (ac (c9 (pv 0)) (ac (B6 D6 E1 (by rfl) B.len E2 (bc (a9 (pv 9)) u8)) b6)) (c5 (c5 i6)))) (fun _ _ => rfl))) (i8 (l8 (i := 10) nd rfl (by first | exact Or.inl rfl | exact Or.inr rfl) (d0 c7 c8 (a9 (pv 3)) (EO.b (i7 C_law_draw _ hr (by decide) (by rfl) (ac (c9 (pv 0)) (ac (B6 D6 E1 (by rfl) B.len E2 (bc (a9 (pv 3)) u8)) b6)) (c5 (c5 i6)))) (fun _ _ => rfl))) (i8 (l8 (i := 4) nd rfl (by first | exact Or.inl rfl | exact Or.inr rfl) (i7 C_law_plus _ hr (by decide) (by rfl) (ac (c9 (pv 4)) (ac (i7 C_law_product _ hr (by decide) (by rfl) (ac (c9 (pv 10)) (ac (j3 (ac (d0 c7 c8 (a9 (pv 7)) (EO.b a7) (fun _ _ => rfl)) (ac (d0 c7 c8 (a9 (pv 7)) (EO.b a7) (fun _ _ => rfl)) b6))) b6)) (c5 (c5 i6))) b6)) (c5 (c5 i6)))) (i8 (l8 (i := 5) nd rfl (by first | exact Or.inl rfl | exact Or.inr rfl) (i7 C_law_plus _ hr (by decide) (by rfl) (ac (c9 (pv 5)) (ac (i7 C_law_product _ hr (by decide) (by rfl) (ac (c9 (pv 10)) (ac (j3 (ac (d0 c7 c8 (a9 (pv 7)) (EO.b a7) (fun _ _ => rfl)) (ac (d0 c7 c8 (a9 (pv 7)) (EO.b a7) (fun _ _ => rfl)) b6))) b6)) (c5 (c5 i6))) b6)) (c5 (c5 i6)))) (j9 (U3 (pv 6) (i7 C_law_spot _ hr (by decide) (by rfl) (ac (c9 (pv 4)) (ac (c9 (pv 5)) b6)) (c5 (c5 i6))))))))))) (j9 (l4 (j3 (ac a1h (ac (N8 W1 V8 (by rfl) B.tuple V6 (bc (a9 (pv 6)) u8)) b6))))))))))
abbrev a3q : Stmt := top 37
theorem sc_law_exact : FnScope ["_law_tape", "_law_most"] ["_law_tape", "_law_most"] (l3 a3q) := ⟨rfl,rfl,rfl,by decide +kernel,rfl,by decide +kernel,by decide +kernel⟩
set_option maxHeartbeats 4000000 in
theorem b0V {m_law_draw : DFn} {m_law_closed : DFn} {m_law_open : DFn} (C_law_draw : Cal P w K mg base 1 "_law_draw" ["_law_tape", "_law_many"] m_law_draw) (C_law_closed : Cal P w K mg base 4 "_law_closed" ["_law_tape"] m_law_closed) (C_law_open : Cal P w K mg base 4 "_law_open" ["_law_tape", "_law_most"] m_law_open) {f : Addr} {fd : FuncData} (B : Blt mg) (F : GF K mg "_law_exact" a3q f fd) : Cal P w K mg base 5 "_law_exact" ["_law_tape", "_law_most"] (a2w m_law_draw m_law_closed m_law_open):=
 r8 F (fun _ _ _ _ _ _ => on2 fun _ _ => rfl) sc_law_exact fun cdv A outer s H E g hr=>
  have nd := sc_law_exact.nd
  (j9 (l4 (L8 (v4 (C1 (u64 hr)) C4 (EO.b (i7 C_law_draw _ hr (by decide) (by rfl) (ac (c9 (pv 0)) (ac a7 b6)) (c5 (c5 i6)))) (EO.b a7) (o8 _)) (i7 C_law_closed _ hr (by decide) (by rfl) (ac (c9 (pv 0)) b6) (c5 i6)) (i7 C_law_open _ hr (by decide) (by rfl) (ac (c9 (pv 0)) (ac (c9 (pv 1)) b6)) (c5 (c5 i6))))))
abbrev a3S : Stmt := top 41
theorem sc_law_near : FnScope ["_law_tape", "_law_x"] ["_law_tape"] (l3 a3S) := ⟨rfl,rfl,rfl,by decide +kernel,rfl,by decide +kernel,by decide +kernel⟩
set_option maxHeartbeats 4000000 in
theorem b1M {m_law_spot : DFn} {m_law_low : DFn} {m_law_draw : DFn} (C_law_spot : Cal P w K mg base 2 "_law_spot" ["_law_x", "_law_y"] m_law_spot) (C_law_low : Cal P w K mg base 2 "_law_low" ["_law_top", "_law_bottom"] m_law_low) (C_law_draw : Cal P w K mg base 1 "_law_draw" ["_law_tape", "_law_many"] m_law_draw) {f : Addr} {fd : FuncData} (B : Blt mg) (F : GF K mg "_law_near" a3S f fd) : Cal P w K mg base 3 "_law_near" ["_law_tape"] (a0D m_law_spot m_law_low m_law_draw):=
 r8 F (fun _ _ _ _ _ _ => on1 fun _ => rfl) sc_law_near fun cdv A outer s H E g hr=>
  have nd := sc_law_near.nd
  (i8 (l8 (i := 1) nd rfl (by first | exact Or.inl rfl | exact Or.inr rfl) (i7 C_law_low _ hr (by decide) (by rfl) (ac (j5 E7 E6 (EO.b (i7 C_law_draw _ hr (by decide) (by rfl) (ac (c9 (pv 0)) (ac a7 b6)) (c5 (c5 i6)))) (EO.b a7)) (ac (d0 c7 c8 (EO.b (FO.v (w9 (ac a7 (ac a7 (ac a7 (ac a7 b6))))))) (EO.b (i7 C_law_draw _ hr (by decide) (by rfl) (ac (c9 (pv 0)) (ac a7 b6)) (c5 (c5 i6)))) (fun _ _ => rfl)) b6)) (c5 (c5 i6)))) (j9 (l4 (i7 C_law_spot _ hr (by decide) (by rfl) (ac (c9 (pv 1)) (ac (i7 C_law_low _ hr (by decide) (by rfl) (ac (j5 E7 E6 (EO.b (i7 C_law_draw _ hr (by decide) (by rfl) (ac (c9 (pv 0)) (ac a7 b6)) (c5 (c5 i6)))) (EO.b a7)) (ac (d0 c7 c8 (EO.b (FO.v (w9 (ac a7 (ac a7 (ac a7 (ac a7 b6))))))) (EO.b (i7 C_law_draw _ hr (by decide) (by rfl) (ac (c9 (pv 0)) (ac a7 b6)) (c5 (c5 i6)))) (fun _ _ => rfl)) b6)) (c5 (c5 i6))) b6)) (c5 (c5 i6))))))
abbrev a24 : Stmt := top 39
theorem sc_law_way : FnScope ["_law_a", "_law_b"] ["_law_a", "_law_b"] (l3 a24) := ⟨rfl,rfl,rfl,by decide +kernel,rfl,by decide +kernel,by decide +kernel⟩
set_option maxHeartbeats 4000000 in
theorem b0c {f : Addr} {fd : FuncData} (B : Blt mg) (F : GF K mg "_law_way" a24 f fd) : Cal P w K mg base 1 "_law_way" ["_law_a", "_law_b"] (W4):=
 r8 F (fun _ _ _ _ _ _ => on2 fun _ _ => rfl) sc_law_way fun cdv A outer s H E g hr=>
  have nd := sc_law_way.nd
  (j9 (l4 (j3 (ac (j5 E7 E6 (EO.b (j5 n9 o0 (EO.b (d0 c7 c8 (a9 (pv 1)) (EO.b a7) (fun _ _ => rfl))) (EO.b (d0 c7 c8 (a9 (pv 0)) (EO.b a7) (fun _ _ => rfl))))) (EO.b (j5 n9 o0 (EO.b (d0 c7 c8 (a9 (pv 0)) (EO.b a7) (fun _ _ => rfl))) (EO.b (d0 c7 c8 (a9 (pv 1)) (EO.b a7) (fun _ _ => rfl)))))) (ac (j5 E7 E6 (EO.b (j5 n9 o0 (EO.b (d0 c7 c8 (a9 (pv 1)) (EO.b a7) (fun _ _ => rfl))) (EO.b (d0 c7 c8 (a9 (pv 0)) (EO.b a7) (fun _ _ => rfl))))) (EO.b (j5 n9 o0 (EO.b (d0 c7 c8 (a9 (pv 0)) (EO.b a7) (fun _ _ => rfl))) (EO.b (d0 c7 c8 (a9 (pv 1)) (EO.b a7) (fun _ _ => rfl)))))) b6)))))
abbrev a3l : Stmt := top 40
theorem sc_law_goes_on : FnScope ["_law_a", "_law_b", "_law_c", "_law_one", "_law_other"] ["_law_a", "_law_b", "_law_c"] (l3 a3l) := ⟨rfl,rfl,rfl,by decide +kernel,rfl,by decide +kernel,by decide +kernel⟩
set_option maxHeartbeats 4000000 in
theorem a94 {m_law_way : DFn} (C_law_way : Cal P w K mg base 1 "_law_way" ["_law_a", "_law_b"] m_law_way) {f : Addr} {fd : FuncData} (B : Blt mg) (F : GF K mg "_law_goes_on" a3l f fd) : Cal P w K mg base 2 "_law_goes_on" ["_law_a", "_law_b", "_law_c"] (a0u m_law_way):=
 r8 F (fun _ _ _ _ _ _ => on3 fun _ _ _ => rfl) sc_law_goes_on fun cdv A outer s H E g hr=>
  have nd := sc_law_goes_on.nd
  (i8 (a04 (i := 3) (j := 4) rfl nd rfl rfl (by decide) rfl rfl (ac (i7 C_law_way _ hr (by decide) (by rfl) (ac (c9 (pv 0)) (ac (c9 (pv 1)) b6)) (c5 (c5 i6))) (ac (i7 C_law_way _ hr (by decide) (by rfl) (ac (c9 (pv 1)) (ac (c9 (pv 2)) b6)) (c5 (c5 i6))) b6)) rfl) (j9 (l4 (G7 (D4 (C1 (u64 hr)) C4 (EO.b (j5 n9 o0 (EO.b (d0 c7 c8 (a9 (pv 3)) (EO.b a7) (fun _ _ => rfl))) (EO.b (d0 c7 c8 (a9 (pv 4)) (EO.b a7) (fun _ _ => rfl))))) (EO.b (j5 n9 o0 (EO.b (d0 c7 c8 (a9 (pv 3)) (EO.b a7) (fun _ _ => rfl))) (EO.b (d0 c7 c8 (a9 (pv 4)) (EO.b a7) (fun _ _ => rfl))))) (o8 _)) (J2 (D4 Q1 (B8 (fun i j => decide (j < i))) (EO.b (j5 D1 D5 (EO.b (j5 n9 o0 (EO.b (d0 c7 c8 (a9 (pv 3)) (EO.b a7) (fun _ _ => rfl))) (EO.b (d0 c7 c8 (a9 (pv 4)) (EO.b a7) (fun _ _ => rfl))))) (EO.b (j5 n9 o0 (EO.b (d0 c7 c8 (a9 (pv 3)) (EO.b a7) (fun _ _ => rfl))) (EO.b (d0 c7 c8 (a9 (pv 4)) (EO.b a7) (fun _ _ => rfl))))))) (EO.b a7) (o8 _)))))))
abbrev a19 : Stmt := top 42
theorem sc_law_chain : FnScope ["_law_tape", "_law_firsts", "_law_most", "_law_some", "_law_many", "_law_k", "_law_one", "_law_x", "_law_y"] ["_law_tape", "_law_firsts", "_law_most"] (l3 a19) := ⟨rfl,rfl,rfl,by decide +kernel,rfl,by decide +kernel,by decide +kernel⟩
set_option maxHeartbeats 4000000 in
theorem b3i {m_law_spot : DFn} {m_law_plus : DFn} {m_law_xy : DFn} {m_law_goes_on : DFn} {m_law_draw : DFn} {m_law_near : DFn} (C_law_spot : Cal P w K mg base 2 "_law_spot" ["_law_x", "_law_y"] m_law_spot) (C_law_plus : Cal P w K mg base 3 "_law_plus" ["_law_one", "_law_other"] m_law_plus) (C_law_xy : Cal P w K mg base 3 "_law_xy" ["_law_spot_here"] m_law_xy) (C_law_goes_on : Cal P w K mg base 2 "_law_goes_on" ["_law_a", "_law_b", "_law_c"] m_law_goes_on) (C_law_draw : Cal P w K mg base 1 "_law_draw" ["_law_tape", "_law_many"] m_law_draw) (C_law_near : Cal P w K mg base 3 "_law_near" ["_law_tape"] m_law_near) {f : Addr} {fd : FuncData} (B : Blt mg) (F : GF K mg "_law_chain" a19 f fd) : Cal P w K mg base 4 "_law_chain" ["_law_tape", "_law_firsts", "_law_most"] (a2y m_law_spot m_law_plus m_law_xy m_law_goes_on m_law_draw m_law_near):=
 r8 F (fun _ _ _ _ _ _ => on3 fun _ _ _ => rfl) sc_law_chain fun cdv A outer s H E g hr=>
  have nd := sc_law_chain.nd
  (i8 (D2 (i := 3) nd rfl (by first | exact Or.inl rfl | exact Or.inr rfl) (b2O b1u a91 (by rfl) B.list b3u (bc (a9 (pv 1)) u8))) (i8 (l8 (i := 4) nd rfl (by first | exact Or.inl rfl | exact Or.inr rfl) (j5 D1 D5 (EO.b a7) (EO.b (i7 C_law_draw _ hr (by decide) (by rfl) (ac (c9 (pv 0)) (ac (j5 E7 E6 (a9 (pv 2)) (EO.b a7)) b6)) (c5 (c5 i6)))))) (i8 (Z5 PassesOwn.never rfl (by rfl) B.range a7 (u4 (o7 (i := 5) nd rfl (by first | exact Or.inl rfl | exact Or.inr rfl))) (i8 (l8 (i := 6) nd rfl (by first | exact Or.inl rfl | exact Or.inr rfl) (L8 (v4 Q1 (B8 (fun i j => decide (j < i))) (EO.b (i7 C_law_draw _ hr (by decide) (by rfl) (ac (c9 (pv 0)) (ac a7 b6)) (c5 (c5 i6)))) (EO.b a7) (o8 _)) (i7 C_law_near _ hr (by decide) (by rfl) (ac (c9 (pv 0)) b6) (c5 i6)) (d0 c7 c8 (a9 (pv 3)) (EO.b (i7 C_law_draw _ hr (by decide) (by rfl) (ac (c9 (pv 0)) (ac (B6 D6 E1 (by rfl) B.len E2 (bc (a9 (pv 3)) u8)) b6)) (c5 (c5 i6)))) (fun _ _ => rfl)))) (j9 (A8 (WO.t (Y6 (v4 G1 (B8 (fun i j => decide (i < j))) (EO.b (B6 D6 E1 (by rfl) B.len E2 (bc (a9 (pv 3)) u8))) (a9 (pv 4)) (o8 _)) (Y6 (v4 (U8 (u64 hr)) X3 (a9 (pv 6)) (EO.b (d0 c7 c8 (a9 (pv 3)) (EO.b (A2 A0 A4 (EO.b a7))) (fun _ _ => rfl))) (o8 _)) (a1j (WO.t (a2b (v4 G1 (B8 (fun i j => decide (i < j))) (EO.b (B6 D6 E1 (by rfl) B.len E2 (bc (a9 (pv 3)) u8))) (EO.b a7) (o8 _)) (a3o (a0M (F9 (EO.b (i7 C_law_goes_on _ hr (by decide) (by rfl) (ac (d0 c7 c8 (a9 (pv 3)) (EO.b (A2 A0 A4 (EO.b a7))) (fun _ _ => rfl)) (ac (d0 c7 c8 (a9 (pv 3)) (EO.b (A2 A0 A4 (EO.b a7))) (fun _ _ => rfl)) (ac (c9 (pv 6)) b6))) (c5 (c5 (c5 i6)))))))))))))) (j9 (U3 (pv 3) (c9 (pv 6)))) B0)))) (i8 (A8 (v4 G1 (B8 (fun i j => decide (i < j))) (EO.b (B6 D6 E1 (by rfl) B.len E2 (bc (a9 (pv 3)) u8))) (EO.b a7) (o8 _)) (i8 (K5 (i7 C_law_xy _ hr (by decide) (by rfl) (ac (d0 c7 c8 (a9 (pv 3)) (EO.b a7) (fun _ _ => rfl)) b6) (c5 i6)) (E9 rfl (v5 (u4 (o7 (i := 7) nd rfl (by first | exact Or.inl rfl | exact Or.inr rfl))) (v5 (u4 (o7 (i := 8) nd rfl (by first | exact Or.inl rfl | exact Or.inr rfl))) F0)))) (j9 (U3 (pv 3) (i7 C_law_spot _ hr (by decide) (by rfl) (ac (c9 (pv 7)) (ac (i7 C_law_plus _ hr (by decide) (by rfl) (ac (c9 (pv 8)) (ac (j3 (ac a7 (ac a7 b6))) b6)) (c5 (c5 i6))) b6)) (c5 (c5 i6)))))) B0) (j9 (l4 (N8 W1 V8 (by rfl) B.tuple V6 (bc (a9 (pv 3)) u8))))))))
abbrev a1Q : Stmt := top 43
theorem sc_law_any : FnScope ["_law_tape", "_law_most", "_law_firsts", "_law_some", "_law_can"] ["_law_tape", "_law_most"] (l3 a1Q) := ⟨rfl,rfl,rfl,by decide +kernel,rfl,by decide +kernel,by decide +kernel⟩
set_option maxHeartbeats 4000000 in
theorem b26 {m_law_draw : DFn} {m_law_goes_on : DFn} {m_law_chain : DFn} {m_law_near : DFn} (C_law_draw : Cal P w K mg base 1 "_law_draw" ["_law_tape", "_law_many"] m_law_draw) (C_law_goes_on : Cal P w K mg base 2 "_law_goes_on" ["_law_a", "_law_b", "_law_c"] m_law_goes_on) (C_law_chain : Cal P w K mg base 4 "_law_chain" ["_law_tape", "_law_firsts", "_law_most"] m_law_chain) (C_law_near : Cal P w K mg base 3 "_law_near" ["_law_tape"] m_law_near) {f : Addr} {fd : FuncData} (B : Blt mg) (F : GF K mg "_law_any" a1Q f fd) : Cal P w K mg base 5 "_law_any" ["_law_tape", "_law_most"] (a18 m_law_draw m_law_goes_on m_law_chain m_law_near):=
 r8 F (fun _ _ _ _ _ _ => on2 fun _ _ => rfl) sc_law_any fun cdv A outer s H E g hr=>
  have nd := sc_law_any.nd
  (i8 (D2 (i := 2) nd rfl (by first | exact Or.inl rfl | exact Or.inr rfl) (w9 (ac (i7 C_law_near _ hr (by decide) (by rfl) (ac (c9 (pv 0)) b6) (c5 i6)) b6))) (i8 (A8 (v4 (C1 (u64 hr)) C4 (EO.b (i7 C_law_draw _ hr (by decide) (by rfl) (ac (c9 (pv 0)) (ac a7 b6)) (c5 (c5 i6)))) (EO.b a7) (o8 _)) (j9 (D2 (i := 2) nd rfl (by first | exact Or.inl rfl | exact Or.inr rfl) (w9 (ac (d0 c7 c8 (EO.b (FO.v (w9 (ac (j3 (ac a7 (ac (A2 A0 A4 (EO.b a7)) (ac a7 b6)))) (ac (j3 (ac (A2 A0 A4 (EO.b (j5 a05 a0J (EO.b a7) (EO.b a7)))) (ac a7 (ac a7 b6)))) (ac (j3 (ac (j5 a05 a0J (EO.b a7) (EO.b a7)) (ac (A2 A0 A4 (EO.b a7)) (ac a7 b6)))) b6)))))) (EO.b (i7 C_law_draw _ hr (by decide) (by rfl) (ac (c9 (pv 0)) (ac a7 b6)) (c5 (c5 i6)))) (fun _ _ => rfl)) b6)))) B0) (i8 (l8 (i := 3) nd rfl (by first | exact Or.inl rfl | exact Or.inr rfl) (i7 C_law_chain _ hr (by decide) (by rfl) (ac (c9 (pv 0)) (ac (c9 (pv 2)) (ac (c9 (pv 1)) b6))) (c5 (c5 (c5 i6))))) (i8 (l8 (i := 4) nd rfl (by first | exact Or.inl rfl | exact Or.inr rfl) (G7 (a7L G1 (B8 (fun i j => decide (i < j))) G1 (B8 (fun i j => decide (i < j))) (EO.b a7) (EO.b (B6 D6 E1 (by rfl) B.len E2 (bc (a9 (pv 3)) u8))) (EO.b a7)) (G7 (D4 (U8 (u64 hr)) X3 (EO.b (d0 c7 c8 (a9 (pv 3)) (EO.b a7) (fun _ _ => rfl))) (EO.b (d0 c7 c8 (a9 (pv 3)) (EO.b (A2 A0 A4 (EO.b a7))) (fun _ _ => rfl))) (o8 _)) (J2 (a2U (i7 C_law_goes_on _ hr (by decide) (by rfl) (ac (d0 c7 c8 (a9 (pv 3)) (EO.b (A2 A0 A4 (EO.b a7))) (fun _ _ => rfl)) (ac (d0 c7 c8 (a9 (pv 3)) (EO.b (A2 A0 A4 (EO.b a7))) (fun _ _ => rfl)) (ac (d0 c7 c8 (a9 (pv 3)) (EO.b a7) (fun _ _ => rfl)) b6))) (c5 (c5 (c5 i6))))))))) (i8 (l8 (i := 4) nd rfl (by first | exact Or.inl rfl | exact Or.inr rfl) (G7 (c9 (pv 4)) (J2 (a2U (i7 C_law_goes_on _ hr (by decide) (by rfl) (ac (d0 c7 c8 (a9 (pv 3)) (EO.b (A2 A0 A4 (EO.b a7))) (fun _ _ => rfl)) (ac (d0 c7 c8 (a9 (pv 3)) (EO.b a7) (fun _ _ => rfl)) (ac (d0 c7 c8 (a9 (pv 3)) (EO.b a7) (fun _ _ => rfl)) b6))) (c5 (c5 (c5 i6)))))))) (j9 (l4 (j3 (ac (G7 (c9 (pv 4)) (J2 (D4 (C1 (u64 hr)) C4 (EO.b (i7 C_law_draw _ hr (by decide) (by rfl) (ac (c9 (pv 0)) (ac a7 b6)) (c5 (c5 i6)))) (EO.b a7) (o8 _)))) (ac (c9 (pv 3)) b6))))))))))
abbrev a23 : Stmt := top 8
theorem sc_neighbours : FnScope ["row", "closed"] ["row", "closed"] (l3 a23) := ⟨rfl,rfl,rfl,by decide +kernel,rfl,by decide +kernel,by decide +kernel⟩
set_option maxHeartbeats 4000000 in
theorem a9h {f : Addr} {fd : FuncData} (B : Blt mg) (F : GF K mg "neighbours" a23 f fd) : Cal P w K mg base 1 "neighbours" ["row", "closed"] (Y4):=
 r8 F (fun _ _ _ _ _ _ => on2 fun _ _ => rfl) sc_neighbours fun cdv A outer s H E g hr=>
  have nd := sc_neighbours.nd
  (i8 (A8 (F9 (a9 (pv 1))) (j9 (l4 (FO.v (a57 rfl (by rfl) B.list (by rfl) B.zip (bc (a9 (pv 0)) (bc (EO.b (j5 D1 D5 (EO.b (Z8 (a9 (pv 0)) (a0b (EO.b a7)) a0i)) (EO.b (Z8 (a9 (pv 0)) a0i (a0b (EO.b a7)))))) u8)))))) B0) (j9 (l4 (FO.v (a57 rfl (by rfl) B.list (by rfl) B.zip (bc (a9 (pv 0)) (bc (EO.b (Z8 (a9 (pv 0)) (a0b (EO.b a7)) a0i)) u8)))))))
abbrev a1A : Stmt := top 15
theorem sc_pieces : FnScope ["line"] ["line"] (l3 a1A) := ⟨rfl,rfl,rfl,by decide +kernel,rfl,by decide +kernel,by decide +kernel⟩
set_option maxHeartbeats 4000000 in
theorem b2J {m_neighbours : DFn} (C_neighbours : Cal P w K mg base 1 "neighbours" ["row", "closed"] m_neighbours) {f : Addr} {fd : FuncData} (B : Blt mg) (F : GF K mg "pieces" a1A f fd) : Cal P w K mg base 2 "pieces" ["line"] (a1G m_neighbours):=
 r8 F (fun _ _ _ _ _ _ => on1 fun _ => rfl) sc_pieces fun cdv A outer s H E g hr=>
  have nd := sc_pieces.nd
  (j9 (l4 (N8 W1 V8 (by rfl) B.tuple V6 (bc (EO.b (i7 C_neighbours _ hr (by decide) (by rfl) (ac (d0 c7 c8 (a9 (pv 0)) (EO.b a7) (fun _ _ => rfl)) (ac (d0 c7 c8 (a9 (pv 0)) (EO.b a7) (fun _ _ => rfl)) b6)) (c5 (c5 i6)))) u8))))
abbrev a2r : Stmt := top 10
theorem sc_upright : FnScope ["one", "other"] ["one", "other"] (l3 a2r) := ⟨rfl,rfl,rfl,by decide +kernel,rfl,by decide +kernel,by decide +kernel⟩
set_option maxHeartbeats 4000000 in
theorem b1j {f : Addr} {fd : FuncData} (B : Blt mg) (F : GF K mg "upright" a2r f fd) : Cal P w K mg base 1 "upright" ["one", "other"] (W6):=
 r8 F (fun _ _ _ _ _ _ => on2 fun _ _ => rfl) sc_upright fun cdv A outer s H E g hr=>
  have nd := sc_upright.nd
  (j9 (l4 (j3 (ac (j5 E7 E6 (EO.b (j5 n9 o0 (EO.b (d0 c7 c8 (a9 (pv 0)) (EO.b a7) (fun _ _ => rfl))) (EO.b (d0 c7 c8 (a9 (pv 1)) (EO.b a7) (fun _ _ => rfl))))) (EO.b (j5 n9 o0 (EO.b (d0 c7 c8 (a9 (pv 0)) (EO.b a7) (fun _ _ => rfl))) (EO.b (d0 c7 c8 (a9 (pv 1)) (EO.b a7) (fun _ _ => rfl)))))) (ac (j5 E7 E6 (EO.b (j5 n9 o0 (EO.b (d0 c7 c8 (a9 (pv 0)) (EO.b a7) (fun _ _ => rfl))) (EO.b (d0 c7 c8 (a9 (pv 1)) (EO.b a7) (fun _ _ => rfl))))) (EO.b (j5 n9 o0 (EO.b (d0 c7 c8 (a9 (pv 0)) (EO.b a7) (fun _ _ => rfl))) (EO.b (d0 c7 c8 (a9 (pv 1)) (EO.b a7) (fun _ _ => rfl)))))) (ac (j5 E7 E6 (EO.b (j5 n9 o0 (EO.b (d0 c7 c8 (a9 (pv 0)) (EO.b a7) (fun _ _ => rfl))) (EO.b (d0 c7 c8 (a9 (pv 1)) (EO.b a7) (fun _ _ => rfl))))) (EO.b (j5 n9 o0 (EO.b (d0 c7 c8 (a9 (pv 0)) (EO.b a7) (fun _ _ => rfl))) (EO.b (d0 c7 c8 (a9 (pv 1)) (EO.b a7) (fun _ _ => rfl)))))) b6))))))
abbrev a3j : Stmt := top 11
theorem sc_straight : FnScope ["a", "b"] ["a", "b"] (l3 a3j) := ⟨rfl,rfl,rfl,by decide +kernel,rfl,by decide +kernel,by decide +kernel⟩
set_option maxHeartbeats 4000000 in
theorem a9O {m_upright : DFn} (C_upright : Cal P w K mg base 1 "upright" ["one", "other"] m_upright) {f : Addr} {fd : FuncData} (B : Blt mg) (F : GF K mg "straight" a3j f fd) : Cal P w K mg base 2 "straight" ["a", "b"] (a3R m_upright):=
 r8 F (fun _ _ _ _ _ _ => on2 fun _ _ => rfl) sc_straight fun cdv A outer s H E g hr=>
  have nd := sc_straight.nd
  (j9 (l4 (i7 C_upright _ hr (by decide) (by rfl) (ac (c9 (pv 0)) (ac (c9 (pv 1)) b6)) (c5 (c5 i6)))))
abbrev a3D : Stmt := top 6
theorem sc_sign : FnScope ["number"] ["number"] (l3 a3D) := ⟨rfl,rfl,rfl,by decide +kernel,rfl,by decide +kernel,by decide +kernel⟩
set_option maxHeartbeats 4000000 in
theorem b2c {f : Addr} {fd : FuncData} (B : Blt mg) (F : GF K mg "sign" a3D f fd) : Cal P w K mg base 1 "sign" ["number"] (a1s):=
 r8 F (fun _ _ _ _ _ _ => on1 fun _ => rfl) sc_sign fun cdv A outer s H E g hr=>
  have nd := sc_sign.nd
  (i8 (A8 (v4 Q1 (B8 (fun i j => decide (j < i))) (a9 (pv 0)) (EO.b a7) (o8 _)) (j9 (l4 a7)) B0) (i8 (A8 (v4 G1 (B8 (fun i j => decide (i < j))) (a9 (pv 0)) (EO.b a7) (o8 _)) (j9 (l4 (A2 A0 A4 (EO.b a7)))) B0) (j9 (l4 a7))))
abbrev a4b : Stmt := top 12
theorem sc_side_of : FnScope ["line", "one"] ["line", "one"] (l3 a4b) := ⟨rfl,rfl,rfl,by decide +kernel,rfl,by decide +kernel,by decide +kernel⟩
set_option maxHeartbeats 4000000 in
theorem b3T {m_sign : DFn} (C_sign : Cal P w K mg base 1 "sign" ["number"] m_sign) {f : Addr} {fd : FuncData} (B : Blt mg) (F : GF K mg "side_of" a4b f fd) : Cal P w K mg base 2 "side_of" ["line", "one"] (a3v m_sign):=
 r8 F (fun _ _ _ _ _ _ => on2 fun _ _ => rfl) sc_side_of fun cdv A outer s H E g hr=>
  have nd := sc_side_of.nd
  (j9 (l4 (i7 C_sign _ hr (by decide) (by rfl) (ac (j5 D1 D5 (EO.b (j5 D1 D5 (EO.b (j5 n9 o0 (EO.b (d0 c7 c8 (a9 (pv 0)) (EO.b a7) (fun _ _ => rfl))) (EO.b (d0 c7 c8 (a9 (pv 1)) (EO.b a7) (fun _ _ => rfl))))) (EO.b (j5 n9 o0 (EO.b (d0 c7 c8 (a9 (pv 0)) (EO.b a7) (fun _ _ => rfl))) (EO.b (d0 c7 c8 (a9 (pv 1)) (EO.b a7) (fun _ _ => rfl))))))) (EO.b (j5 n9 o0 (EO.b (d0 c7 c8 (a9 (pv 0)) (EO.b a7) (fun _ _ => rfl))) (EO.b (d0 c7 c8 (a9 (pv 1)) (EO.b a7) (fun _ _ => rfl)))))) b6) (c5 i6))))
abbrev a3w : Stmt := top 5
theorem sc_is_lesser : FnScope ["one", "other", "here", "there"] ["one", "other"] (l3 a3w) := ⟨rfl,rfl,rfl,by decide +kernel,rfl,by decide +kernel,by decide +kernel⟩
set_option maxHeartbeats 4000000 in
theorem b3Q {f : Addr} {fd : FuncData} (B : Blt mg) (F : GF K mg "is_lesser" a3w f fd) : Cal P w K mg base 1 "is_lesser" ["one", "other"] (N2):=
 r8 F (fun _ _ _ _ _ _ => on2 fun _ _ => rfl) sc_is_lesser fun cdv A outer s H E g hr=>
  have nd := sc_is_lesser.nd
  (i8 (l8 (i := 2) nd rfl (by first | exact Or.inl rfl | exact Or.inr rfl) (j5 n9 o0 (EO.b (d0 c7 c8 (a9 (pv 0)) (EO.b a7) (fun _ _ => rfl))) (EO.b (d0 c7 c8 (a9 (pv 1)) (EO.b a7) (fun _ _ => rfl))))) (i8 (l8 (i := 3) nd rfl (by first | exact Or.inl rfl | exact Or.inr rfl) (j5 n9 o0 (EO.b (d0 c7 c8 (a9 (pv 1)) (EO.b a7) (fun _ _ => rfl))) (EO.b (d0 c7 c8 (a9 (pv 0)) (EO.b a7) (fun _ _ => rfl))))) (i8 (A8 (v4 (U8 (u64 hr)) X3 (a9 (pv 2)) (a9 (pv 3)) (o8 _)) (j9 (l4 (D4 G1 (B8 (fun i j => decide (i < j))) (a9 (pv 2)) (a9 (pv 3)) (o8 _)))) B0) (j9 (l4 (D4 G1 (B8 (fun i j => decide (i < j))) (EO.b (j5 n9 o0 (EO.b (d0 c7 c8 (a9 (pv 0)) (EO.b a7) (fun _ _ => rfl))) (EO.b (d0 c7 c8 (a9 (pv 1)) (EO.b a7) (fun _ _ => rfl))))) (EO.b (j5 n9 o0 (EO.b (d0 c7 c8 (a9 (pv 1)) (EO.b a7) (fun _ _ => rfl))) (EO.b (d0 c7 c8 (a9 (pv 0)) (EO.b a7) (fun _ _ => rfl))))) (o8 _)))))))
abbrev a2i : Stmt := top 18
theorem sc_common_along : FnScope ["one", "other", "low", "high"] ["one", "other"] (l3 a2i) := ⟨rfl,rfl,rfl,by decide +kernel,rfl,by decide +kernel,by decide +kernel⟩
set_option maxHeartbeats 4000000 in
theorem a8Q {m_is_lesser : DFn} (C_is_lesser : Cal P w K mg base 1 "is_lesser" ["one", "other"] m_is_lesser) {f : Addr} {fd : FuncData} (B : Blt mg) (F : GF K mg "common_along" a2i f fd) : Cal P w K mg base 2 "common_along" ["one", "other"] (a3c m_is_lesser):=
 r8 F (fun _ _ _ _ _ _ => on2 fun _ _ => rfl) sc_common_along fun cdv A outer s H E g hr=>
  have nd := sc_common_along.nd
  (i8 (l8 (i := 2) nd rfl (by first | exact Or.inl rfl | exact Or.inr rfl) (L8 (F9 (EO.b (i7 C_is_lesser _ hr (by decide) (by rfl) (ac (d0 c7 c8 (a9 (pv 0)) (EO.b a7) (fun _ _ => rfl)) (ac (d0 c7 c8 (a9 (pv 1)) (EO.b a7) (fun _ _ => rfl)) b6)) (c5 (c5 i6))))) (d0 c7 c8 (a9 (pv 1)) (EO.b a7) (fun _ _ => rfl)) (d0 c7 c8 (a9 (pv 0)) (EO.b a7) (fun _ _ => rfl)))) (i8 (l8 (i := 3) nd rfl (by first | exact Or.inl rfl | exact Or.inr rfl) (L8 (F9 (EO.b (i7 C_is_lesser _ hr (by decide) (by rfl) (ac (d0 c7 c8 (a9 (pv 0)) (EO.b a7) (fun _ _ => rfl)) (ac (d0 c7 c8 (a9 (pv 1)) (EO.b a7) (fun _ _ => rfl)) b6)) (c5 (c5 i6))))) (d0 c7 c8 (a9 (pv 0)) (EO.b a7) (fun _ _ => rfl)) (d0 c7 c8 (a9 (pv 1)) (EO.b a7) (fun _ _ => rfl)))) (i8 (A8 (F9 (EO.b (i7 C_is_lesser _ hr (by decide) (by rfl) (ac (c9 (pv 3)) (ac (c9 (pv 2)) b6)) (c5 (c5 i6))))) (j9 (l4 M5)) B0) (i8 (A8 (v4 (C1 (u64 hr)) C4 (a9 (pv 2)) (a9 (pv 3)) (o8 _)) (j9 (l4 (j3 (ac (M9 (by decide +kernel)) (ac (c9 (pv 2)) b6))))) B0) (j9 (l4 (j3 (ac (M9 (by decide +kernel)) (ac (c9 (pv 2)) (ac (c9 (pv 3)) b6))))))))))
abbrev a26 : Stmt := top 1
theorem sc_divisor_of_two : FnScope ["one", "other", "greater", "rest", "left_over"] ["one", "other"] (l3 a26) := ⟨rfl,rfl,rfl,by decide +kernel,rfl,by decide +kernel,by decide +kernel⟩
set_option maxHeartbeats 4000000 in
theorem b4e {f : Addr} {fd : FuncData} (B : Blt mg) (F : GF K mg "divisor_of_two" a26 f fd) : Cal P w K mg base 1 "divisor_of_two" ["one", "other"] (F5):=
 r8 F (fun _ _ _ _ _ _ => on2 fun _ _ => rfl) sc_divisor_of_two fun cdv A outer s H E g hr=>
  have nd := sc_divisor_of_two.nd
  (i8 (l8 (i := 2) nd rfl (by first | exact Or.inl rfl | exact Or.inr rfl) (B6 a0L a08 (by rfl) B.abs a1c (bc (a9 (pv 0)) u8))) (i8 (l8 (i := 3) nd rfl (by first | exact Or.inl rfl | exact Or.inr rfl) (B6 a0L a08 (by rfl) B.abs a1c (bc (a9 (pv 1)) u8))) (i8 (a6t PassesOwn.never (v4 (U8 (u64 hr)) X3 (a9 (pv 3)) (EO.b a7) (o8 _)) (i8 (l8 (i := 4) nd rfl (by first | exact Or.inl rfl | exact Or.inr rfl) (j5 J6 K1 (a9 (pv 2)) (a9 (pv 3)))) (i8 (l8 (i := 2) nd rfl (by first | exact Or.inl rfl | exact Or.inr rfl) (c9 (pv 3))) (j9 (l8 (i := 3) nd rfl (by first | exact Or.inl rfl | exact Or.inr rfl) (c9 (pv 4))))))) (j9 (l4 (c9 (pv 2)))))))
abbrev a1x : Stmt := top 2
theorem sc_divisor : FnScope ["parts", "shared", "part"] ["parts"] (l3 a1x) := ⟨rfl,rfl,rfl,by decide +kernel,rfl,by decide +kernel,by decide +kernel⟩
set_option maxHeartbeats 4000000 in
theorem b31 {m_divisor_of_two : DFn} (C_divisor_of_two : Cal P w K mg base 1 "divisor_of_two" ["one", "other"] m_divisor_of_two) {f : Addr} {fd : FuncData} (B : Blt mg) (F : GF K mg "divisor" a1x f fd) : Cal P w K mg base 2 "divisor" ["parts"] (T3 m_divisor_of_two):=
 r8 F (fun _ _ _ _ _ _ => on1 fun _ => rfl) sc_divisor fun cdv A outer s H E g hr=>
  have nd := sc_divisor.nd
  (i8 (l8 (i := 1) nd rfl (by first | exact Or.inl rfl | exact Or.inr rfl) a7) (i8 (a4e PassesOwn.never rfl (c9 (pv 0)) (u4 (o7 (i := 2) nd rfl (by first | exact Or.inl rfl | exact Or.inr rfl))) (j9 (l8 (i := 1) nd rfl (by first | exact Or.inl rfl | exact Or.inr rfl) (i7 C_divisor_of_two _ hr (by decide) (by rfl) (ac (c9 (pv 1)) (ac (c9 (pv 2)) b6)) (c5 (c5 i6)))))) (j9 (l4 (c9 (pv 1))))))
abbrev a35 : Stmt := top 3
theorem sc_lowest : FnScope ["parts", "shared"] ["parts"] (l3 a35) := ⟨rfl,rfl,rfl,by decide +kernel,rfl,by decide +kernel,by decide +kernel⟩
set_option maxHeartbeats 4000000 in
theorem b21 {m_divisor : DFn} (C_divisor : Cal P w K mg base 2 "divisor" ["parts"] m_divisor) {f : Addr} {fd : FuncData} (B : Blt mg) (F : GF K mg "lowest" a35 f fd) : Cal P w K mg base 3 "lowest" ["parts"] (a3B m_divisor):=
 r8 F (fun _ _ _ _ _ _ => on1 fun _ => rfl) sc_lowest fun cdv A outer s H E g hr=>
  have nd := sc_lowest.nd
  (i8 (l8 (i := 1) nd rfl (by first | exact Or.inl rfl | exact Or.inr rfl) (i7 C_divisor _ hr (by decide) (by rfl) (ac (c9 (pv 0)) b6) (c5 i6))) (i8 (A8 (v4 G1 (B8 (fun i j => decide (i < j))) (EO.b (d0 c7 c8 (a9 (pv 0)) (EO.b (A2 A0 A4 (EO.b a7))) (fun _ _ => rfl))) (EO.b a7) (o8 _)) (j9 (l8 (i := 1) nd rfl (by first | exact Or.inl rfl | exact Or.inr rfl) (A2 A0 A4 (a9 (pv 1))))) B0) (j9 (l4 (N8 W1 V8 (by rfl) B.tuple V6 (bc (EO.b (FO.v (a3I (N' := ["part", "shared"]) (idx := [1]) rfl (O0 (by rfl) (.cons rfl .nil) (by decide +kernel) rfl (by decide +kernel) (by rfl) (.cons rfl (by first | exact Or.inl rfl | exact Or.inr rfl) (by first | exact Or.inl rfl | exact Or.inr rfl) .nil)) (M2 (c9 (pv 0))) (fun _ _ _ _ => o7 (i := 0) (show List.Nodup (["part", "shared"] : List Str) by decide +kernel) rfl (Or.inl rfl)) (fun _ _ _ _ _ => L1) (fun _ _ _ _ _ => (j5 T2 T9 (a9 (pv 0)) (a9 (pv 1))))))) u8))))))
abbrev a2C : Stmt := top 13
theorem sc_crossing : FnScope ["line", "other"] ["line", "other"] (l3 a2C) := ⟨rfl,rfl,rfl,by decide +kernel,rfl,by decide +kernel,by decide +kernel⟩
set_option maxHeartbeats 4000000 in
theorem b0Y {m_lowest : DFn} {m_upright : DFn} (C_lowest : Cal P w K mg base 3 "lowest" ["parts"] m_lowest) (C_upright : Cal P w K mg base 1 "upright" ["one", "other"] m_upright) {f : Addr} {fd : FuncData} (B : Blt mg) (F : GF K mg "crossing" a2C f fd) : Cal P w K mg base 4 "crossing" ["line", "other"] (a1V m_lowest m_upright):=
 r8 F (fun _ _ _ _ _ _ => on2 fun _ _ => rfl) sc_crossing fun cdv A outer s H E g hr=>
  have nd := sc_crossing.nd
  (j9 (l4 (i7 C_lowest _ hr (by decide) (by rfl) (ac (i7 C_upright _ hr (by decide) (by rfl) (ac (c9 (pv 0)) (ac (c9 (pv 1)) b6)) (c5 (c5 i6))) b6) (c5 i6))))
abbrev a2B : Stmt := top 9
theorem sc_span : FnScope ["a", "b"] ["a", "b"] (l3 a2B) := ⟨rfl,rfl,rfl,by decide +kernel,rfl,by decide +kernel,by decide +kernel⟩
set_option maxHeartbeats 4000000 in
theorem b3z {m_is_lesser : DFn} (C_is_lesser : Cal P w K mg base 1 "is_lesser" ["one", "other"] m_is_lesser) {f : Addr} {fd : FuncData} (B : Blt mg) (F : GF K mg "span" a2B f fd) : Cal P w K mg base 2 "span" ["a", "b"] (a0k m_is_lesser):=
 r8 F (fun _ _ _ _ _ _ => on2 fun _ _ => rfl) sc_span fun cdv A outer s H E g hr=>
  have nd := sc_span.nd
  (j9 (l4 (L8 (F9 (EO.b (i7 C_is_lesser _ hr (by decide) (by rfl) (ac (c9 (pv 0)) (ac (c9 (pv 1)) b6)) (c5 (c5 i6))))) (j3 (ac (c9 (pv 0)) (ac (c9 (pv 1)) b6))) (j3 (ac (c9 (pv 1)) (ac (c9 (pv 0)) b6))))))
abbrev a2d : Stmt := top 17
theorem sc_common : FnScope ["one", "other", "line", "other_line", "sides", "other_sides"] ["one", "other"] (l3 a2d) := ⟨rfl,rfl,rfl,by decide +kernel,rfl,by decide +kernel,by decide +kernel⟩
set_option maxHeartbeats 4000000 in
theorem b2W {m_crossing : DFn} {m_side_of : DFn} {m_common_along : DFn} {m_span : DFn} {m_straight : DFn} (C_crossing : Cal P w K mg base 4 "crossing" ["line", "other"] m_crossing) (C_side_of : Cal P w K mg base 2 "side_of" ["line", "one"] m_side_of) (C_common_along : Cal P w K mg base 2 "common_along" ["one", "other"] m_common_along) (C_span : Cal P w K mg base 2 "span" ["a", "b"] m_span) (C_straight : Cal P w K mg base 2 "straight" ["a", "b"] m_straight) {f : Addr} {fd : FuncData} (B : Blt mg) (F : GF K mg "common" a2d f fd) : Cal P w K mg base 5 "common" ["one", "other"] (a3U m_crossing m_side_of m_common_along m_span m_straight):=
 r8 F (fun _ _ _ _ _ _ => on2 fun _ _ => rfl) sc_common fun cdv A outer s H E g hr=>
  have nd := sc_common.nd
  (i8 (l8 (i := 2) nd rfl (by first | exact Or.inl rfl | exact Or.inr rfl) (i7 C_straight _ hr (by decide) (by rfl) (ac (d0 c7 c8 (a9 (pv 0)) (EO.b a7) (fun _ _ => rfl)) (ac (d0 c7 c8 (a9 (pv 0)) (EO.b a7) (fun _ _ => rfl)) b6)) (c5 (c5 i6)))) (i8 (l8 (i := 3) nd rfl (by first | exact Or.inl rfl | exact Or.inr rfl) (i7 C_straight _ hr (by decide) (by rfl) (ac (d0 c7 c8 (a9 (pv 1)) (EO.b a7) (fun _ _ => rfl)) (ac (d0 c7 c8 (a9 (pv 1)) (EO.b a7) (fun _ _ => rfl)) b6)) (c5 (c5 i6)))) (i8 (W9 (i := 4) nd rfl (by first | exact Or.inl rfl | exact Or.inr rfl) (X5 (N' := ["end", "line"]) (idx := [2]) rfl (O0 (by rfl) (.cons rfl .nil) (by decide +kernel) rfl (by decide +kernel) (by rfl) (.cons rfl (by first | exact Or.inl rfl | exact Or.inr rfl) (by first | exact Or.inl rfl | exact Or.inr rfl) .nil)) (M2 (c9 (pv 1))) (fun _ _ _ _ => o7 (i := 0) (show List.Nodup (["end", "line"] : List Str) by decide +kernel) rfl (Or.inl rfl)) (fun _ _ _ _ _ => L1) (fun _ _ _ _ _ => (i7 C_side_of _ hr (by decide) (by rfl) (ac (c9 (pv 1)) (ac (c9 (pv 0)) b6)) (c5 (c5 i6)))))) (i8 (A8 (v4 (C1 (u64 hr)) C4 (a9 (pv 4)) (EO.b (FO.v (w9 (ac a7 (ac a7 b6))))) (o8 _)) (j9 (l4 (i7 C_common_along _ hr (by decide) (by rfl) (ac (i7 C_span _ hr (by decide) (by rfl) (ac (d0 c7 c8 (a9 (pv 0)) (EO.b a7) (fun _ _ => rfl)) (ac (d0 c7 c8 (a9 (pv 0)) (EO.b a7) (fun _ _ => rfl)) b6)) (c5 (c5 i6))) (ac (i7 C_span _ hr (by decide) (by rfl) (ac (d0 c7 c8 (a9 (pv 1)) (EO.b a7) (fun _ _ => rfl)) (ac (d0 c7 c8 (a9 (pv 1)) (EO.b a7) (fun _ _ => rfl)) b6)) (c5 (c5 i6))) b6)) (c5 (c5 i6))))) B0) (i8 (W9 (i := 5) nd rfl (by first | exact Or.inl rfl | exact Or.inr rfl) (X5 (N' := ["end", "other_line"]) (idx := [3]) rfl (O0 (by rfl) (.cons rfl .nil) (by decide +kernel) rfl (by decide +kernel) (by rfl) (.cons rfl (by first | exact Or.inl rfl | exact Or.inr rfl) (by first | exact Or.inl rfl | exact Or.inr rfl) .nil)) (M2 (c9 (pv 0))) (fun _ _ _ _ => o7 (i := 0) (show List.Nodup (["end", "other_line"] : List Str) by decide +kernel) rfl (Or.inl rfl)) (fun _ _ _ _ _ => L1) (fun _ _ _ _ _ => (i7 C_side_of _ hr (by decide) (by rfl) (ac (c9 (pv 1)) (ac (c9 (pv 0)) b6)) (c5 (c5 i6)))))) (i8 (A8 (WO.t (a2b (v4 (C1 (u64 hr)) C4 (EO.b (j5 n9 o0 (EO.b (d0 c7 c8 (a9 (pv 4)) (EO.b a7) (fun _ _ => rfl))) (EO.b (d0 c7 c8 (a9 (pv 4)) (EO.b a7) (fun _ _ => rfl))))) (EO.b a7) (o8 _)) (a3o (v4 (C1 (u64 hr)) C4 (EO.b (j5 n9 o0 (EO.b (d0 c7 c8 (a9 (pv 5)) (EO.b a7) (fun _ _ => rfl))) (EO.b (d0 c7 c8 (a9 (pv 5)) (EO.b a7) (fun _ _ => rfl))))) (EO.b a7) (o8 _))))) (j9 (l4 M5)) B0) (j9 (l4 (j3 (ac (M9 (by decide +kernel)) (ac (i7 C_crossing _ hr (by decide) (by rfl) (ac (c9 (pv 2)) (ac (c9 (pv 3)) b6)) (c5 (c5 i6))) b6)))))))))))
abbrev a2h : Stmt := top 20
theorem sc_is_mere_joint : FnScope ["line", "i", "j", "what", "is_next"] ["line", "i", "j", "what"] (l3 a2h) := ⟨rfl,rfl,rfl,by decide +kernel,rfl,by decide +kernel,by decide +kernel⟩
set_option maxHeartbeats 4000000 in
theorem b37 {f : Addr} {fd : FuncData} (B : Blt mg) (F : GF K mg "is_mere_joint" a2h f fd) : Cal P w K mg base 1 "is_mere_joint" ["line", "i", "j", "what"] (M6):=
 r8 F (fun _ _ _ _ _ _ => on4 fun _ _ _ _ => rfl) sc_is_mere_joint fun cdv A outer s H E g hr=>
  have nd := sc_is_mere_joint.nd
  (i8 (l8 (i := 4) nd rfl (by first | exact Or.inl rfl | exact Or.inr rfl) (a5l (D4 (C1 (u64 hr)) C4 (a9 (pv 2)) (EO.b (j5 D1 D5 (a9 (pv 1)) (EO.b a7))) (o8 _)) (J2 (G7 (d0 c7 c8 (a9 (pv 0)) (EO.b a7) (fun _ _ => rfl)) (G7 (D4 (C1 (u64 hr)) C4 (a9 (pv 1)) (EO.b a7) (o8 _)) (J2 (D4 (C1 (u64 hr)) C4 (a9 (pv 2)) (EO.b (j5 E7 E6 (EO.b (B6 D6 E1 (by rfl) B.len E2 (bc (EO.b (d0 c7 c8 (a9 (pv 0)) (EO.b a7) (fun _ _ => rfl))) u8))) (EO.b a7))) (o8 _)))))))) (j9 (l4 (G7 (c9 (pv 4)) (J2 (D4 (C1 (u64 hr)) C4 (EO.b (d0 c7 c8 (a9 (pv 3)) (EO.b a7) (fun _ _ => rfl))) (EO.b (M9 (by decide +kernel))) (o8 _)))))))
abbrev a2K : Stmt := top 19
theorem sc_crossings : FnScope ["line", "row", "told", "i", "one", "j", "what"] ["line"] (l3 a2K) := ⟨rfl,rfl,rfl,by decide +kernel,rfl,by decide +kernel,by decide +kernel⟩
set_option maxHeartbeats 4000000 in
theorem b08 {m_is_mere_joint : DFn} {m_common : DFn} {m_pieces : DFn} (C_is_mere_joint : Cal P w K mg base 1 "is_mere_joint" ["line", "i", "j", "what"] m_is_mere_joint) (C_common : Cal P w K mg base 5 "common" ["one", "other"] m_common) (C_pieces : Cal P w K mg base 2 "pieces" ["line"] m_pieces) {f : Addr} {fd : FuncData} (B : Blt mg) (F : GF K mg "crossings" a2K f fd) : Cal P w K mg base 6 "crossings" ["line"] (a3X m_is_mere_joint m_common m_pieces):=
 r8 F (fun _ _ _ _ _ _ => on1 fun _ => rfl) sc_crossings fun cdv A outer s H E g hr=>
  have nd := sc_crossings.nd
  (i8 (l8 (i := 1) nd rfl (by first | exact Or.inl rfl | exact Or.inr rfl) (i7 C_pieces _ hr (by decide) (by rfl) (ac (c9 (pv 0)) b6) (c5 i6))) (i8 (D2 (i := 2) nd rfl (by first | exact Or.inl rfl | exact Or.inr rfl) (w9 b6)) (i8 (b2i PassesOwn.never rfl (by rfl) B.enumerate (ac (c9 (pv 1)) b6) (E9 rfl (v5 (u4 (o7 (i := 3) nd rfl (by first | exact Or.inl rfl | exact Or.inr rfl))) (v5 (u4 (o7 (i := 4) nd rfl (by first | exact Or.inl rfl | exact Or.inr rfl))) F0))) (j9 (a68 PassesOwn.never rfl (by rfl) B.range (j5 D1 D5 (a9 (pv 3)) (EO.b a7)) (B6 D6 E1 (by rfl) B.len E2 (bc (a9 (pv 1)) u8)) (u4 (o7 (i := 5) nd rfl (by first | exact Or.inl rfl | exact Or.inr rfl))) (i8 (l8 (i := 6) nd rfl (by first | exact Or.inl rfl | exact Or.inr rfl) (i7 C_common _ hr (by decide) (by rfl) (ac (c9 (pv 4)) (ac (d0 c7 c8 (a9 (pv 1)) (a9 (pv 5)) (fun _ _ => rfl)) b6)) (c5 (c5 i6)))) (j9 (A8 (WO.t (Y6 (v4 a6e a5x (a9 (pv 6)) (EO.b M5) (o8 _)) (a1j (a0M (F9 (EO.b (i7 C_is_mere_joint _ hr (by decide) (by rfl) (ac (c9 (pv 0)) (ac (c9 (pv 3)) (ac (c9 (pv 5)) (ac (c9 (pv 6)) b6)))) (c5 (c5 (c5 (c5 i6))))))))))) (j9 (U3 (pv 2) (j3 (ac (c9 (pv 3)) (ac (c9 (pv 5)) (ac (c9 (pv 6)) b6)))))) B0)))))) (j9 (l4 (c9 (pv 2)))))))
abbrev a2M : Stmt := top 52
theorem sc_law : FnScope ["_law_script", "_law_tape", "_law_k", "_law_line", "_law_due_here", "_law_again", "_law_told"] ["_law_script"] (l3 a2M) := ⟨rfl,rfl,rfl,by decide +kernel,rfl,by decide +kernel,by decide +kernel⟩
set_option maxHeartbeats 4000000 in
theorem a8J {m_crossings : DFn} {m_law_due : DFn} {m_law_exact : DFn} {m_law_any : DFn} {m_law_new_tape : DFn} (C_crossings : Cal P w K mg base 6 "crossings" ["line"] m_crossings) (C_law_due : Cal P w K mg base 8 "_law_due" ["_law_line"] m_law_due) (C_law_exact : Cal P w K mg base 5 "_law_exact" ["_law_tape", "_law_most"] m_law_exact) (C_law_any : Cal P w K mg base 5 "_law_any" ["_law_tape", "_law_most"] m_law_any) (C_law_new_tape : Cal P w K mg base 1 "_law_new_tape" ["_law_script"] m_law_new_tape) {f : Addr} {fd : FuncData} (B : Blt mg) (F : Fun K "law" "law" a2M f fd) : FnD P w K mg base 9 f fd ["_law_script"] (a2Y m_crossings m_law_due m_law_exact m_law_any m_law_new_tape):=
 a6j F sc_law fun cdv A outer s H E g hr=>
  have nd := sc_law.nd
  (i8 (l8 (i := 1) nd rfl (by first | exact Or.inl rfl | exact Or.inr rfl) (i7 C_law_new_tape _ hr (by decide) (by rfl) (ac (c9 (pv 0)) b6) (c5 i6))) (i8 (Z5 PassesOwn.never rfl (by rfl) B.range a7 (u4 (o7 (i := 2) nd rfl (by first | exact Or.inl rfl | exact Or.inr rfl))) (i8 (l8 (i := 3) nd rfl (by first | exact Or.inl rfl | exact Or.inr rfl) (L8 (v4 (C1 (u64 hr)) C4 (EO.b (j5 J6 K1 (a9 (pv 2)) (EO.b a7))) (EO.b a7) (o8 _)) (i7 C_law_exact _ hr (by decide) (by rfl) (ac (c9 (pv 1)) (ac a7 b6)) (c5 (c5 i6))) (i7 C_law_any _ hr (by decide) (by rfl) (ac (c9 (pv 1)) (ac a7 b6)) (c5 (c5 i6))))) (i8 (l8 (i := 4) nd rfl (by first | exact Or.inl rfl | exact Or.inr rfl) (i7 C_law_due _ hr (by decide) (by rfl) (ac (c9 (pv 3)) b6) (c5 i6))) (j9 (Z5 PassesOwn.never rfl (by rfl) B.range a7 (u4 (o7 (i := 5) nd rfl (by first | exact Or.inl rfl | exact Or.inr rfl))) (i8 (D2 (i := 6) nd rfl (by first | exact Or.inl rfl | exact Or.inr rfl) (b4d C_crossings _ hr (by decide) (by rfl) (ac (c9 (pv 3)) b6) (c5 i6))) (i8 (A8 (v4 (U8 (u64 hr)) X3 (EO.b (B6 (a5b (u66 hr) hr.gd) a4F (by rfl) B.repr a5O (bc (a9 (pv 6)) u8))) (EO.b (B6 (a5b (u66 hr) hr.gd) a4F (by rfl) B.repr a5O (bc (a9 (pv 4)) u8))) (o8 _)) (j9 (l4 a1h)) B0) (j9 (U3 (pv 6) M5))))))))) (j9 (l4 a1h))))
end
abbrev whole : DFn := (a2Y (a3X M6 (a3U (a1V (a3B (T3 F5)) W6) (a3v a1s) (a3c N2) (a0k N2) (a3R W6)) (a1G Y4)) (a1H (a10 (a02 (O5 u6) (R9 (w6 u6)) (R7 (w6 u6)) (X6 (T5 (w6 u6)) (N4 (w6 u6))) (N4 (w6 u6))) (a3Z K3) (a0O (w6 u6)) (a13 (T5 (w6 u6)) (R7 (w6 u6))) (a2Z (X6 (T5 (w6 u6)) (N4 (w6 u6))) (a02 (O5 u6) (R9 (w6 u6)) (R7 (w6 u6)) (X6 (T5 (w6 u6)) (N4 (w6 u6))) (N4 (w6 u6))) K3 (a0O (w6 u6)) (a2v (R9 (w6 u6)) (R7 (w6 u6)))) (X6 (T5 (w6 u6)) (N4 (w6 u6)))) K8) (a2w G8 (a3P (O5 u6) (R9 (w6 u6)) (R7 (w6 u6)) (a0P G8) G8) (a1C (O5 u6) (R9 (w6 u6)) (R7 (w6 u6)) G8 (a0P G8) (a2O G8))) (a18 G8 (a0u W4) (a2y (O5 u6) (R9 (w6 u6)) (N4 (w6 u6)) (a0u W4) G8 (a0D (O5 u6) (w6 u6) G8)) (a0D (O5 u6) (w6 u6) G8)) P4)
set_option maxHeartbeats 4000000 in
theorem all_mk {l : PySem.W.OpenLaw} {w : World} {K : PySem.W.Frag} {h : Heap} {mg : Str → Option Value} {fa : Addr} (X : K.In h) (G : h.Ns mainGlobals mg) (hfa : mg "law" = some (.ref fa)) {f1 f2 f3 f4 f5 f6 f7 f8 f9 f10 f11 f12 f13 f14 f15 f16 f17 f18 f19 f20 f21 f22 f23 f24 f25 f26 f27 f28 f29 f30 f31 f32 f33 f34 f35 f36 f37 f38 f39 f40 f41 f42 f43 f44 f45 f46 f47 : Addr} {d1 d2 d3 d4 d5 d6 d7 d8 d9 d10 d11 d12 d13 d14 d15 d16 d17 d18 d19 d20 d21 d22 d23 d24 d25 d26 d27 d28 d29 d30 d31 d32 d33 d34 d35 d36 d37 d38 d39 d40 d41 d42 d43 d44 d45 d46 d47 : FuncData} 
  (g1 : GF K mg "_law_new_tape" a1X f1 d1)
  (g2 : GF K mg "_law_pairs" a17 f2 d2)
  (g3 : GF K mg "_law_divisor" a3L f3 d3)
  (g4 : GF K mg "_law_low" a4k f4 d4)
  (g5 : GF K mg "_law_xy" a2z f5 d5)
  (g6 : GF K mg "_law_minus" a1L f6 d6)
  (g7 : GF K mg "_law_far" a2o f7 d7)
  (g8 : GF K mg "_law_product" a3u f8 d8)
  (g9 : GF K mg "_law_athwart" a3t f9 d9)
  (g10 : GF K mg "_law_over" a2t f10 d10)
  (g11 : GF K mg "_law_spot" a1w f11 d11)
  (g12 : GF K mg "_law_plus" a14 f12 d12)
  (g13 : GF K mg "_law_on_the_way" a2m f13 d13)
  (g14 : GF K mg "_law_below" a3W f14 d14)
  (g15 : GF K mg "_law_with" a3Q f15 d15)
  (g16 : GF K mg "_law_alongside" a1P f16 d16)
  (g17 : GF K mg "_law_is_share" a2q f17 d17)
  (g18 : GF K mg "_law_common" a15 f18 d18)
  (g19 : GF K mg "_law_due" a2n f19 d19)
  (g20 : GF K mg "_law_draw" a2F f20 d20)
  (g21 : GF K mg "_law_start" a3r f21 d21)
  (g22 : GF K mg "_law_closed" a1U f22 d22)
  (g23 : GF K mg "_law_menu" a34 f23 d23)
  (g24 : GF K mg "_law_open" a29 f24 d24)
  (g25 : GF K mg "_law_exact" a3q f25 d25)
  (g26 : GF K mg "_law_near" a3S f26 d26)
  (g27 : GF K mg "_law_way" a24 f27 d27)
  (g28 : GF K mg "_law_goes_on" a3l f28 d28)
  (g29 : GF K mg "_law_chain" a19 f29 d29)
  (g30 : GF K mg "_law_any" a1Q f30 d30)
  (g31 : GF K mg "neighbours" a23 f31 d31)
  (g32 : GF K mg "pieces" a1A f32 d32)
  (g33 : GF K mg "upright" a2r f33 d33)
  (g34 : GF K mg "straight" a3j f34 d34)
  (g35 : GF K mg "sign" a3D f35 d35)
  (g36 : GF K mg "side_of" a4b f36 d36)
  (g37 : GF K mg "is_lesser" a3w f37 d37)
  (g38 : GF K mg "common_along" a2i f38 d38)
  (g39 : GF K mg "divisor_of_two" a26 f39 d39)
  (g40 : GF K mg "divisor" a1x f40 d40)
  (g41 : GF K mg "lowest" a35 f41 d41)
  (g42 : GF K mg "crossing" a2C f42 d42)
  (g43 : GF K mg "span" a2B f43 d43)
  (g44 : GF K mg "common" a2d f44 d44)
  (g45 : GF K mg "is_mere_joint" a2h f45 d45)
  (g46 : GF K mg "crossings" a2K f46 d46)
  (g47 : GF K mg "law" a2M f47 d47)
  (B : Blt mg) :
  ∃ fd : FuncData,(∀ (s : Shared) (v : Value),BindsTo s fd ⟨[v],[]⟩ [("_law_script",v)]) ∧ ∀ base : Heap,K.In base → base.Ns mainGlobals mg → FnOk l.prog w K mg base CX0 9 fa fd ["_law_script"] (spD K 1 whole):= by
 have e := hfa.symm.trans g47.m
 cases e
 refine ⟨d47,a97 g47.F fun _ _ _ _ _ _ _ _ => .of_eq rfl,fun base _ _ => ?_⟩
 have C_law_new_tape := b00 (P := l.prog) (w := w) (base := base) B g1
 have C_law_pairs := a8T (P := l.prog) (w := w) (base := base) B g2
 have C_law_divisor := b0n (P := l.prog) (w := w) (base := base) B g3
 have C_law_low := a8q C_law_divisor B g4
 have C_law_xy := a9X C_law_low B g5
 have C_law_minus := b3U C_law_low B g6
 have C_law_far := b14 C_law_minus C_law_xy B g7
 have C_law_product := b2C C_law_low B g8
 have C_law_athwart := a8z C_law_minus C_law_product B g9
 have C_law_over := b09 C_law_low B g10
 have C_law_spot := a9F C_law_divisor B g11
 have C_law_plus := b25 C_law_low B g12
 have C_law_on_the_way := a8c C_law_spot C_law_plus C_law_product C_law_far C_law_xy B g13
 have C_law_below := b3f (P := l.prog) (w := w) (base := base) B g14
 have C_law_with := b1I C_law_plus C_law_product B g15
 have C_law_alongside := a8I C_law_far C_law_on_the_way C_law_below C_law_over C_law_with B g16
 have C_law_is_share := a9E C_law_below B g17
 have C_law_common := a9I C_law_on_the_way C_law_is_share C_law_over C_law_athwart C_law_alongside C_law_far B g18
 have C_law_due := a8B C_law_common C_law_pairs B g19
 have C_law_draw := b4k (P := l.prog) (w := w) (base := base) B g20
 have C_law_start := b0e C_law_draw B g21
 have C_law_closed := b1G C_law_spot C_law_plus C_law_product C_law_start C_law_draw B g22
 have C_law_menu := a9g C_law_draw B g23
 have C_law_open := b22 C_law_spot C_law_plus C_law_product C_law_draw C_law_start C_law_menu B g24
 have C_law_exact := b0V C_law_draw C_law_closed C_law_open B g25
 have C_law_near := b1M C_law_spot C_law_low C_law_draw B g26
 have C_law_way := b0c (P := l.prog) (w := w) (base := base) B g27
 have C_law_goes_on := a94 C_law_way B g28
 have C_law_chain := b3i C_law_spot C_law_plus C_law_xy C_law_goes_on C_law_draw C_law_near B g29
 have C_law_any := b26 C_law_draw C_law_goes_on C_law_chain C_law_near B g30
 have C_neighbours := a9h (P := l.prog) (w := w) (base := base) B g31
 have C_pieces := b2J C_neighbours B g32
 have C_upright := b1j (P := l.prog) (w := w) (base := base) B g33
 have C_straight := a9O C_upright B g34
 have C_sign := b2c (P := l.prog) (w := w) (base := base) B g35
 have C_side_of := b3T C_sign B g36
 have C_is_lesser := b3Q (P := l.prog) (w := w) (base := base) B g37
 have C_common_along := a8Q C_is_lesser B g38
 have C_divisor_of_two := b4e (P := l.prog) (w := w) (base := base) B g39
 have C_divisor := b31 C_divisor_of_two B g40
 have C_lowest := b21 C_divisor B g41
 have C_crossing := b0Y C_lowest C_upright B g42
 have C_span := b3z C_is_lesser B g43
 have C_common := b2W C_crossing C_side_of C_common_along C_span C_straight B g44
 have C_is_mere_joint := b37 (P := l.prog) (w := w) (base := base) B g45
 have C_crossings := b08 C_is_mere_joint C_common C_pieces B g46
 exact a8J C_crossings C_law_due C_law_exact C_law_any C_law_new_tape B g47.F
end T
open PySem PySem.W PyProof.Rows
set_option maxRecDepth 100000 in
set_option maxHeartbeats 0 in
theorem PySem.Challenge.cw_widelines_k55_crossings_of_lines_holds : PySem.Challenge.rw_widelines_k55_crossings_of_lines.Holds := by
 w_on; o_law; k_head; (case hw => w_witness2)
 k_fill
 refine DL.walkD (l := PySem.Challenge.rw_widelines_k55_crossings_of_lines) (m := T.whole) (k := 9) rfl rfl ⟨rfl,by decide,by decide,rfl⟩ (fun w h Y => PySem.W.kIn_of Y) ?F T.math
 case F=>
  intro w mg fa h KX G hmg
  refine' T.all_mk KX G hmg (DL.gf_mk KX G ?_ ?_ ?_ ?_) (DL.gf_mk KX G ?_ ?_ ?_ ?_) (DL.gf_mk KX G ?_ ?_ ?_ ?_) (DL.gf_mk KX G ?_ ?_ ?_ ?_) (DL.gf_mk KX G ?_ ?_ ?_ ?_) (DL.gf_mk KX G ?_ ?_ ?_ ?_) (DL.gf_mk KX G ?_ ?_ ?_ ?_) (DL.gf_mk KX G ?_ ?_ ?_ ?_) (DL.gf_mk KX G ?_ ?_ ?_ ?_) (DL.gf_mk KX G ?_ ?_ ?_ ?_) (DL.gf_mk KX G ?_ ?_ ?_ ?_) (DL.gf_mk KX G ?_ ?_ ?_ ?_) (DL.gf_mk KX G ?_ ?_ ?_ ?_) (DL.gf_mk KX G ?_ ?_ ?_ ?_) (DL.gf_mk KX G ?_ ?_ ?_ ?_) (DL.gf_mk KX G ?_ ?_ ?_ ?_) (DL.gf_mk KX G ?_ ?_ ?_ ?_) (DL.gf_mk KX G ?_ ?_ ?_ ?_) (DL.gf_mk KX G ?_ ?_ ?_ ?_) (DL.gf_mk KX G ?_ ?_ ?_ ?_) (DL.gf_mk KX G ?_ ?_ ?_ ?_) (DL.gf_mk KX G ?_ ?_ ?_ ?_) (DL.gf_mk KX G ?_ ?_ ?_ ?_) (DL.gf_mk KX G ?_ ?_ ?_ ?_) (DL.gf_mk KX G ?_ ?_ ?_ ?_) (DL.gf_mk KX G ?_ ?_ ?_ ?_) (DL.gf_mk KX G ?_ ?_ ?_ ?_) (DL.gf_mk KX G ?_ ?_ ?_ ?_) (DL.gf_mk KX G ?_ ?_ ?_ ?_) (DL.gf_mk KX G ?_ ?_ ?_ ?_) (DL.gf_mk KX G ?_ ?_ ?_ ?_) (DL.gf_mk KX G ?_ ?_ ?_ ?_) (DL.gf_mk KX G ?_ ?_ ?_ ?_) (DL.gf_mk KX G ?_ ?_ ?_ ?_) (DL.gf_mk KX G ?_ ?_ ?_ ?_) (DL.gf_mk KX G ?_ ?_ ?_ ?_) (DL.gf_mk KX G ?_ ?_ ?_ ?_) (DL.gf_mk KX G ?_ ?_ ?_ ?_) (DL.gf_mk KX G ?_ ?_ ?_ ?_) (DL.gf_mk KX G ?_ ?_ ?_ ?_) (DL.gf_mk KX G ?_ ?_ ?_ ?_) (DL.gf_mk KX G ?_ ?_ ?_ ?_) (DL.gf_mk KX G ?_ ?_ ?_ ?_) (DL.gf_mk KX G ?_ ?_ ?_ ?_) (DL.gf_mk KX G ?_ ?_ ?_ ?_) (DL.gf_mk KX G ?_ ?_ ?_ ?_) (DL.gf_mk KX G ?_ ?_ ?_ ?_) (DL.blt_mk KX G ?_ ?_ ?_ ?_ ?_ ?_ ?_ ?_ ?_ ?_ ?_ ?_ ?_ ?_ ?_ ?_ ?_ ?_ ?_)
  all_goals try k_is
