import PyProof.Rows.All
import Wide.All
import OpenK.AllK
import Wide.FinOn
import Lean
import PyProof.EqAt
import PyProof.EqKinds
import PyProof.TupleCall
import PySem.Challenge.RW_widelines_k32_papers_of_two_told
def PySem.W.Fast.tw12743409578538204709 : Unit := ()
def PySem.W.Fast.tw17255435135089082496 : Unit := ()
def PySem.W.Fast.tw2131167674491981076 : Unit := ()
def PySem.W.Fast.tw6932068038183802808 : Unit := ()
def PySem.W.Fast.tw1972721624582745349 : Unit := ()
def PySem.W.Fast.tw9224978322967018221 : Unit := ()
def PySem.W.Fast.tw8658800544621759618 : Unit := ()
def PySem.W.Fast.tw12564060847368714775 : Unit := ()
def PySem.W.Fast.tw6598213448840001199 : Unit := ()
def PySem.W.Fast.tw5581453646514410642 : Unit := ()
def PySem.W.Fast.tw10441431897321696586 : Unit := ()
def PySem.W.Fast.tw14832133781441356837 : Unit := ()
def PySem.W.Fast.tw4430261562311814725 : Unit := ()
def PySem.W.Fast.tw14910776314600315433 : Unit := ()
def PySem.W.Fast.tw8901840556240214230 : Unit := ()
def PySem.W.Fast.tw1803667615687573555 : Unit := ()
def PySem.W.Fast.tw9940099884507243427 : Unit := ()
def PySem.W.Fast.tw14777092910791458963 : Unit := ()
def PySem.W.Fast.tw17052692311422895860 : Unit := ()
def PySem.W.Fast.tw6063094978336858160 : Unit := ()
def PySem.W.Fast.tw17479827072760428003 : Unit := ()
def PySem.W.Fast.tw10591683845480374277 : Unit := ()
def PySem.W.Fast.tw10077514276088436265 : Unit := ()
def PySem.W.Fast.tw5465975726629338885 : Unit := ()
def PySem.W.Fast.tw526654323021908200 : Unit := ()
def PySem.W.Fast.tw16412639327303566055 : Unit := ()
local macro_rules | `(tactic| omega) => `(tactic| first | with_reducible assumption | decide | omega +splitMinMax)
theorem PySem.W.Fast.te17255435135089082496 : True := True.intro
set_option Elab.async false
set_option linter.all false
set_option maxRecDepth 100000
set_option bootstrap.genMatcherCode false
set_option genSizeOf false
namespace L2
open PySem PySem.Spec PyProof.Rows
noncomputable abbrev Key:=Sum Int Str
noncomputable def a6s:Key → Value → Bool
 | .inl k,v=>Value.isInt k v
 | .inr x,v=>Value.isStrOf x v
noncomputable def b22 (w:World):Key → Int
 | .inl k=>hashInt k
 | .inr x=>hashStr w x
theorem N0:∀ {k:Key} {v:Value},a6s k v = true → (∃ i t,k = Sum.inl i ∧ v = Value.int i t) ∨ (∃ x t,k = Sum.inr x ∧ v = Value.str x t)
 | .inl i,v,h=>by
  obtain ⟨t,e⟩:=Value.isInt_shape (k:=i) (v:=v) h
  exact .inl ⟨i,t,rfl,e⟩
 | .inr x,v,h=>by
  obtain ⟨t,e⟩:=Value.isStrOf_shape (x:=x) (v:=v) h
  exact .inr ⟨x,t,rfl,e⟩
theorem b2m (a b:Int):decide ((Sum.inl a:Key) = Sum.inl b) = (a == b):=by
 by_cases e:a = b
 ·subst e; simp
 ·have h:¬ (Sum.inl a:Key) = Sum.inl b:=fun q=>e (Sum.inl.inj q)
  rw [decide_eq_false h]
  exact (beq_eq_false_iff_ne.mpr e).symm
theorem a9E (a b:Str):decide ((Sum.inr a:Key) = Sum.inr b) = decide (a = b):=by
 by_cases e:a = b
 ·subst e; simp
 ·have h:¬ (Sum.inr a:Key) = Sum.inr b:=fun q=>e (Sum.inr.inj q)
  rw [decide_eq_false h,decide_eq_false e]
theorem b6g (a:Int) (b:Str):decide ((Sum.inl a:Key) = Sum.inr b) = false:=decide_eq_false (fun q=>nomatch q)
theorem b4t (a:Str) (b:Int):decide ((Sum.inr a:Key) = Sum.inl b) = false:=decide_eq_false (fun q=>nomatch q)
noncomputable def a2V (prog:Program) (w:World):PySem.KeyKind prog w Key where
 is:=a6s
 hash:=b22 w
 inj:=fun v a b ha hb=>by
  rcases N0 ha with ⟨i,t,rfl,rfl⟩ | ⟨x,t,rfl,rfl⟩
  ·rcases N0 hb with ⟨j,u,rfl,e⟩ | ⟨y,u,rfl,e⟩
   ·injection e with e1 _; rw [e1]
   ·exact nomatch e
  ·rcases N0 hb with ⟨j,u,rfl,e⟩ | ⟨y,u,rfl,e⟩
   ·exact nomatch e
   ·injection e with e1 _; rw [e1]
 byValue:=fun k v h=>by
  rcases N0 h with ⟨i,t,rfl,rfl⟩ | ⟨x,t,rfl,rfl⟩ <;> rfl
 pyHash:=fun hv h=>by
  rcases N0 hv with ⟨i,t,rfl,rfl⟩ | ⟨x,t,rfl,rfl⟩
  ·exact wpAny_pyHash_int h
  ·exact wpAny_pyHash_str h
 eqBool:=fun hu hv h=>by
  rcases N0 hu with ⟨i,t,rfl,rfl⟩ | ⟨x,t,rfl,rfl⟩
  ·rcases N0 hv with ⟨j,u,rfl,rfl⟩ | ⟨y,u,rfl,rfl⟩
   ·rw [b2m] at h; exact wpAny_eqBool_int h
   ·rw [b6g] at h; exact SeqAt.EqAt.int_str i t y u _ _ _ _ h
  ·rcases N0 hv with ⟨j,u,rfl,rfl⟩ | ⟨y,u,rfl,rfl⟩
   ·rw [b4t] at h; exact SeqAt.EqAt.str_int x t j u _ _ _ _ h
   ·rw [a9E] at h; exact wpAny_eqBool_str h
 «strs»:=fun k x t v h=>by
  rcases N0 h with ⟨i,u,rfl,e⟩ | ⟨y,u,rfl,e⟩
  ·exact nomatch e
  ·injection e with e1 _
   subst e1
   cases v <;> rfl
inductive V where
 | non | bl (b:Bool) | int (i:Int) | str (x:Str) | byt (b:Array UInt8) | flt (b:UInt64) | ref (a:Addr) | ty (n:String)
 deriving DecidableEq
noncomputable def RelV:V → Value → Prop
 | .non,u=>u = Value.none
 | .bl b,u=>u = Value.bool b
 | .int i,u=>∃ t,u = Value.int i t
 | .str x,u=>∃ t,u = Value.str x t
 | .byt b,u=>∃ t,u = Value.bytes b t
 | .flt b,u=>∃ t,u = Value.float b t
 | .ref a,u=>u = Value.ref a
 | .ty n,u=>u = Value.type n
noncomputable abbrev Vals:List V → List Value → Prop:=Paired RelV
theorem Vals.length {xs:List V} {us:List Value} (r:Vals xs us):xs.length = us.length:=Paired.length r
theorem Vals.get:∀ {xs:List V} {us:List Value} {i:Nat} {x:V},Vals xs us → xs[i]? = some x → ∃ u,us[i]? = some u ∧ RelV x u
 | _,_,_,_,.nil,e=>by simp at e
 | _,_,0,_,.cons r _,e=>by simp at e; subst e; exact ⟨_,rfl,r⟩
 | _,_,i + 1,x,.cons _ t,e=>by
  obtain ⟨u,h1,h2⟩:=Vals.get (i:=i) (x:=x) t (by simpa using e)
  exact ⟨u,by simpa using h1,h2⟩
theorem Vals.set {x:V} {u:Value} (r:RelV x u):∀ {xs:List V} {us:List Value} (i:Nat),Vals xs us → Vals (xs.set i x) (us.set i u)
 | _,_,_,.nil=>.nil
 | _,_,0,.cons _ t=>.cons r t
 | _,_,i + 1,.cons q t=>.cons q (Vals.set r i t)
theorem Vals.append:∀ {xs ys:List V} {us ws:List Value},Vals xs us → Vals ys ws → Vals (xs ++ ys) (us ++ ws):=by
 intro xs ys us ws h s
 induction h with
 | nil=>exact s
 | cons r t ih=>exact .cons r ih
theorem Vals.take:∀ {xs:List V} {us:List Value} (n:Nat),Vals xs us → Vals (xs.take n) (us.take n)
 | _,_,0,_=>.nil
 | _,_,_ + 1,.nil=>.nil
 | _,_,n + 1,.cons r t=>.cons r (Vals.take n t)
theorem Vals.drop:∀ {xs:List V} {us:List Value} (n:Nat),Vals xs us → Vals (xs.drop n) (us.drop n)
 | _,_,0,r=>r
 | _,_,_ + 1,.nil=>.nil
 | _,_,n + 1,.cons _ t=>Vals.drop n t
noncomputable def a7L:Option V → Option Value → Prop
 | some v,some u=>RelV v u
 | none,none=>True
 | _,_=>False
noncomputable def KV {κ:Type}:List (κ × V) → List (κ × Value) → Prop:=Paired fun (p:κ × V) (q:κ × Value)=>p.1 = q.1 ∧ RelV p.2 q.2
noncomputable def kV:Key → V
 | .inl i=>.int i
 | .inr x=>.str x
inductive HO where
 | lst (xs:List V)
 | tup (xs:List V)
 | dK (kvs:List (Key × V)) | dT (kvs:List (List Key × V))
 | set (S:Int → Bool) (n:Nat)
 | ins (C dx:Addr) (fs:List (Str × V))
 | own (x:Addr)
 | xd (fs:List (Str × V))
 | met (f x:Addr)
 | rng (lo hi:Int)
 | frz (o:Obj) (u:HO)
 | tbl (ps:Array Value)
 | ext (φ:Heap → Prop)
noncomputable abbrev Hp:=Addr → Option HO
noncomputable def upd (H:Hp) (a:Addr) (o:HO):Hp:=fun b=>if b = a then some o else H b
theorem u8 {H:Hp} {a:Addr} {o:HO}:upd H a o a = some o:=by unfold upd; rw [if_pos rfl]
theorem m9 {H:Hp} {a b:Addr} {o:HO} (h:b ≠ a):upd H a o b = H b:=by unfold upd; rw [if_neg h]
theorem J2 {H:Hp} {a b:Addr} {o:HO} (h:H a = some o) (h':H b = none):a ≠ b:=by
 intro e; subst e; rw [h] at h'; cases h'
section
variable (P:Program) (w:World)
noncomputable def ObjOk (H:Hp) (h:Heap) (a:Addr):HO → Prop
 | .lst xs=>xs.length ≤ sizeLine ∧ ∃ (its:List Value) (n:Nat),Vals xs its ∧ h.get? a = some { cls:=.type "list",data:=.seq its.toArray n }
 | .tup xs=>xs.length ≤ sizeLine ∧ ∃ its:List Value,Vals xs its ∧ IsTup h a its.toArray
 | .dK kvs=>kvs.length ≤ sizeLine ∧ (a == sysModules) = false ∧ ∃ vs,KV kvs vs ∧ h.DictOf (a2V P w) a vs
 | .dT kvs=>kvs.length ≤ sizeLine ∧ (a == sysModules) = false ∧ ∃ xs:List (List Key × Addr × Value),
   Paired (fun (p:List Key × V) (q:List Key × Addr × Value)=>p.1 = q.1 ∧ H q.2.1 = some (.tup (p.1.map kV)) ∧ RelV p.2 q.2.2) kvs xs ∧
   ∃ o es ep,h.get? a = some o ∧ o.ExactDict ∧ o.data = .dict es ep ∧ es.toList = xs.map (entryOfKey (tupleKind (a2V P w))) ∧ (xs.map (·.1)).Nodup
 | .set S n=>h.SetOf (intKind P w) a S n
 | .ins C dx fs=>H dx = some (.own a) ∧ fs.length ≤ 1000 ∧ dx ≠ a ∧ h.get? a = some (PySem.W.instObj C dx) ∧
   ∃ mA,h.Ns1 dx mA ∧ (∀ f,a7L (fs.lookup f) (mA f)) ∧ PySem.Within mA (fs.map (·.1))
 | .own _=>∃ o,h.get? a = some o
 | .xd fs=>∃ mA,h.Ns1 a mA ∧ ∀ f,a7L (fs.lookup f) (mA f)
 | .rng lo hi=>∃ t u v,h.get? a = some { cls:=.type "range",data:=.fields #[.int lo t,.int hi u,.int 1 v] }
 | .frz o u=>h.get? a = some o ∧ ObjOk H h a u
 | .tbl ps=>h.get? a = some { cls:=.none,data:=.fields ps }
 | .met f x=>h.get? a = some (PySem.W.methodObj (.ref f) (.ref x))
 | .ext φ=>φ h ∧ (∃ o,h.get? a = some o) ∧ ∀ h1 h2:Heap,φ h1 → (∀ o,h1.get? a = some o → h2.get? a = some o) → φ h2
noncomputable def HOk (H:Hp) (h:Heap):Prop:=∀ a o,H a = some o → ObjOk P w H h a o
end
section
variable {P:Program} {w:World} {H H':Hp} {h h':Heap} {a:Addr} {o:HO}
theorem ObjOk.lt (x:ObjOk P w H h a o):a < h.objs.size:=by
 cases o with
 | lst xs=>obtain ⟨_,_,_,_,e⟩:=x; exact Heap.lt_size e
 | tup xs=>obtain ⟨_,_,_,p⟩:=x; exact p.lt
 | dK kvs=>obtain ⟨_,_,_,_,o,_,_,e,_⟩:=x; exact Heap.lt_size e
 | dT kvs=>obtain ⟨_,_,_,_,o,_,_,e,_⟩:=x; exact Heap.lt_size e
 | set S n=>obtain ⟨o,_,_,_,e,_⟩:=x; exact Heap.lt_size e
 | ins C dx fs=>obtain ⟨_,_,_,e,_⟩:=x; exact Heap.lt_size e
 | own y=>obtain ⟨_,e⟩:=x; exact Heap.lt_size e
 | xd fs=>obtain ⟨_,⟨_,_,_,e,_⟩,_⟩:=x; exact Heap.lt_size e
 | rng lo hi=>obtain ⟨_,_,_,e⟩:=x; exact Heap.lt_size e
 | frz ob u=>obtain ⟨e,_⟩:=x; exact Heap.lt_size e
 | tbl ps=>exact Heap.lt_size (show h.get? a = some _ from x)
 | met f y=>exact Heap.lt_size (show h.get? a = some _ from x)
 | ext φ=>obtain ⟨_,⟨_,e⟩,_⟩:=x; exact Heap.lt_size e
theorem Paired.mapP {α β:Type} {F G:α → β → Prop}:∀ {l₁:List α} {l₂:List β},Paired F l₁ l₂ → (∀ a b,F a b → G a b) → Paired G l₁ l₂:=by
 intro l₁ l₂ h f
 induction h with
 | nil=>exact .nil
 | cons r t ih=>exact .cons (f _ _ r) ih
theorem ObjOk.stay (x:ObjOk P w H h a o) (k:∀ b u,(b = a ∨ H b = some (.own a)) → h.get? b = some u → h'.get? b = some u)
  (ho:∀ b,H b = some (.own a) → H' b = some (.own a)) (ht:∀ b xs,H b = some (.tup xs) → H' b = some (.tup xs)):ObjOk P w H' h' a o:=by
 induction o with
 | lst xs=>obtain ⟨z,its,n,r,e⟩:=x; exact ⟨z,its,n,r,k _ _ (.inl rfl) e⟩
 | tup xs=>obtain ⟨z,its,r,ob,e,c⟩:=x; exact ⟨z,its,r,ob,k _ _ (.inl rfl) e,c⟩
 | dK kvs=>obtain ⟨z,y,vs,r,ob,es,ep,e,c⟩:=x; exact ⟨z,y,vs,r,ob,es,ep,k _ _ (.inl rfl) e,c⟩
 | dT kvs=>
  obtain ⟨z,y,xs,r,ob,es,ep,e,c⟩:=x
  exact ⟨z,y,xs,Paired.mapP r fun p q z=>⟨z.1,ht _ _ z.2.1,z.2.2⟩,ob,es,ep,k _ _ (.inl rfl) e,c⟩
 | set S n=>obtain ⟨ob,es,ep,t,e,c⟩:=x; exact ⟨ob,es,ep,t,k _ _ (.inl rfl) e,c⟩
 | ins C dx fs=>
  obtain ⟨d,z,ne,e,mA,⟨od,es,ep,e2,c⟩,r⟩:=x
  exact ⟨ho _ d,z,ne,k _ _ (.inl rfl) e,mA,⟨od,es,ep,k _ _ (.inr d) e2,c⟩,r⟩
 | own y=>obtain ⟨ob,e⟩:=x; exact ⟨ob,k _ _ (.inl rfl) e⟩
 | xd fs=>obtain ⟨mA,⟨od,es,ep,e,c⟩,r⟩:=x; exact ⟨mA,⟨od,es,ep,k _ _ (.inl rfl) e,c⟩,r⟩
 | rng lo hi=>obtain ⟨t,u,v,e⟩:=x; exact ⟨t,u,v,k _ _ (.inl rfl) e⟩
 | frz ob u ih=>obtain ⟨e,q⟩:=x; exact ⟨k _ _ (.inl rfl) e,ih q⟩
 | tbl ps=>
  have e:h.get? a = some { cls:=.none,data:=.fields ps }:=x
  show h'.get? a = some { cls:=.none,data:=.fields ps }
  exact k a _ (.inl rfl) e
 | met f y=>
  have e:h.get? a = some (PySem.W.methodObj (.ref f) (.ref y)):=x
  show h'.get? a = some (PySem.W.methodObj (.ref f) (.ref y))
  exact k a _ (.inl rfl) e
 | ext φ=>obtain ⟨p,⟨o,e⟩,st⟩:=x; exact ⟨st _ _ p fun o q=>k _ _ (.inl rfl) q,⟨o,k _ _ (.inl rfl) e⟩,st⟩
theorem HOk.lt (x:HOk P w H h) (e:H a = some o):a < h.objs.size:=(x a o e).lt
theorem HOk.fresh (x:HOk P w H h) (e:h.objs.size ≤ a):H a = none:=by
 cases q:H a with
 | none=>rfl
 | some u=>exact absurd (Nat.lt_of_lt_of_le (x.lt q) e) (Nat.lt_irrefl _)
theorem HOk.kept (x:HOk P w H h) (k:∀ b u,h.get? b = some u → h'.get? b = some u):HOk P w H h':=fun a o e=>
 (x a o e).stay (fun b u _ q=>k b u q) (fun _ q=>q) fun _ _ q=>q
theorem HOk.laid (x:HOk P w H h) (k:∀ b u,h.get? b = some u → h'.get? b = some u) (hp:h.objs.size ≤ a) (new:ObjOk P w (upd H a o) h' a o):HOk P w (upd H a o) h':=fun b u e=>by
 have hn:=x.fresh hp
 by_cases hb:b = a
 ·subst hb; rw [u8] at e; cases e; exact new
 ·rw [m9 hb] at e
  exact (x b u e).stay (fun c v _ q=>k c v q) (fun c q=>by rw [m9 (J2 q hn)]; exact q) fun c xs q=>by rw [m9 (J2 q hn)]; exact q
end
noncomputable def Rd (H:Hp) (a:Addr) (u:HO):Prop:=H a = some u ∨ ∃ o,H a = some (.frz o u)
theorem Rd.ok {P:Program} {w:World} {H:Hp} {h:Heap} {a:Addr} {u:HO} (r:Rd H a u) (x:HOk P w H h):ObjOk P w H h a u:=by
 rcases r with r | ⟨o,r⟩
 ·exact x a u r
 ·obtain ⟨_,q⟩:=x a _ r
  exact q
noncomputable def Mut:Option HO → Prop
 | some (.lst _)=>True
 | some (.dK _)=>True
 | some (.dT _)=>True
 | some (.set _ _)=>True
 | some (.ins _ _ _)=>True
 | some (.ext _)=>True
 | _=>False
section
variable {P:Program} {w:World} {H:Hp} {h h':Heap} {x e:Addr} {o':HO}
theorem HOk.write (ok:HOk P w H h) (mu:Mut (H x)) (he:e = x ∨ H e = some (.own x)) (k:∀ b u,b ≠ e → h.get? b = some u → h'.get? b = some u) (heo:∃ u,h'.get? e = some u)
  (new:ObjOk P w (upd H x o') h' x o'):HOk P w (upd H x o') h':=fun b u q=>by
 have nown:∀ c y,H c = some (.own y) → c ≠ x:=fun c y r z=>by subst z; rw [r] at mu; exact mu
 have ntup:∀ c xs,H c = some (.tup xs) → c ≠ x:=fun c xs r z=>by subst z; rw [r] at mu; exact mu
 by_cases hb:b = x
 ·subst hb; rw [u8] at q; cases q; exact new
 ·rw [m9 hb] at q
  by_cases hbe:b = e
  ·have q':H b = some (.own x):=by
    rcases he with z | z
    ·exact absurd (hbe.trans z) hb
    ·rw [hbe]; exact z
   rw [q] at q'; cases q'
   obtain ⟨v,hv⟩:=heo
   exact ⟨v,by rw [hbe]; exact hv⟩
  ·refine (ok b u q).stay (fun c v hc r=>k c v ?_ r) (fun c r=>by rw [m9 (nown c b r)]; exact r) fun c xs r=>by rw [m9 (ntup c xs r)]; exact r
   rcases hc with rfl | hc
   ·exact hbe
   ·rintro rfl
    rcases he with z | z
    ·exact nown c b hc z
    ·rw [hc] at z; cases z; exact hb rfl
end
structure Un (fs ex:List Addr) (H H':Hp) (h h':Heap):Prop where
 keep:∀ b o,h.get? b = some o → H b = none → b ∉ fs → b ∉ ex → h'.get? b = some o
 slot:∀ b o,h.get? b = some o → H b = none → b ∈ fs → b ∉ ex → ∃ sl,h'.get? b = some { o with slots:=sl }
 free:∀ b o,h.get? b = some o → H b = none → b ∉ ex → H' b = none
 there:∀ b o,h.get? b = some o → b ∉ ex → ∃ o',h'.get? b = some o'
 tups:∀ b xs,H b = some (.tup xs) → H' b = some (.tup xs)
 frzs:∀ b o u,H b = some (.frz o u) → H' b = some (.frz o u)
 tbls:∀ b ps,H b = some (.tbl ps) → ∃ more,H' b = some (.tbl (ps ++ more))
section
variable {fs fs' ex ex':List Addr} {H H1 H2:Hp} {h h1 h2 h':Heap} {a x e:Addr} {o:HO}
theorem Un.any (u:Un fs ex H H1 h h1) {b:Addr} {ob:Obj} (q:h.get? b = some ob) (n:H b = none) (hx:b ∉ ex):∃ sl,h1.get? b = some { ob with slots:=sl }:=by
 by_cases hb:b ∈ fs
 ·exact u.slot b ob q n hb hx
 ·exact ⟨ob.slots,u.keep b ob q n hb hx⟩
theorem Un.kept (k:∀ b u,h.get? b = some u → h'.get? b = some u):Un fs ex H H h h':=
 ⟨fun b ob q _ _ _=>k b ob q,fun b ob q _ _ _=>⟨ob.slots,k b ob q⟩,fun _ _ _ n _=>n,fun b ob q _=>⟨ob,k b ob q⟩,fun _ _ q=>q,fun _ _ _ q=>q,fun _ ps q=>⟨#[],by rw [q]; simp⟩⟩
theorem Un.refl:Un fs ex H H h h:=Un.kept fun _ _ q=>q
theorem Un.laid (k:∀ b u,h.get? b = some u → h'.get? b = some u) (hp:h.objs.size ≤ a) (hn:H a = none):Un fs ex H (upd H a o) h h' where
 keep:=fun b u q _ _ _=>k b u q
 slot:=fun b u q _ _ _=>⟨u.slots,k b u q⟩
 free:=fun b u q n _=>by rw [m9 (Nat.ne_of_lt (Nat.lt_of_lt_of_le (Heap.lt_size q) hp))]; exact n
 there:=fun b u q _=>⟨u,k b u q⟩
 tups:=fun b xs q=>by rw [m9 (J2 q hn)]; exact q
 frzs:=fun b u xs q=>by rw [m9 (J2 q hn)]; exact q
 tbls:=fun b ps q=>⟨#[],by rw [m9 (J2 q hn),q]; simp⟩
theorem Un.write (mu:Mut (H x)) (he:e = x ∨ H e = some (.own x)) (k:∀ b u,b ≠ e → h.get? b = some u → h'.get? b = some u) (heo:∃ u,h'.get? e = some u):Un fs ex H (upd H x o) h h':=by
 have hx:∀ b,H b = none → b ≠ x:=fun b n z=>by subst z; rw [n] at mu; exact mu
 have hb:∀ b,H b = none → b ≠ e:=fun b n z=>by
  subst z
  rcases he with r | r
  ·exact hx b n r
  ·rw [n] at r; cases r
 have hm:∀ b u,H b = some u → ¬ Mut (some u) → b ≠ x:=fun b u q nm z=>by subst z; rw [q] at mu; exact nm mu
 refine ⟨fun b u q n _ _=>k b u (hb b n) q,fun b u q n _ _=>⟨u.slots,k b u (hb b n) q⟩,fun b u q n _=>by rw [m9 (hx b n)]; exact n,fun b u q _=>?_,
  fun b xs q=>by rw [m9 (hm b _ q fun z=>z)]; exact q,fun b u xs q=>by rw [m9 (hm b _ q fun z=>z)]; exact q,fun b ps q=>⟨#[],by rw [m9 (hm b _ q fun z=>z),q]; simp⟩⟩
 by_cases hbe:b = e
 ·subst hbe; exact heo
 ·exact ⟨u,k b u hbe q⟩
end
noncomputable def trk (h:Heap) (H:Hp):List Addr:=(List.range h.objs.size).filter fun a=>(H a).isSome
noncomputable def O0 (h:Heap) (H:Hp):Heap:=PySem.W.hideAll h (trk h H)
theorem b36 (h:Heap) (H:Hp):(O0 h H).objs.size = h.objs.size:=PySem.W.hideAll_size _ _
theorem b1s {h:Heap} {H:Hp} {b:Addr} {o:Obj} (e:h.get? b = some o) (n:H b = none):(O0 h H).get? b = some o:=
 PySem.W.hideAll_get _ e fun hm=>by
  have q:(H b).isSome = true:=(List.mem_filter.mp hm).2
  rw [n] at q; simp at q
theorem b05 {h:Heap} {H:Hp} {b:Addr} {o:Obj} (e:(O0 h H).get? b = some o):h.get? b = some o ∧ H b = none:=by
 have e':h.get? b = some o:=PySem.W.of_hideAll (trk h H) e
 refine ⟨e',?_⟩
 cases q:H b with
 | none=>rfl
 | some x=>
  have hm:b ∈ trk h H:=List.mem_filter.mpr ⟨List.mem_range.mpr (Heap.lt_size e'),by simp [q]⟩
  have z:(O0 h H).get? b = none:=PySem.W.hideAll_none (trk h H) hm
  rw [z] at e; cases e
structure Mod (K:PySem.W.Frag) (mg:Str → Option Value) (base:Heap):Prop where
 kin:K.In base
 glob:base.Ns mainGlobals mg
 blt:∃ mb,base.Ns builtinsNs mb ∧ ∀ x:Str,x ≠ "__name__" → mb x = bootBuiltins x
 nolimit:base.NoLimit
structure Cx where
 prog:Program
 w:World
 K:PySem.W.Frag
 mg:Str → Option Value
 base:Heap
 A:Around
 N:List Str
 s₀:Shared
 H₀:Hp
 env:Env
 outer:List Env
 stack:List Env
 ex:List Addr
 fn:Str → Bool
 calm:Bool
 pn:List (Addr × Obj)
 xe:Value → Shared → Prop
noncomputable def frs (l:List Env):List Addr:=l.filterMap (·.frame)
noncomputable abbrev Cx.fs (X:Cx):List Addr:=frs X.outer
noncomputable def Vis (sc:Scope) (x:Str):Prop:=sc.names.lookup x = some .local ∨ sc.names.lookup x = some .cell ∨ sc.names.lookup x = some .free
noncomputable def Loc (sc:Scope) (x:Str):Prop:=sc.names.lookup x = some .local ∨ sc.names.lookup x = some .cell
noncomputable def b1y (env:Env) (h:Heap) (m:Str → Option Value) (x:Str) (u:Value):Prop:=
 (env.kindOf x = some .local ∧ m x = some u) ∨ ((env.kindOf x = some .cell ∨ env.kindOf x = some .free) ∧ ∃ c,env.cells.lookup x = some c ∧ h.IsCell c (some u))
structure Cx.Ok (X:Cx):Prop where
 mod:Mod X.K X.mg X.base
 kind:X.env.scope.kind = .function
 glob:X.env.globals = mainGlobals
 blt:X.env.builtins = builtinsNs
 above:X.s₀.heap.objs.size ≤ X.env.locals
 inj:∀ x y c,X.env.cells.lookup x = some c → X.env.cells.lookup y = some c → x = y
 has:∀ x,(X.env.kindOf x = some .cell ∨ X.env.kindOf x = some .free) → ∃ c,X.env.cells.lookup x = some c
 cab:∀ x c,X.fn x = true → X.env.cells.lookup x = some c → X.s₀.heap.objs.size ≤ c
 hd:X.calm = true → X.A.handled = none
 frames:X.A.frames = some X.stack
 stk:X.stack = X.outer ∨ (X.stack = X.env :: X.outer ∧ X.env.frame = some X.env.locals)
 exf:∀ b ∈ X.ex,b ≠ X.env.locals ∧ ∀ x c,X.env.cells.lookup x = some c → c ≠ b
 bs:∀ b o,X.base.get? b = some o → X.s₀.heap.get? b = some o ∧ X.H₀ b = none
 bsz:X.base.objs.size ≤ X.s₀.heap.objs.size
 noex:∀ b o,X.base.get? b = some o → b ∉ X.ex
 exfs:∀ b ∈ X.ex,b ∉ X.fs
 funs:X.s₀.heap.FunFrames X.base X.outer
 frf:∀ b ∈ X.fs,X.H₀ b = none
structure Inv (X:Cx) (pins:List (Addr × Obj)) (σ:List (Option V)) (H:Hp) (s:Shared):Prop where
 ok:X.Ok
 os:s.os = X.s₀.os
 bare:AllBare s.gens
 base:Un X.fs X.ex X.H₀ H X.s₀.heap s.heap
 loc:∃ m,s.heap.Ns X.env.locals m ∧ ∀ (i:Nat) (x:Str) (v:V),X.N[i]? = some x → σ[i]? = some (some v) → Vis X.env.scope x → ∃ u,RelV v u ∧ b1y X.env s.heap m x u
 cell:∀ x c,X.env.cells.lookup x = some c → ∃ v,s.heap.IsCell c v
 free:H X.env.locals = none
 freeC:∀ x c,X.env.cells.lookup x = some c → H c = none
 pin:∀ p ∈ X.pn ++ pins,s.heap.get? p.1 = some p.2 ∧ H p.1 = none ∧ p.1 ≠ X.env.locals ∧ p.1 ∉ X.fs ∧ ∀ v,p.2.data ≠ .cell v
 hok:HOk X.prog X.w H s.heap
 len:σ.length = X.N.length
section
variable {X:Cx} {pins:List (Addr × Obj)} {σ:List (Option V)} {H H':Hp} {s:Shared} {h':Heap}
theorem Cx.Ok.nofr (ok:X.Ok) {b:Addr} {o:Obj} (e:X.base.get? b = some o):b ∉ X.fs:=fun hb=>by
 have:=(ok.funs.mem hb).1
 rw [e] at this; cases this
theorem Inv.bs (I:Inv X pins σ H s):∀ b o,X.base.get? b = some o → s.heap.get? b = some o ∧ H b = none:=fun b o e=>
 ⟨I.base.keep b o (I.ok.bs b o e).1 (I.ok.bs b o e).2 (I.ok.nofr e) (I.ok.noex b o e),I.base.free b o (I.ok.bs b o e).1 (I.ok.bs b o e).2 (I.ok.noex b o e)⟩
theorem Inv.bk (I:Inv X pins σ H s):∀ b o,X.base.get? b = some o → s.heap.get? b = some o:=fun b o e=>(I.bs b o e).1
theorem Inv.mod (I:Inv X pins σ H s):Mod X.K X.mg X.base:=I.ok.mod
theorem Inv.kIn (I:Inv X pins σ H s):X.K.In s.heap:=I.ok.mod.kin.keeps I.bk
theorem Inv.lt (I:Inv X pins σ H s):X.env.locals < s.heap.objs.size:=let ⟨_,hn,_⟩:=I.loc; hn.lt
theorem Inv.sz (I:Inv X pins σ H s):X.s₀.heap.objs.size ≤ s.heap.objs.size:=Nat.le_trans I.ok.above (Nat.le_of_lt I.lt)
theorem Inv.nofs (I:Inv X pins σ H s) {a:Addr} (h:s.heap.objs.size ≤ a):a ∉ X.fs:=fun hb=>by
 obtain ⟨_,o,ho,_⟩:=I.ok.funs.mem hb
 exact absurd (Nat.lt_of_lt_of_le (Heap.lt_size ho) (Nat.le_trans I.sz h)) (Nat.lt_irrefl _)
theorem Inv.cne (I:Inv X pins σ H s):∀ x c,X.env.cells.lookup x = some c → c ≠ X.env.locals:=fun x c e z=>by
 obtain ⟨v,o,ho,hd⟩:=I.cell x c e
 obtain ⟨m,⟨o',es,ep,ho',hd',_⟩,_⟩:=I.loc
 rw [z,ho'] at ho; cases ho; rw [hd'] at hd; cases hd
theorem Inv.funs (I:Inv X pins σ H s):s.heap.FunFrames X.base X.outer:=by
 have all:∀ (l:List Env),(∀ b ∈ frs l,b ∈ X.fs) → X.s₀.heap.FunFrames X.base l → s.heap.FunFrames X.base l:=by
  intro l
  induction l with
  | nil=>intro _ _; trivial
  | cons env r ih=>
   intro hs hl
   obtain ⟨hk,⟨L,o,hf,hn,ho,hd⟩,hr⟩:=hl
   have hL:L ∈ X.fs:=hs L (by unfold frs; rw [List.filterMap_cons,hf]; exact List.mem_cons_self)
   obtain ⟨sl,e⟩:=I.base.slot L o ho (I.ok.frf L hL) hL fun z=>I.ok.exfs L z hL
   exact ⟨hk,⟨L,_,hf,hn,e,hd⟩,ih (fun b hb=>hs b (by unfold frs; rw [List.filterMap_cons,hf]; exact List.mem_cons_of_mem _ hb)) hr⟩
 exact all X.outer (fun _ hb=>hb) I.ok.funs
theorem Inv.stack (I:Inv X pins σ H s):s.heap.FunFrames X.base X.stack:=by
 rcases I.ok.stk with e | ⟨e,hf⟩
 ·rw [e]; exact I.funs
 ·rw [e]
  obtain ⟨m,hn,_⟩:=I.loc
  refine .cons (by rw [I.ok.kind]; decide) hf hn ?_ I.funs
  exact Heap.get?_none_of_le (Nat.le_trans I.ok.bsz I.ok.above)
theorem Inv.stkSub (I:Inv X pins σ H s):∀ b ∈ frs X.stack,b ∈ X.env.locals :: X.fs:=fun b hb=>by
 rcases I.ok.stk with e | ⟨e,hf⟩
 ·rw [e] at hb; exact List.mem_cons_of_mem _ hb
 ·rw [e] at hb
  unfold frs at hb
  rw [List.filterMap_cons,hf] at hb
  exact hb
theorem Inv.stkFree (I:Inv X pins σ H s):∀ b ∈ frs X.stack,H b = none:=fun b hb=>by
 rcases List.mem_cons.mp (I.stkSub b hb) with e | hb
 ·rw [e]; exact I.free
 ·obtain ⟨_,o,ho,_⟩:=I.ok.funs.mem hb
  exact I.base.free b o ho (I.ok.frf b hb) fun z=>I.ok.exfs b z hb
theorem Inv.step {g':Array GenState} {t':Nat} {d':Drawn} {ch:List Addr} (I:Inv X pins σ H s)
  (hch:∀ b ∈ ch,(b ∈ X.ex ∨ X.s₀.heap.objs.size ≤ b) ∧ b ≠ X.env.locals ∧ (∀ x c,X.env.cells.lookup x = some c → c ≠ b) ∧ ∀ p ∈ X.pn ++ pins,p.1 ≠ b)
  (keep:∀ b o,b ≠ X.env.locals → b ∉ X.fs → b ∉ ch → s.heap.get? b = some o → H b = none → h'.get? b = some o)
  (slot:∀ b o,b ≠ X.env.locals → b ∈ X.fs → b ∉ ch → s.heap.get? b = some o → H b = none → ∃ sl,h'.get? b = some { o with slots:=sl }) (free:∀ b o,b ∉ ch → s.heap.get? b = some o → H b = none → H' b = none)
  (there:∀ b o,b ∉ ch → s.heap.get? b = some o → ∃ o',h'.get? b = some o')
  (tups:∀ b xs,H b = some (.tup xs) → H' b = some (.tup xs)) (frzs:∀ b o u,H b = some (.frz o u) → H' b = some (.frz o u)) (tbls:∀ b ps,H b = some (.tbl ps) → ∃ more,H' b = some (.tbl (ps ++ more)))
  (ns:∀ m,s.heap.Ns X.env.locals m → h'.Ns X.env.locals m) (hok:HOk X.prog X.w H' h') (hg:AllBare g') :
  Inv X pins σ H' { s with heap:=h',gens:=g',drawn:=d',toks:=t' }:=by
 have neL:∀ b o,X.s₀.heap.get? b = some o → b ≠ X.env.locals:=fun b o e=>Nat.ne_of_lt (Nat.lt_of_lt_of_le (Heap.lt_size e) I.ok.above)
 have neC:∀ b o,X.s₀.heap.get? b = some o → b ∉ X.ex → b ∉ ch:=fun b o e hx hb=>by
  rcases (hch b hb).1 with z | z
  ·exact hx z
  ·exact absurd (Nat.lt_of_lt_of_le (Heap.lt_size e) z) (Nat.lt_irrefl _)
 have cellK:∀ x c,X.env.cells.lookup x = some c → ∀ v,s.heap.IsCell c v → h'.IsCell c v:=fun x c e v hQ__=>by
  obtain ⟨o,ho,hd⟩:=hQ__
  have nch:c ∉ ch:=fun z=>(hch c z).2.2.1 x c e rfl
  by_cases hc:c ∈ X.fs
  ·obtain ⟨sl,q⟩:=slot c o (I.cne x c e) hc nch ho (I.freeC x c e)
   exact ⟨_,q,hd⟩
  ·exact ⟨o,keep c o (I.cne x c e) hc nch ho (I.freeC x c e),hd⟩
 refine ⟨I.ok,I.os,hg,⟨fun b o e n hb hx=>?_,fun b o e n hb hx=>?_,fun b o e n hx=>?_,fun b o e hx=>?_,fun b xs e=>tups b xs (I.base.tups b xs e),fun b o xs e=>frzs b o xs (I.base.frzs b o xs e),fun b ps e=>?_⟩,?_,fun x c e=>?_,?_,fun x c e=>?_,fun p hp=>?_,hok,I.len⟩
 ·exact keep b o (neL b o e) hb (neC b o e hx) (I.base.keep b o e n hb hx) (I.base.free b o e n hx)
 ·obtain ⟨sl,e1⟩:=I.base.slot b o e n hb hx
  obtain ⟨sl',e2⟩:=slot b _ (neL b o e) hb (neC b o e hx) e1 (I.base.free b o e n hx)
  exact ⟨sl',e2⟩
 ·obtain ⟨o',e1⟩:=I.base.there b o e hx
  exact free b o' (neC b o e hx) e1 (I.base.free b o e n hx)
 ·obtain ⟨o',e1⟩:=I.base.there b o e hx
  exact there b o' (neC b o e hx) e1
 ·obtain ⟨m1,e1⟩:=I.base.tbls b ps e
  obtain ⟨m2,e2⟩:=tbls b _ e1
  exact ⟨m1 ++ m2,by rw [e2,Array.append_assoc]⟩
 ·obtain ⟨m,hn,hl⟩:=I.loc
  refine ⟨m,ns m hn,fun i x v e1 e2 e3=>?_⟩
  obtain ⟨u,r,l⟩:=hl i x v e1 e2 e3
  refine ⟨u,r,?_⟩
  rcases l with l | ⟨k,c,e,z⟩
  ·exact .inl l
  ·exact .inr ⟨k,c,e,cellK x c e _ z⟩
 ·obtain ⟨v,z⟩:=I.cell x c e
  exact ⟨v,cellK x c e v z⟩
 ·obtain ⟨m,⟨o,_,_,ho,_⟩,_⟩:=I.loc
  exact free _ o (fun z=>(hch _ z).2.1 rfl) ho I.free
 ·obtain ⟨v,o,ho,hd⟩:=I.cell x c e
  exact free c o (fun z=>(hch c z).2.2.1 x c e rfl) ho (I.freeC x c e)
 ·obtain ⟨e,n,ne,nf,d⟩:=I.pin p hp
  have nch:p.1 ∉ ch:=fun z=>(hch p.1 z).2.2.2 p hp rfl
  exact ⟨keep p.1 p.2 ne nf nch e n,free p.1 p.2 nch e n,ne,nf,d⟩
theorem Inv.un {t':Nat} (I:Inv X pins σ H s) (u:Un X.fs [] H H' s.heap h') (hok:HOk X.prog X.w H' h'):Inv X pins σ H' { s with heap:=h',toks:=t' }:=by
 obtain ⟨m,⟨o,es,ep,ho,r⟩,_⟩:=id I.loc
 obtain ⟨sl,hL⟩:=u.any ho I.free (by simp)
 exact I.step (g':=s.gens) (d':=s.drawn) (ch:=[]) (fun _ z=>nomatch z) (fun b o _ hb _ e n=>u.keep b o e n hb (by simp)) (fun b o _ hb _ e n=>u.slot b o e n hb (by simp)) (fun b o _ e n=>u.free b o e n (by simp)) (fun b o _ e=>u.there b o e (by simp)) u.tups u.frzs u.tbls (fun m' hm=>by
  obtain ⟨o',es',ep',ho',r'⟩:=hm
  rw [ho] at ho'; cases ho'
  exact ⟨_,es',ep',hL,r'⟩) hok I.bare
theorem Inv.call {g':Array GenState} {t':Nat} {d':Drawn} {ch:List Addr} (I:Inv X pins σ H s) (u:Un (frs X.stack) ch H H' s.heap h') (hok:HOk X.prog X.w H' h') (hg:AllBare g')
  (hch:∀ b ∈ ch,(b ∈ X.ex ∨ X.s₀.heap.objs.size ≤ b) ∧ b ≠ X.env.locals ∧ (∀ x c,X.env.cells.lookup x = some c → c ≠ b) ∧ ∀ p ∈ X.pn ++ pins,p.1 ≠ b) :
  Inv X pins σ H' { s with heap:=h',gens:=g',drawn:=d',toks:=t' }:=by
 obtain ⟨m,⟨o,es,ep,ho,r⟩,_⟩:=id I.loc
 obtain ⟨sl,hL⟩:=u.any ho I.free fun z=>(hch _ z).2.1 rfl
 exact I.step (ch:=ch) hch (fun b o hL hb hc e n=>u.keep b o e n (fun z=>(List.mem_cons.mp (I.stkSub b z)).elim hL hb) hc) (fun b o _ _ hc e n=>u.any e n hc) (fun b o hc e n=>u.free b o e n hc) (fun b o hc e=>u.there b o e hc) u.tups u.frzs u.tbls (fun m' hm=>by
  obtain ⟨o',es',ep',ho',r'⟩:=hm
  rw [ho] at ho'; cases ho'
  exact ⟨_,es',ep',hL,r'⟩) hok hg
theorem Inv.turned {t':Nat} {it:Addr} (I:Inv X pins σ H s) (k:∀ b o,b ≠ it → s.heap.get? b = some o → h'.get? b = some o) (hn:H it = none) (hL:it ≠ X.env.locals)
  (h1:it ∈ X.ex ∨ X.s₀.heap.objs.size ≤ it) (h2:∀ x c,X.env.cells.lookup x = some c → c ≠ it) (h3:∀ p ∈ X.pn ++ pins,p.1 ≠ it):Inv X pins σ H { s with heap:=h',toks:=t' }:=by
 have nit:∀ b u,H b = some u → b ≠ it:=fun b u e z=>by rw [z,hn] at e; cases e
 refine I.step (g':=s.gens) (d':=s.drawn) (ch:=[it]) (fun b hb=>?_) (fun b o _ _ hc e _=>k b o (fun z=>hc (by simp [z])) e) (fun b o _ _ hc e _=>⟨o.slots,k b o (fun z=>hc (by simp [z])) e⟩) (fun _ _ _ _ n=>n)
  (fun b o hc e=>⟨o,k b o (fun z=>hc (by simp [z])) e⟩) (fun _ _ e=>e) (fun _ _ _ e=>e) (fun b ps e=>⟨#[],by rw [e]; simp⟩) (fun m hm=>?_) (fun b u e=>?_) I.bare
 ·have e:b = it:=by simpa using hb
  subst e
  exact ⟨h1,hL,h2,h3⟩
 ·obtain ⟨o,es,ep,ho,r⟩:=hm
  exact ⟨o,es,ep,k _ o (Ne.symm hL) ho,r⟩
 ·refine (I.hok b u e).stay (fun c v hc q=>k c v ?_ q) (fun _ q=>q) fun _ _ q=>q
  rcases hc with z | z
  ·rw [z]; exact nit b u e
  ·exact nit c _ z
theorem Inv.tok (I:Inv X pins σ H s) (t:Nat):Inv X pins σ H { s with toks:=t }:=I.un (h':=s.heap) (t':=t) Un.refl I.hok
theorem Inv.kept {t':Nat} (I:Inv X pins σ H s) (k:∀ b u,s.heap.get? b = some u → h'.get? b = some u):Inv X pins σ H { s with heap:=h',toks:=t' }:=I.un (Un.kept k) (I.hok.kept k)
theorem Inv.laid {a:Addr} {o:HO} {t':Nat} (I:Inv X pins σ H s) (k:∀ b u,s.heap.get? b = some u → h'.get? b = some u) (hp:s.heap.objs.size ≤ a) (new:ObjOk X.prog X.w (upd H a o) h' a o) :
  Inv X pins σ (upd H a o) { s with heap:=h',toks:=t' }:=I.un (Un.laid k hp (I.hok.fresh hp)) (I.hok.laid k hp new)
theorem Inv.write {x e:Addr} {o:HO} {t':Nat} (I:Inv X pins σ H s) (mu:Mut (H x)) (he:e = x ∨ H e = some (.own x)) (k:∀ b u,b ≠ e → s.heap.get? b = some u → h'.get? b = some u) (heo:∃ u,h'.get? e = some u)
  (new:ObjOk X.prog X.w (upd H x o) h' x o):Inv X pins σ (upd H x o) { s with heap:=h',toks:=t' }:=I.un (Un.write mu he k heo) (I.hok.write mu he k heo new)
theorem Inv.weak {σ':List (Option V)} (I:Inv X pins σ H s) (hl:σ'.length = σ.length) (w:∀ (i:Nat) v,σ'[i]? = some (some v) → σ[i]? = some (some v)):Inv X pins σ' H s:=
 ⟨I.ok,I.os,I.bare,I.base,let ⟨m,hn,hl'⟩:=I.loc; ⟨m,hn,fun i x v e1 e2 e3=>hl' i x v e1 (w i v e2) e3⟩,I.cell,I.free,I.freeC,I.pin,I.hok,hl.trans I.len⟩
theorem Inv.pins_of {pins':List (Addr × Obj)} (I:Inv X pins σ H s) (h:∀ p ∈ pins',s.heap.get? p.1 = some p.2 ∧ H p.1 = none ∧ p.1 ≠ X.env.locals ∧ p.1 ∉ X.fs ∧ ∀ v,p.2.data ≠ .cell v):Inv X pins' σ H s:=
 ⟨I.ok,I.os,I.bare,I.base,I.loc,I.cell,I.free,I.freeC,fun p hp=>(List.mem_append.mp hp).elim (fun z=>I.pin p (List.mem_append_left _ z)) (h p),I.hok,I.len⟩
theorem a8V {N:List Str} (hN:N.Nodup) {i j:Nat} {x:Str} (a:N[i]? = some x) (b:N[j]? = some x):i = j:=by
 obtain ⟨h1,e1⟩:=List.getElem?_eq_some_iff.mp a
 obtain ⟨h2,e2⟩:=List.getElem?_eq_some_iff.mp b
 exact (List.getElem_inj hN).mp (e1.trans e2.symm)
theorem b4E {M:Model} {A:Around} {E:Value → Shared → Prop} {i:Nat} {x:Str} {v:V} {u:Value} {Q:Unit → Shared → Prop} (I:Inv X pins σ H s) (hN:X.N.Nodup) (hi:X.N[i]? = some x) (hx:Loc X.env.scope x) (r:RelV v u)
  (h:∀ s',Inv X pins (σ.set i (some v)) H s' → (∃ a,Heap.SameBut a s.heap s'.heap ∧ (a = X.env.locals ∨ X.env.cells.lookup x = some a)) → Q () s') (hf:X.fn x = true ∨ X.env.scope.names.lookup x = some .local:=by first | exact .inl rfl | exact .inr rfl | assumption):wpAny M A (storeName X.env x u) Q E s:=by
 obtain ⟨m,hn,hl⟩:=id I.loc
 have hcls:(X.env.scope.kind == .class || (X.env.scope.kind == .module && X.env.locals != X.env.globals)) = false:=by rw [I.ok.kind]; rfl
 have hiσ:i < σ.length:=by rw [I.len]; exact (List.getElem?_eq_some_iff.mp hi).1
 have cne:=I.cne
 have tracked:∀ {a:Addr} {h':Heap},(∃ o,s.heap.get? a = some o ∧ H a = none) → Heap.SameBut a s.heap h' → HOk X.prog X.w H h':=fun {a h'} ha hs b ob e=>by
  obtain ⟨_,_,hfree⟩:=ha
  refine (I.hok b ob e).stay (fun c w' hc q=>(hs.2 c ?_).trans q) (fun _ q=>q) fun _ _ q=>q
  rintro rfl
  rcases hc with rfl | hc
  ·rw [hfree] at e; cases e
  ·rw [hfree] at hc; cases hc
 rcases hx with hk | hk
 ·refine wpAny_storeName_local hk hn (fun h' hn' hs=>?_) hcls
  obtain ⟨oL,_,_,hoL,_⟩:=id hn
  refine h _ ⟨I.ok,I.os,I.bare,⟨fun b o e n hb hx=>?_,fun b o e n hb hx=>?_,I.base.free,fun b o e hx=>?_,I.base.tups,I.base.frzs,I.base.tbls⟩,⟨_,hn',fun j y v' e1 e2 e3=>?_⟩,fun y c e=>?_,I.free,I.freeC,fun p hp=>?_,tracked ⟨oL,hoL,I.free⟩ hs,by simpa using I.len⟩ ⟨_,hs,.inl rfl⟩
  ·exact (hs.2 b (Nat.ne_of_lt (Nat.lt_of_lt_of_le (Heap.lt_size e) I.ok.above))).trans (I.base.keep b o e n hb hx)
  ·obtain ⟨sl,e1⟩:=I.base.slot b o e n hb hx
   exact ⟨sl,(hs.2 b (Nat.ne_of_lt (Nat.lt_of_lt_of_le (Heap.lt_size e) I.ok.above))).trans e1⟩
  ·obtain ⟨o',e1⟩:=I.base.there b o e hx
   exact ⟨o',(hs.2 b (Nat.ne_of_lt (Nat.lt_of_lt_of_le (Heap.lt_size e) I.ok.above))).trans e1⟩
  ·by_cases hj:j = i
   ·subst hj
    rw [hi] at e1; cases e1
    rw [List.getElem?_set_self hiσ] at e2
    cases e2
    exact ⟨u,r,.inl ⟨hk,by simp⟩⟩
   ·rw [List.getElem?_set_ne (Ne.symm hj)] at e2
    obtain ⟨u',r',q⟩:=hl j y v' e1 e2 e3
    refine ⟨u',r',?_⟩
    rcases q with ⟨k,e⟩ | ⟨k,c,e,z⟩
    ·refine .inl ⟨k,?_⟩
     have:y ≠ x:=fun e=>hj (a8V hN e1 (e ▸ hi))
     simp [this,e]
    ·exact .inr ⟨k,c,e,z.sameBut hs (cne y c e)⟩
  ·obtain ⟨w',z⟩:=I.cell y c e
   exact ⟨w',z.sameBut hs (cne y c e)⟩
  ·obtain ⟨e,n,ne,nf,d⟩:=I.pin p hp
   exact ⟨(hs.2 p.1 ne).trans e,n,ne,nf,d⟩
 ·have hfn:X.fn x = true:=by
   rcases hf with z | z
   ·exact z
   ·rw [z] at hk; cases hk
  obtain ⟨c,hc⟩:=I.ok.has x (.inl hk)
  obtain ⟨w',z⟩:=I.cell x c hc
  refine wpAny_storeName_cell I.ok.kind hk hc z (fun h' hc' hs=>?_)
  obtain ⟨oc,hoc,hocd⟩:=id z
  refine h { s with heap:=h' } ⟨I.ok,I.os,I.bare,⟨fun b o e n hb hx=>?_,fun b o e n hb hx=>?_,I.base.free,fun b o e hx=>?_,I.base.tups,I.base.frzs,I.base.tbls⟩,⟨m,hn.sameBut hs (Ne.symm (cne x c hc)),fun j y v' e1 e2 e3=>?_⟩,fun y c' e=>?_,I.free,I.freeC,fun p hp=>?_,tracked ⟨oc,hoc,I.freeC x c hc⟩ hs,by simpa using I.len⟩ ⟨c,hs,.inr hc⟩
  ·exact (hs.2 b (Nat.ne_of_lt (Nat.lt_of_lt_of_le (Heap.lt_size e) (I.ok.cab x c hfn hc)))).trans (I.base.keep b o e n hb hx)
  ·obtain ⟨sl,e1⟩:=I.base.slot b o e n hb hx
   exact ⟨sl,(hs.2 b (Nat.ne_of_lt (Nat.lt_of_lt_of_le (Heap.lt_size e) (I.ok.cab x c hfn hc)))).trans e1⟩
  ·obtain ⟨o',e1⟩:=I.base.there b o e hx
   exact ⟨o',(hs.2 b (Nat.ne_of_lt (Nat.lt_of_lt_of_le (Heap.lt_size e) (I.ok.cab x c hfn hc)))).trans e1⟩
  ·by_cases hj:j = i
   ·subst hj
    rw [hi] at e1; cases e1
    rw [List.getElem?_set_self hiσ] at e2
    cases e2
    exact ⟨u,r,.inr ⟨.inl hk,c,hc,hc'⟩⟩
   ·rw [List.getElem?_set_ne (Ne.symm hj)] at e2
    obtain ⟨u',r',q⟩:=hl j y v' e1 e2 e3
    refine ⟨u',r',?_⟩
    rcases q with q | ⟨k,c',e,z'⟩
    ·exact .inl q
    ·refine .inr ⟨k,c',e,z'.sameBut hs ?_⟩
     rintro rfl
     exact hj (a8V hN e1 (I.ok.inj _ _ _ e hc ▸ hi))
  ·by_cases hcc:c' = c
   ·subst hcc; exact ⟨_,hc'⟩
   ·obtain ⟨w2,z2⟩:=I.cell y c' e
    exact ⟨w2,z2.sameBut hs hcc⟩
  ·obtain ⟨e,n,ne,nf,d⟩:=I.pin p hp
   refine ⟨(hs.2 p.1 ?_).trans e,n,ne,nf,d⟩
   intro q
   rw [q,hoc] at e
   have q':oc = p.2:=Option.some.inj e
   exact d w' (by rw [← q']; exact hocd)
theorem a1m {M:Model} {A:Around} {E:Value → Shared → Prop} {i:Nat} {x:Str} {v:V} {u:Value} {Q:Unit → Shared → Prop} (I:Inv X pins σ H s) (hN:X.N.Nodup) (hi:X.N[i]? = some x) (hx:Loc X.env.scope x) (r:RelV v u)
  (h:∀ s',Inv X pins (σ.set i (some v)) H s' → Q () s') (hf:X.fn x = true ∨ X.env.scope.names.lookup x = some .local:=by first | exact .inl rfl | exact .inr rfl | assumption):wpAny M A (storeName X.env x u) Q E s:=
 b4E I hN hi hx r (fun s' I' _=>h s' I') hf
theorem Inv.call' {s':Shared} {ch:List Addr} (I:Inv X pins σ H s) (ho:s'.os = s.os) (u:Un (frs X.stack) ch H H' s.heap s'.heap) (hok:HOk X.prog X.w H' s'.heap) (hg:AllBare s'.gens)
  (hch:∀ b ∈ ch,(b ∈ X.ex ∨ X.s₀.heap.objs.size ≤ b) ∧ b ≠ X.env.locals ∧ (∀ x c,X.env.cells.lookup x = some c → c ≠ b) ∧ ∀ p ∈ X.pn ++ pins,p.1 ≠ b):Inv X pins σ H' s':=by
 obtain ⟨h',g',d',t',o'⟩:=s'
 have e:o' = s.os:=ho
 subst e
 exact I.call (g':=g') (t':=t') (d':=d') u hok hg hch
end
noncomputable abbrev XK:=Value → Option Addr → Hp → Prop
noncomputable abbrev St:=List (Option V)
noncomputable abbrev VK:=V → Hp → Prop
noncomputable abbrev TE:=St → Hp → VK → Prop
noncomputable abbrev TT:=St → Hp → (Bool → Hp → Prop) → Prop
noncomputable abbrev TA:=St → Hp → (List V → Hp → Prop) → Prop
structure Ends where
 nx:St → Hp → Prop
 rt:VK
 bk:St → Hp → Prop:=fun _ _=>False
 ct:St → Hp → Prop:=fun _ _=>False
noncomputable abbrev TS:=Ends → St → Hp → Prop
noncomputable def EP (X:Cx) (pins:List (Addr × Obj)) (σ:St) (Q:VK) (u:Value) (s':Shared):Prop:=∃ v H',Inv X pins σ H' s' ∧ RelV v u ∧ Q v H'
noncomputable def TP (X:Cx) (pins:List (Addr × Obj)) (σ:St) (Q:Bool → Hp → Prop) (b:Bool) (s':Shared):Prop:=∃ H',Inv X pins σ H' s' ∧ Q b H'
noncomputable def AP (X:Cx) (pins:List (Addr × Obj)) (σ:St) (Q:List V → Hp → Prop) (us:List Value) (s':Shared):Prop:=∃ vs H',Inv X pins σ H' s' ∧ Vals vs us ∧ Q vs H'
noncomputable def SP (X:Cx) (pins:List (Addr × Obj)) (D:Ends) (f:Flow) (s':Shared):Prop:=
 match f with
 | .next=>∃ σ' H',Inv X pins σ' H' s' ∧ D.nx σ' H'
 | .brk=>∃ σ' H',Inv X pins σ' H' s' ∧ D.bk σ' H'
 | .cont=>∃ σ' H',Inv X pins σ' H' s' ∧ D.ct σ' H'
 | .ret u=>∃ v σ' H',Inv X pins σ' H' s' ∧ RelV v u ∧ D.rt v H'
noncomputable def PE (X:Cx) (e:Expr) (t:TE):Prop:=
 ∀ (pins:List (Addr × Obj)) (s:Shared) (σ:St) (H:Hp) (Q:VK),Inv X pins σ H s → t σ H Q → wpAny (model X.prog X.w) X.A (eval e X.env) (EP X pins σ Q) X.xe s
noncomputable def PT (X:Cx) (e:Expr) (t:TT):Prop:=
 ∀ (pins:List (Addr × Obj)) (s:Shared) (σ:St) (H:Hp) (Q:Bool → Hp → Prop),Inv X pins σ H s → t σ H Q → wpAny (model X.prog X.w) X.A (isTrue e X.env (eval e X.env)) (TP X pins σ Q) X.xe s
noncomputable def PW (X:Cx) (e:Expr) (t:TT):Prop:=
 ∀ (whole:Sem Value) (pins:List (Addr × Obj)) (s:Shared) (σ:St) (H:Hp) (Q:Bool → Hp → Prop),Inv X pins σ H s → t σ H Q → wpAny (model X.prog X.w) X.A (isTrue e X.env whole) (TP X pins σ Q) X.xe s
theorem PW.pt {X:Cx} {e:Expr} {t:TT} (h:PW X e t):PT X e t:=h _
noncomputable def PA (X:Cx) (es:List Expr) (t:TA):Prop:=
 ∀ (pos:Pos) (pins:List (Addr × Obj)) (s:Shared) (σ:St) (H:Hp) (Q:List V → Hp → Prop),Inv X pins σ H s → t σ H Q → wpAny (model X.prog X.w) X.A (spliced (backTo pos (starEach es X.env))) (AP X pins σ Q) X.xe s
noncomputable def PS (X:Cx) (st:Stmt) (t:TS):Prop:=
 ∀ (pins:List (Addr × Obj)) (s:Shared) (σ:St) (H:Hp) (D:Ends),Inv X pins σ H s → t D σ H → wpAny (model X.prog X.w) X.A (exec st X.env) (SP X pins D) X.xe s
noncomputable def PSs (X:Cx) (st:List Stmt) (t:TS):Prop:=
 ∀ (pins:List (Addr × Obj)) (s:Shared) (σ:St) (H:Hp) (D:Ends),Inv X pins σ H s → t D σ H → wpAny (model X.prog X.w) X.A (execs st X.env) (SP X pins D) X.xe s
theorem thn {α:Type} {t:Sem α} {Q Q':α → Shared → Prop} {M:Model} {A:Around} {E:Value → Shared → Prop} {s:Shared} (h:wpAny M A t Q E s) (hQ:∀ a s,Q a s → Q' a s):wpAny M A t Q' E s:=wpAny_mono h hQ fun _ _ x=>x
section
variable {X:Cx}
noncomputable def N5 (i:Nat):TE:=fun σ H Q=>∃ v,σ[i]? = some (some v) ∧ Q v H
noncomputable def tC (v:V):TE:=fun _ H Q=>Q v H
theorem b0m {i:Nat} {x:Str} {pos:Pos} (hN:X.N[i]? = some x) (hv:Vis X.env.scope x) (hd:(x == ("__debug__" : Str)) = false:=by decide) (hcd:(x == ("__classdict__" : Str)) = false:=by decide):PE X (.Name x pos) (N5 i):=by
 intro pins s σ H Q I h
 obtain ⟨v,e,h⟩:=h
 obtain ⟨m,hn,hl⟩:=I.loc
 obtain ⟨u,r,l⟩:=hl i x v hN e hv
 have fin:EP X pins σ Q u s:=⟨v,H,I,r,h⟩
 rcases l with ⟨hk,hm⟩ | ⟨hk,c,hc,hcell⟩
 ·exact wpAny_Name (wpAny_loadName_local I.ok.kind hk hn hm fin) hd
 ·rcases hk with hk | hk
  ·exact wpAny_Name (wpAny_loadName_cell I.ok.kind hk hc hcell fin) hd
  ·exact wpAny_Name (wpAny_loadName_free I.ok.kind hk hc hcell fin hcd) hd
theorem P6 {i j pos}:PE X (.Constant (.int i) j pos) (tC (.int i)):=fun _ _ _ H _ I h=>wpAny_Constant_int ⟨.int i,H,I.tok _,⟨_,rfl⟩,h⟩
theorem b13 {b j pos}:PE X (.Constant (.bool b) j pos) (tC (.bl b)):=fun _ _ _ H _ I h=>Constant_bool ⟨.bl b,H,I,rfl,h⟩
theorem b25 {j pos}:PE X (.Constant .none j pos) (tC .non):=fun _ _ _ H _ I h=>Constant_none ⟨.non,H,I,rfl,h⟩
theorem b1N {x j pos}:PE X (.Constant (.str x) j pos) (tC (.str x)):=fun _ _ _ H _ I h=>Calls.Constant_str ⟨.str x,H,I.tok _,⟨_,rfl⟩,h⟩
noncomputable def Gl (X:Cx) (x:Str):Prop:=X.env.kindOf x = some .globalImplicit
theorem b3p {E:Value → Shared → Prop} {pins:List (Addr × Obj)} {s:Shared} {σ:St} {H:Hp} {x:Str} {u:Value} {pos:Pos} {Q:Value → Shared → Prop} (I:Inv X pins σ H s) (hg:Gl X x) (hm:X.mg x = some u) (h:Q u s)
  (hd:(x == ("__debug__" : Str)) = false:=by decide):wpAny (model X.prog X.w) X.A (eval (.Name x pos) X.env) Q E s:=
 Calls.Name_function_global I.ok.kind hg (Calls.loadGlobal_global (by rw [I.ok.glob]; exact I.mod.glob.keeps I.bk) hm h) hd
theorem P9 {E:Value → Shared → Prop} {pins:List (Addr × Obj)} {s:Shared} {σ:St} {H:Hp} {x:Str} {u:Value} {pos:Pos} {Q:Value → Shared → Prop} (I:Inv X pins σ H s) (hg:Gl X x) (hm:X.mg x = none) (hv:bootBuiltins x = some u) (h:Q u s)
  (hn:x ≠ "__name__" := by decide) (hd:(x == ("__debug__" : Str)) = false:=by decide):wpAny (model X.prog X.w) X.A (eval (.Name x pos) X.env) Q E s:=by
 obtain ⟨mb,h1,h2⟩:=I.mod.blt
 exact Calls.Name_function_global I.ok.kind hg (Calls.loadGlobal_builtin (by rw [I.ok.glob]; exact I.mod.glob.keeps I.bk) hm (by rw [I.ok.blt]; exact h1.keeps I.bk) ((h2 x hn).trans hv) h) hd
theorem a9l {x:Str} {v:V} {u:Value} {pos:Pos} (hg:Gl X x) (hm:X.mg x = none) (hv:bootBuiltins x = some u) (r:RelV v u) (hn:x ≠ "__name__" := by decide) (hd:(x == ("__debug__" : Str)) = false:=by decide):PE X (.Name x pos) (tC v):=
 fun _ _ _ H _ I h=>P9 I hg hm hv ⟨v,H,I,r,h⟩ hn hd
variable {a b:Expr} {ta tb:TE} {pos:Pos}
variable {tA tB':TT} {rest:List Expr}
noncomputable def b2q (t u:TT):TT:=fun σ H Q=>t σ H fun c H1=>if c = true then u σ H1 Q else Q false H1
noncomputable def tOr (t u:TT):TT:=fun σ H Q=>t σ H fun c H1=>if c = true then Q true H1 else u σ H1 Q
noncomputable def b3D (t:TT):TT:=fun σ H Q=>t σ H fun c H1=>Q (!c) H1
theorem b0D (ha:PT X a tA):PW X (.BoolOp .And [a] pos) tA:=by
 intro wh pins s σ H Q I h
 refine isTrue_and (thn (ha pins s σ H Q I h) fun c s1 e=>?_)
 cases c with
 | true=>exact isTrue_and_nil e
 | false=>exact e
theorem b2C (ha:PT X a tA):PW X (.BoolOp .Or [a] pos) tA:=by
 intro wh pins s σ H Q I h
 refine isTrue_or (thn (ha pins s σ H Q I h) fun c s1 e=>?_)
 cases c with
 | false=>exact isTrue_or_nil e
 | true=>exact e
theorem a9f (ha:PT X a tA) (hb:PW X (.BoolOp .And (b :: rest) pos) tB'):PW X (.BoolOp .And (a :: b :: rest) pos) (b2q tA tB'):=by
 intro wh pins s σ H Q I h
 refine isTrue_and (thn (ha pins s σ H _ I h) fun c s1 ⟨H1,I1,q1⟩=>?_)
 cases c with
 | true=>exact hb wh pins s1 σ H1 Q I1 q1
 | false=>exact ⟨H1,I1,q1⟩
theorem b5i (ha:PT X a tA) (hb:PW X (.BoolOp .Or (b :: rest) pos) tB'):PW X (.BoolOp .Or (a :: b :: rest) pos) (tOr tA tB'):=by
 intro wh pins s σ H Q I h
 refine isTrue_or (thn (ha pins s σ H _ I h) fun c s1 ⟨H1,I1,q1⟩=>?_)
 cases c with
 | true=>exact ⟨H1,I1,q1⟩
 | false=>exact hb wh pins s1 σ H1 Q I1 q1
theorem b58 (ha:PT X a tA):PT X (.UnaryOp .Not a pos) (b3D tA):=by
 intro pins s σ H Q I h
 exact isTrue_not (ha pins s σ H (fun c H1=>Q (!c) H1) I h)
noncomputable def b6E (ta tb:TE):TE:=fun σ H Q=>ta σ H fun x H1=>∃ c,x = .bl c ∧ if c = true then tb σ H1 Q else Q (.bl false) H1
noncomputable def a9z (ta tb:TE):TE:=fun σ H Q=>ta σ H fun x H1=>∃ c,x = .bl c ∧ if c = true then Q (.bl true) H1 else tb σ H1 Q
noncomputable def a9e (ta:TE):TE:=fun σ H Q=>ta σ H fun x H1=>∃ c,x = .bl c ∧ Q (.bl (!c)) H1
theorem b17 {op} {t:TE} (h:PE X a t):PE X (.BoolOp op [a] pos) t:=fun pins s σ H Q I hw=>BoolOp_one (h pins s σ H Q I hw)
theorem a9R (ha:PE X a ta) (hb:PE X (.BoolOp .And (b :: rest) pos) tb):PE X (.BoolOp .And (a :: b :: rest) pos) (b6E ta tb):=by
 intro pins s σ H Q I h
 refine BoolOp_and (thn (ha pins s σ H _ I h) fun v s1 ⟨x,H1,I1,r1,q1⟩=>?_)
 obtain ⟨c,rfl,q1⟩:=q1
 cases r1
 refine wpAny_truthy_bool ?_
 cases c with
 | true=>exact hb pins s1 σ H1 Q I1 q1
 | false=>exact ⟨.bl false,H1,I1,rfl,q1⟩
theorem b2o (ha:PE X a ta) (hb:PE X (.BoolOp .Or (b :: rest) pos) tb):PE X (.BoolOp .Or (a :: b :: rest) pos) (a9z ta tb):=by
 intro pins s σ H Q I h
 refine BoolOp_or (thn (ha pins s σ H _ I h) fun v s1 ⟨x,H1,I1,r1,q1⟩=>?_)
 obtain ⟨c,rfl,q1⟩:=q1
 cases r1
 refine wpAny_truthy_bool ?_
 cases c with
 | false=>exact hb pins s1 σ H1 Q I1 q1
 | true=>exact ⟨.bl true,H1,I1,rfl,q1⟩
theorem b4r (ha:PE X a ta):PE X (.UnaryOp .Not a pos) (a9e ta):=by
 intro pins s σ H Q I h
 refine UnaryOp_ (thn (ha pins s σ H _ I h) fun v s1 ⟨x,H1,I1,r1,q1⟩=>?_)
 obtain ⟨c,rfl,q1⟩:=q1
 cases r1
 exact not_of (wpAny_truthy_bool ⟨.bl (!c),H1,I1,rfl,q1⟩)
noncomputable def tIf (t:TT) (ta tb:TE):TE:=fun σ H Q=>t σ H fun c H1=>if c = true then ta σ H1 Q else tb σ H1 Q
theorem b2H {c:Expr} (hc:PT X c tA) (ha:PE X a ta) (hb:PE X b tb):PE X (.IfExp c a b pos) (tIf tA ta tb):=by
 intro pins s σ H Q I h
 refine wpAny_IfExp (thn (hc pins s σ H _ I h) fun d s1 ⟨H1,I1,q1⟩=>?_)
 cases d with
 | true=>exact ha pins s1 σ H1 Q I1 q1
 | false=>exact hb pins s1 σ H1 Q I1 q1
end
noncomputable def SqL (K:PySem.W.Frag) (H:Hp) (a:Addr) (xs:List V):Prop:=
 Rd H a (.lst xs) ∨
  ∃ (o:Obj) (its:Array Value) (n:Nat),K.lookup a = some o ∧ o.cls = .type "list" ∧ o.dict = none ∧ o.data = .seq its n ∧ its.size ≤ sizeLine ∧ Vals xs its.toList
noncomputable def SqT (K:PySem.W.Frag) (H:Hp) (a:Addr) (xs:List V):Prop:=
 Rd H a (.tup xs) ∨
  ∃ (o:Obj) (its:Array Value) (n:Nat),K.lookup a = some o ∧ o.cls = .type "tuple" ∧ o.data = .seq its n ∧ its.size ≤ sizeLine ∧ Vals xs its.toList
noncomputable def b5V:Value → Option V
 | .none=>some .non
 | .bool b=>some (.bl b)
 | .int i _=>some (.int i)
 | .str x _=>some (.str x)
 | .bytes b _=>some (.byt b)
 | .float b _=>some (.flt b)
 | .ref a=>some (.ref a)
 | .type n=>some (.ty n)
 | _=>none
theorem RelV.abs {x:V} {u:Value} (r:RelV x u):b5V u = some x:=by
 cases x with
 | non=>cases r; rfl
 | bl _=>cases r; rfl
 | int _=>obtain ⟨t,rfl⟩:=r; rfl
 | str _=>obtain ⟨t,rfl⟩:=r; rfl
 | byt _=>obtain ⟨t,rfl⟩:=r; rfl
 | flt _=>obtain ⟨t,rfl⟩:=r; rfl
 | ref _=>cases r; rfl
 | ty _=>cases r; rfl
theorem RelV.inj {x y:V} {u:Value} (r:RelV x u) (q:RelV y u):x = y:=Option.some.inj (r.abs.symm.trans q.abs)
theorem Vals.inj:∀ {xs ys:List V} {us:List Value},Vals xs us → Vals ys us → xs = ys:=by
 intro xs ys us h
 induction h generalizing ys with
 | nil=>
  intro h2
  cases h2
  rfl
 | cons r t ih=>
  intro h2
  cases h2 with
  | cons r' t'=>rw [r.inj r',ih t']
section
variable {X:Cx} {pins:List (Addr × Obj)} {σ:St} {H:Hp} {s:Shared} {a:Addr} {xs ys:List V}
theorem SqL.of {K:PySem.W.Frag} (h:H a = some (.lst xs)):SqL K H a xs:=.inl (.inl h)
theorem SqT.of {K:PySem.W.Frag} (h:H a = some (.tup xs)):SqT K H a xs:=.inl (.inl h)
theorem Inv.list (I:Inv X pins σ H s) (h:SqL X.K H a xs):∃ its:List Value,Vals xs its ∧ PlainL s.heap a its.toArray ∧ xs.length ≤ sizeLine:=by
 rcases h with h | ⟨o,its,n,hk,hc,hd,hs,hz,r⟩
 ·obtain ⟨z,its,n,r,e⟩:=h.ok I.hok
  exact ⟨its,r,⟨_,n,e,rfl,rfl,rfl⟩,z⟩
 ·refine ⟨its.toList,r,⟨o,n,I.kIn a o hk,hc,hd,by simpa using hs⟩,?_⟩
  have e:=r.length
  simp only [Array.length_toList] at e
  omega
theorem Inv.tuple (I:Inv X pins σ H s) (h:SqT X.K H a xs):∃ its:List Value,Vals xs its ∧ IsTup s.heap a its.toArray ∧ xs.length ≤ sizeLine:=by
 rcases h with h | ⟨o,its,n,hk,hc,hs,hz,r⟩
 ·obtain ⟨z,its,r,p⟩:=h.ok I.hok
  exact ⟨its,r,p,z⟩
 ·refine ⟨its.toList,r,⟨o,I.kIn a o hk,hc,n,by simpa using hs⟩,?_⟩
  have e:=r.length
  simp only [Array.length_toList] at e
  omega
theorem Inv.list_inj (I:Inv X pins σ H s) (h:SqL X.K H a xs) (h':SqL X.K H a ys):xs = ys:=by
 obtain ⟨its,r,⟨o,n,e,_,_,d⟩,_⟩:=I.list h
 obtain ⟨its',r',⟨o',n',e',_,_,d'⟩,_⟩:=I.list h'
 rw [e] at e'; cases e'
 rw [d] at d'
 injection d' with d1 _
 have:its = its':=by simpa using congrArg Array.toList d1
 subst this
 exact r.inj r'
theorem Inv.tuple_inj (I:Inv X pins σ H s) (h:SqT X.K H a xs) (h':SqT X.K H a ys):xs = ys:=by
 obtain ⟨its,r,⟨o,e,_,n,d⟩,_⟩:=I.tuple h
 obtain ⟨its',r',⟨o',e',_,n',d'⟩,_⟩:=I.tuple h'
 rw [e] at e'; cases e'
 rw [d] at d'
 injection d' with d1 _
 have:its = its':=by simpa using congrArg Array.toList d1
 subst this
 exact r.inj r'
end
noncomputable abbrev Cx.wish (X:Cx) (E:Value → Shared → Prop):Cx:={ X with xe:=E }
noncomputable abbrev Cx.nox (X:Cx):Cx:=X.wish fun _ _=>False
theorem Cx.Ok.wish {X:Cx} (ok:X.Ok) (E:Value → Shared → Prop):(X.wish E).Ok:=
 ⟨ok.mod,ok.kind,ok.glob,ok.blt,ok.above,ok.inj,ok.has,ok.cab,ok.hd,ok.frames,ok.stk,ok.exf,ok.bs,ok.bsz,ok.noex,ok.exfs,ok.funs,ok.frf⟩
theorem Cx.Ok.unwish {X:Cx} {E:Value → Shared → Prop} (ok:(X.wish E).Ok):X.Ok:=
 ⟨ok.mod,ok.kind,ok.glob,ok.blt,ok.above,ok.inj,ok.has,ok.cab,ok.hd,ok.frames,ok.stk,ok.exf,ok.bs,ok.bsz,ok.noex,ok.exfs,ok.funs,ok.frf⟩
section
variable {X:Cx} {pins:List (Addr × Obj)} {σ:St} {H:Hp} {s:Shared} {E:Value → Shared → Prop}
theorem Inv.wish (I:Inv X pins σ H s) (E:Value → Shared → Prop):Inv (X.wish E) pins σ H s:=⟨I.ok.wish E,I.os,I.bare,I.base,I.loc,I.cell,I.free,I.freeC,I.pin,I.hok,I.len⟩
theorem Inv.unwish (I:Inv (X.wish E) pins σ H s):Inv X pins σ H s:=⟨I.ok.unwish,I.os,I.bare,I.base,I.loc,I.cell,I.free,I.freeC,I.pin,I.hok,I.len⟩
theorem SP.unwish {D:Ends} {f:Flow} {s':Shared} (h:SP (X.wish E) pins D f s'):SP X pins D f s':=by
 cases f with
 | next=>obtain ⟨σ',H',I,q⟩:=h; exact ⟨σ',H',I.unwish,q⟩
 | brk=>obtain ⟨σ',H',I,q⟩:=h; exact ⟨σ',H',I.unwish,q⟩
 | cont=>obtain ⟨σ',H',I,q⟩:=h; exact ⟨σ',H',I.unwish,q⟩
 | ret u=>obtain ⟨v,σ',H',I,r,q⟩:=h; exact ⟨v,σ',H',I.unwish,r,q⟩
theorem PSs.nox {st:List Stmt} {t:TS} (h:PSs X.nox st t):PSs X st t:=fun pins s σ H D I hw=>
 wpAny_mono (h pins s σ H D (I.wish _) hw) (fun _ _ q=>q.unwish) fun _ _ z=>False.elim z
end
section
variable {X:Cx} {st:Stmt} {rest:List Stmt} {t u:TS} {e:Expr} {te:TE} {pos:Pos}
noncomputable def b5w:TS:=fun D σ H=>D.nx σ H
noncomputable def b5t (t u:TS):TS:=fun D σ H=>t { D with nx:=u D } σ H
theorem b2E:PSs X [] b5w:=fun _ _ σ H _ I h=>wpAny_execs_nil ⟨σ,H,I,h⟩
theorem a94 (h1:PS X st t) (h2:PSs X rest u):PSs X (st :: rest) (b5t t u):=by
 intro pins s σ H D I h
 refine wpAny_execs_cons (thn (h1 pins s σ H { D with nx:=u D } I h) fun f s1 q=>?_)
 cases f with
 | next=>
  obtain ⟨σ',H',I',q⟩:=q
  exact h2 pins s1 σ' H' D I' q
 | ret v=>exact q
 | brk=>exact q
 | cont=>exact q
theorem a9K (h1:PS X st t):PSs X [st] t:=by
 intro pins s σ H D I h
 refine wpAny_execs_cons (thn (h1 pins s σ H D I h) fun f s1 q=>?_)
 cases f with
 | next=>exact wpAny_execs_nil q
 | ret v=>exact q
 | brk=>exact q
 | cont=>exact q
theorem Inv.quiet {pins:List (Addr × Obj)} {σ:St} {H:Hp} {s:Shared} (I:Inv X pins σ H s):interactive X.env = false:=by simp [interactive,I.ok.kind]
noncomputable def b3X (te:TE):TS:=fun D σ H=>te σ H fun _ H1=>D.nx σ H1
theorem b21 (he:PE X e te) (hs:swapsWith e none pos.line X.env = pure false:=by rfl):PS X (.Expr e pos) (b3X te):=by
 intro pins s σ H D I h
 exact wpAny_Expr_any (thn (he pins s σ H _ I h) fun v s1 ⟨x,H1,I1,r1,q1⟩=>⟨σ,H1,I1,q1⟩) I.quiet hs
noncomputable def b3N (te:TE):TS:=fun D σ H=>te σ H D.rt
theorem b2n (he:PE X e te):PS X (.Return (some e) pos) (b3N te):=by
 intro pins s σ H D I h
 exact wpAny_Return_some (thn (he pins s σ H _ I h) fun v s1 ⟨x,H1,I1,r1,q1⟩=>⟨x,σ,H1,I1,r1,q1⟩)
noncomputable def b5O (c:TT) (t u:TS):TS:=fun D σ H=>c σ H fun b H1=>if b = true then t D σ H1 else u D σ H1
theorem b2h {c:Expr} {a b:List Stmt} {tc:TT} (hc:PT X c tc) (ha:PSs X a t) (hb:PSs X b u):PS X (.If c a b pos) (b5O tc t u):=by
 intro pins s σ H D I h
 refine wpAny_If (thn (hc pins s σ H _ I h) fun d s1 ⟨H1,I1,q1⟩=>?_)
 cases d with
 | true=>exact ha pins s1 σ H1 D I1 q1
 | false=>exact hb pins s1 σ H1 D I1 q1
end
noncomputable abbrev TG:=V → St → Hp → (St → Hp → Prop) → Prop
noncomputable abbrev TGs:=List V → St → Hp → (St → Hp → Prop) → Prop
noncomputable def PG (X:Cx) (target:Expr) (t:TG):Prop:=
 ∀ (pins:List (Addr × Obj)) (s:Shared) (σ:St) (H:Hp) (v:V) (u:Value) (Q:St → Hp → Prop),Inv X pins σ H s → RelV v u → t v σ H Q →
  wpAny (model X.prog X.w) X.A (assign target X.env u) (fun _ s'=>∃ σ' H',Inv X pins σ' H' s' ∧ Q σ' H') X.xe s
noncomputable def PGs (X:Cx) (ts:List Expr) (t:TGs):Prop:=
 ∀ (pins:List (Addr × Obj)) (s:Shared) (σ:St) (H:Hp) (vs:List V) (us:List Value) (Q:St → Hp → Prop),Inv X pins σ H s → Vals vs us → t vs σ H Q →
  wpAny (model X.prog X.w) X.A (assignInOrder ((assignEach ts X.env).map (·.2)) us) (fun _ s'=>∃ σ' H',Inv X pins σ' H' s' ∧ Q σ' H') X.xe s
noncomputable abbrev a1V:=V → V → V → Hp → (Hp → Prop) → Prop
noncomputable def a8l (X:Cx) (t:a1V):Prop:=
 ∀ (pins:List (Addr × Obj)) (s:Shared) (σ:St) (H:Hp) (o i v:V) (ov iv u:Value) (Q:Hp → Prop),Inv X pins σ H s → RelV o ov → RelV i iv → RelV v u → t o i v H Q →
  wpAny (model X.prog X.w) X.A (setItem ov iv u) (fun _ s'=>∃ H',Inv X pins σ H' s' ∧ Q H') X.xe s
section
variable {X:Cx} {pos:Pos}
noncomputable def K7 (i:Nat):TG:=fun v σ H Q=>Q (σ.set i (some v)) H
theorem F8 {i:Nat} {x:Str} (hN:X.N.Nodup) (hi:X.N[i]? = some x) (hx:Loc X.env.scope x) (hf:X.fn x = true ∨ X.env.scope.names.lookup x = some .local:=by first | exact .inl rfl | exact .inr rfl | assumption):PG X (.Name x pos) (K7 i):=by
 intro pins s σ H v u Q I r h
 exact wpAny_assign_Name (a1m I hN hi hx r (fun s' I'=>⟨_,H,I',h⟩) hf)
noncomputable def a3R:TGs:=fun vs σ H Q=>vs = [] ∧ Q σ H
noncomputable def X2 (t:TG) (u:TGs):TGs:=fun vs σ H Q=>∃ v r,vs = v :: r ∧ t v σ H fun σ' H'=>u r σ' H' Q
theorem a3e:PGs X [] a3R:=by
 intro pins s σ H vs us Q I r h
 obtain ⟨e,h⟩:=h
 subst e
 cases r
 exact assignInOrder_nil ⟨σ,H,I,h⟩
theorem a0h {e:Expr} {es:List Expr} {t:TG} {u:TGs} (h1:PG X e t) (h2:PGs X es u)
  (hs:(assignEach (e :: es) X.env).map (·.2) = assign e X.env :: (assignEach es X.env).map (·.2):=by rfl):PGs X (e :: es) (X2 t u):=by
 intro pins s σ H vs us Q I r h
 obtain ⟨v,vr,e1,h⟩:=h
 subst e1
 cases r with
 | cons r rr=>
  rw [hs]
  refine assignInOrder_cons (thn (h1 pins s σ H _ _ _ I r h) fun _ s1 ⟨σ1,H1,I1,q1⟩=>?_)
  exact h2 pins s1 σ1 H1 _ _ Q I1 rr q1
noncomputable def a4e (K:PySem.W.Frag) (n:Nat) (t:TGs):TG:=fun v σ H Q=>∃ a xs,v = .ref a ∧ SqT K H a xs ∧ xs.length = n ∧ t xs σ H Q
theorem a3S {es:List Expr} {k:Nat} {t:TGs} {n:Nat} (hc:X.calm = true) (h:PGs X es t)
  (hn:(assignEach es X.env).length = n:=by rfl) (hst:(assignEach es X.env).findIdx? (·.1) = none:=by rfl):PG X (.Tuple es k pos) (a4e X.K n t):=by
 intro pins s σ H v u Q I r hw
 obtain ⟨a,xs,e1,hq,hl,hw⟩:=hw
 subst e1
 cases r
 obtain ⟨its,rv,ht,hz⟩:=I.tuple hq
 refine assign_Tuple_tuple (I.ok.hd hc) ht (by simp [hn,← hl,rv.length]) hst fun h' hx=>?_
 have I1:Inv X pins σ H { s with heap:=h' }:=I.kept (t':=s.toks) fun b o e=>hx b o (Nat.ne_of_lt (Heap.lt_size e)) e
 exact h pins _ σ H xs _ Q I1 (by simpa using rv) hw
noncomputable def b1H (to ti:TE) (t:a1V):TG:=fun v σ H Q=>to σ H fun o H1=>ti σ H1 fun i H2=>t o i v H2 fun H3=>Q σ H3
theorem b5Y {o i:Expr} {to ti:TE} {t:a1V} (ho:PE X o to) (hi:PE X i ti) (hs:a8l X t)
  (ha:∀ v,assign (.Subscript o i pos) X.env v = (do
   let ov ← holding [v] (eval o X.env)
   let iv ← holding [v,ov] (eval i X.env)
   standAt pos
   holding [v,ov,iv] (setItem ov iv v)
   release [v,ov,iv] []):=by intro _; rfl):PG X (.Subscript o i pos) (b1H to ti t):=by
 intro pins s σ H v u Q I r h
 rw [ha]
 refine wpAny_bind (wpAny_holding (thn (ho pins s σ H _ I h) fun ov s1 ⟨x,H1,I1,r1,q1⟩=>?_))
 refine wpAny_bind (wpAny_holding (thn (hi pins s1 σ H1 _ I1 q1) fun iv s2 ⟨y,H2,I2,r2,q2⟩=>?_))
 refine wpAny_bind (wpAny_standAt (wpAny_bind (wpAny_holding (thn (hs pins s2 σ H2 x y v ov iv u _ I2 r1 r2 r q2) fun _ s3 ⟨H3,I3,q3⟩=>?_))))
 exact wpAny_release ⟨σ,H3,I3,q3⟩
noncomputable def a0g (te:TE) (g:TG):TS:=fun D σ H=>te σ H fun x H1=>g x σ H1 D.nx
theorem a6C {tg e:Expr} {te:TE} {g:TG} (he:PE X e te) (hg:PG X tg g) (hs:swapsWithSole [tg] e pos.line X.env = pure false:=by rfl) (hw:swappedStores [tg] e X.env = pure none:=by rfl)
  (h1:(assignEach [tg] X.env).map (·.2) = [assign tg X.env]:=by rfl):PS X (.Assign [tg] e pos) (a0g te g):=by
 intro pins s σ H D I h
 refine wpAny_Assign_stores (thn (he pins s σ H _ I h) fun v s1 ⟨x,H1,I1,r1,q1⟩=>?_) hs hw
 rw [h1]
 exact thn (hg pins s1 σ H1 x v _ I1 r1 q1) fun _ s2 q=>q
theorem a8O {i:Nat} {x:Str} {e:Expr} {te:TE} {pos':Pos} (hN:X.N.Nodup) (hi:X.N[i]? = some x) (hx:Loc X.env.scope x) (he:PE X e te) (hs:swapsWith e (some (.Name x pos')) pos.line X.env = pure false:=by rfl) (hf:X.fn x = true ∨ X.env.scope.names.lookup x = some .local:=by first | exact .inl rfl | exact .inr rfl | assumption) :
  PS X (.Assign [.Name x pos'] e pos) (a0g te (K7 i)):=by
 intro pins s σ H D I h
 refine wpAny_Assign_Name (thn (he pins s σ H _ I h) fun v s1 ⟨y,H1,I1,r1,q1⟩=>?_) hs
 exact a1m I1 hN hi hx r1 (fun s2 I2=>⟨_,H1,I2,q1⟩) hf
noncomputable def b4B (i j:Nat) (ta:TA):TS:=fun D σ H=>ta σ H fun vs H1=>∃ v w,vs = [v,w] ∧ D.nx ((σ.set i (some v)).set j (some w)) H1
theorem b1M {i j:Nat} {x y:Str} {a b:Expr} {ta:TA} {px py pt:Pos} {kt k2 pt2} (hc:X.calm = true) (hN:X.N.Nodup) (hi:X.N[i]? = some x) (hj:X.N[j]? = some y) (hij:i ≠ j)
  (hx:X.env.scope.names.lookup x = some .local) (hy:X.env.scope.names.lookup y = some .local) (ha:PA X [a,b] ta)
  (hw:swappedStores [.Tuple [.Name x px,.Name y py] kt pt] (.Tuple [a,b] k2 pt2) X.env = pure (some [x,y]))
  (hs:swapsWithSole [.Tuple [.Name x px,.Name y py] kt pt] (.Tuple [a,b] k2 pt2) pos.line X.env = pure false:=by rfl) :
  PS X (.Assign [.Tuple [.Name x px,.Name y py] kt pt] (.Tuple [a,b] k2 pt2) pos) (b4B i j ta):=by
 intro pins s σ H D I h
 rw [exec_Assign_arm]
 refine wpAny_bind (wpAny_standAt ?_)
 rw [hs]
 refine wpAny_bind (wpAny_pure ?_)
 rw [if_neg (by decide)]
 refine wpAny_bind (Tuple_ (thn (ha _ pins s σ H _ I h) fun us s1 ⟨vs,H1,I1,r1,q1⟩=>?_))
 obtain ⟨v,w,e1,q1⟩:=q1
 subst e1
 obtain ⟨u1,u2,rfl,rv,rw'⟩:∃ u1 u2,us = [u1,u2] ∧ RelV v u1 ∧ RelV w u2:=by
  cases r1 with
  | cons p q=>
   cases q with
   | cons p' q'=>
    cases q'
    exact ⟨_,_,rfl,p,p'⟩
 refine wpAny_newObj_type ?_ (by show 2 ≤ sizeLine; decide)
 have I2:Inv X pins σ H1 { s1 with heap:=s1.heap.push { cls:=.type "tuple",data:=.seq [u1,u2].toArray } }:=I1.kept (t':=s1.toks) fun b o e=>Heap.get?_push_of_some _ e
 rw [hw]
 refine wpAny_bind (wpAny_pure ?_)
 show wpAny (model X.prog X.w) X.A (do rule "assign.swapped-stores"; let items ← unpackItems (.ref s1.heap.objs.size) 2 none; assignInOrder [fun v=>bindName X.env y v,fun v=>bindName X.env x v] items.reverse; pure Flow.next) _ _ _
 refine wpAny_bind (wpAny_rule (wpAny_bind (unpackItems_tuple (items:=#[u1,u2]) (I.ok.hd hc) (IsTup.new s1.heap _) fun h' hx'=>?_)))
 have I3:=I2.kept (h':=h') (t':=s1.toks) fun b o e=>hx' b o (Nat.ne_of_lt (Heap.lt_size e)) e
 show wpAny _ _ (assignInOrder [fun v=>bindName X.env y v,fun v=>bindName X.env x v] [u2,u1] >>= fun _=>pure Flow.next) _ _ _
 refine wpAny_bind (assignInOrder_cons (wpAny_bindName (a1m I3 hN hj (.inl hy) rw' (fun s2 I4=>?_) (.inr hy))))
 refine assignInOrder_cons (wpAny_bindName (a1m I4 hN hi (.inl hx) rv (fun s3 I5=>assignInOrder_nil (wpAny_pure ?_)) (.inr hx)))
 rw [List.set_comm _ _ (Ne.symm hij)] at I5
 exact ⟨_,H1,I5,q1⟩
end
section
variable {X:Cx} {pos:Pos}
noncomputable def b09 (c:TT) (tb:TS):TS:=fun D σ H=>∃ W:Nat → St → Hp → Prop,(∃ m,W m σ H) ∧ ∀ m σ H,W m σ H →
 c σ H fun b H1=>if b = true then ∃ N:St → Hp → Prop,(∀ σ' H',N σ' H' → ∃ m',m' < m ∧ W m' σ' H') ∧ tb { D with nx:=N,ct:=N,bk:=D.nx } σ H1 else D.nx σ H1
theorem b2O {c:Expr} {body:List Stmt} {tc:TT} {tb:TS} (hp:PassesOwn (model X.prog X.w) X.A X.env X.xe) (hc:PT X c tc) (hb:PSs X body tb):PS X (.While c body [] pos) (b09 tc tb):=by
 intro pins s σ H D I h
 obtain ⟨W,⟨m0,w0⟩,turn⟩:=h
 refine wpAny_While (codeAny_whileLoop (fun n s'=>∃ σ' H',Inv X pins σ' H' s' ∧ W n σ' H') ?_ m0 ⟨σ,H,I,w0⟩)
 rintro n s1 ⟨σ1,H1,I1,w1⟩
 refine wpAny_passesOwn hp (thn (hc pins s1 σ1 H1 _ I1 (turn n σ1 H1 w1)) fun b s2 ⟨H2,I2,q2⟩=>?_)
 cases b with
 | true=>
  obtain ⟨N,hN,q2⟩:=q2
  rw [if_pos rfl]
  refine wpAny_passesOwn hp (thn (hb pins s2 σ1 H2 _ I2 q2) fun f s3 q3=>?_)
  cases f with
  | next=>
   obtain ⟨σ3,H3,I3,n3⟩:=q3
   obtain ⟨m',hm,w3⟩:=hN σ3 H3 n3
   exact ⟨m',hm,σ3,H3,I3,w3⟩
  | cont=>
   obtain ⟨σ3,H3,I3,n3⟩:=q3
   obtain ⟨m',hm,w3⟩:=hN σ3 H3 n3
   exact ⟨m',hm,σ3,H3,I3,w3⟩
  | brk=>exact q3
  | ret v=>exact q3
 | false=>
  rw [if_neg Bool.false_ne_true]
  exact wpAny_execs_nil ⟨σ1,H2,I2,q2⟩
end
structure It where
 go:Nat → Hp → Prop
 yld:Nat → Hp → V → Hp → Prop
 stop:Nat → Hp → Prop
noncomputable def E3 (X:Cx) (pins:List (Addr × Obj)) (H:Hp) (b:Addr):Prop:=
 H b = none ∧ b ≠ X.env.locals ∧ b ∉ X.fs ∧ (b ∈ X.ex ∨ X.s₀.heap.objs.size ≤ b) ∧ (∀ x c,X.env.cells.lookup x = some c → c ≠ b) ∧ ∀ p ∈ X.pn ++ pins,p.1 ≠ b
theorem Inv.fpOk {X:Cx} {pins:List (Addr × Obj)} {σ:St} {H H':Hp} {s:Shared} {b:Addr} (I:Inv X pins σ H s) (hb:s.heap.objs.size ≤ b) (hn:H' b = none):E3 X pins H' b:=by
 refine ⟨hn,Nat.ne_of_gt (Nat.lt_of_lt_of_le I.lt hb),I.nofs hb,.inr (Nat.le_trans I.sz hb),fun x c e z=>?_,fun p hp z=>?_⟩
 ·obtain ⟨v,q⟩:=I.cell x c e
  exact absurd (Nat.lt_of_lt_of_le q.lt (by rw [z]; exact hb)) (Nat.lt_irrefl _)
 ·exact absurd (Nat.lt_of_lt_of_le (Heap.lt_size (I.pin p hp).1) (by rw [z]; exact hb)) (Nat.lt_irrefl _)
structure Turn (P:Program) (w:World) (K:PySem.W.Frag) (tg:Expr) (J:It) (fp:List Addr) (it:Addr) (tn:Nat → Heap → Prop):Prop where
 mem:it ∈ fp
 obj:∀ i h,tn i h → ∀ b ∈ fp,∃ o,h.get? b = some o ∧ ∀ v,o.data ≠ .cell v
 keep:∀ i h h',tn i h → (∀ b ∈ fp,∀ o,h.get? b = some o → h'.get? b = some o) → tn i h'
 item:∀ (X:Cx),X.prog = P → X.w = w → X.K = K → X.calm = true → ∀ (i:Nat) (pins:List (Addr × Obj)) (s:Shared) (σ:St) (H:Hp) (E:Value → Shared → Prop),Inv X pins σ H s → (∀ b ∈ fp,E3 X pins H b) → tn i s.heap → J.go i H →
  wpAny (model P w) X.A (pyNext (.ref it)) (fun r s1=>∃ u,r = some u ∧
   wpAny (model P w) X.A (letOwnedTupleGo tg (.ref it) u) (fun _ s2=>∃ x H',Inv X pins σ H' s2 ∧ RelV x u ∧ J.yld i H x H' ∧ tn (i + 1) s2.heap ∧ ∀ b ∈ fp,H' b = none) E s1) E s
 done:∀ (X:Cx),X.prog = P → X.w = w → X.K = K → X.calm = true → ∀ (i:Nat) (pins:List (Addr × Obj)) (s:Shared) (σ:St) (H:Hp) (E:Value → Shared → Prop),Inv X pins σ H s → (∀ b ∈ fp,E3 X pins H b) → tn i s.heap → J.stop i H →
  wpAny (model P w) X.A (pyNext (.ref it)) (fun r s1=>r = none ∧ Inv X pins σ H s1) E s
 self:∀ (A:Around) (i:Nat) (s:Shared) (Q:Value → Shared → Prop) (E:Value → Shared → Prop),tn i s.heap → Q (.ref it) s → wpAny (model P w) A (pyIter (.ref it)) Q E s
noncomputable abbrev TI:=St → Hp → (It → Hp → Prop) → Prop
noncomputable def PIE (X:Cx) (pins:List (Addr × Obj)) (σ:St) (tg:Expr) (R:It → Hp → Prop) (itv:Value) (s2:Shared):Prop:=
 ∃ (it:Addr) (fp:List Addr) (tn:Nat → Heap → Prop) (J:It) (H':Hp),itv = .ref it ∧ Inv X pins σ H' s2 ∧ Turn X.prog X.w X.K tg J fp it tn ∧ tn 0 s2.heap ∧ (∀ b ∈ fp,E3 X pins H' b) ∧ R J H'
noncomputable def PI (X:Cx) (tg iter:Expr) (wi:TI):Prop:=
 ∀ (pins:List (Addr × Obj)) (s:Shared) (σ:St) (H:Hp) (R:It → Hp → Prop),Inv X pins σ H s → wi σ H R →
  wpAny (model X.prog X.w) X.A (eval iter X.env) (fun v s1=>wpAny (model X.prog X.w) X.A (pyIter v) (PIE X pins σ tg R) X.xe s1) X.xe s
theorem a2h {M:Model} {A:Around} {E:Value → Shared → Prop} {s:Shared} {tg:Expr} {it:Addr} {u:Value} {o:Obj} {n:String} {vs:Array Value} {Q:Unit → Shared → Prop} (ho:s.heap.get? it = some o) (hc:o.cls = .type n) (hd:o.data = .fields vs)
    (hn:["enumerate", "zip", "dict_itemiterator", "dict_reverseitemiterator", "odict_iterator", "itertools.zip_longest", "itertools.pairwise"].contains n = false) (hQ:Q () s):wpAny M A (letOwnedTupleGo tg (.ref it) u) Q E s:=by
  unfold letOwnedTupleGo
  cases tg <;> first
    | exact wpAny_pure hQ
    | (cases u <;> first
        | exact wpAny_pure hQ
        | (refine wpAny_bind (wpAny_load ho ?_)
           rw [hc,hd]
           show wpAny M A (if (["enumerate", "zip", "dict_itemiterator", "dict_reverseitemiterator", "odict_iterator", "itertools.zip_longest", "itertools.pairwise"].contains n && vs[0]? == some (rawInt _)) = true then _ else _) Q E s
           rw [if_neg (by intro h; rw [hn,Bool.false_and] at h; cases h)]
           exact wpAny_pure hQ))
noncomputable def Itl (K:PySem.W.Frag) (a:Addr):It:=
 ⟨fun i H=>∃ xs x,SqL K H a xs ∧ xs[i]? = some x,fun i H x H'=>H' = H ∧ ∀ xs,SqL K H a xs → xs[i]? = some x,fun i H=>∃ xs,SqL K H a xs ∧ xs.length ≤ i⟩
noncomputable def Itt (K:PySem.W.Frag) (a:Addr):It:=
 ⟨fun i H=>∃ xs x,SqT K H a xs ∧ xs[i]? = some x,fun i H x H'=>H' = H ∧ ∀ xs,SqT K H a xs → xs[i]? = some x,fun i H=>∃ xs,SqT K H a xs ∧ xs.length ≤ i⟩
noncomputable def Itr (lo:Int) (n:Nat):It:=⟨fun i _=>i < n,fun i H x H'=>H' = H ∧ x = .int (lo + i),fun i _=>n ≤ i⟩
theorem b2M {P:Program} {w:World} {K:PySem.W.Frag} {tg:Expr} (a it:Addr):Turn P w K tg (Itl K a) [it] it (fun i h=>h.IsListIter it a i) where
 mem:=by simp
 obj:=fun i h st b hb=>by
  have e:b = it:=by simpa using hb
  subst e
  obtain ⟨o,e,c,d⟩:=st
  exact ⟨o,e,fun v z=>by rw [d] at z; cases z⟩
 keep:=fun i h h' st k=>st.at fun o e=>k it (by simp) o e
 item:=by
  intro X hP hw hK hc i pins s σ H E I hf st hg
  subst hP hw hK
  obtain ⟨xs,x,hq,hx⟩:=hg
  obtain ⟨its,rv,p,hz⟩:=I.list hq
  obtain ⟨u,hu,ru⟩:=rv.get hx
  obtain ⟨f0,f1,f2,f3,f4,f5⟩:=hf it (by simp)
  refine wpAny_pyNext_list_item st p.isList (x:=u) (by simpa using hu) fun h' st' sb=>?_
  have I1:Inv X pins σ H { s with heap:=h' }:=I.turned (t':=s.toks) (fun b o hb e=>(sb.2 b hb).trans e) f0 f1 f3 f4 f5
  obtain ⟨o,e,c,d⟩:=id st'
  exact ⟨u,rfl,a2h (s:={ s with heap:=h' }) e c d (by decide) ⟨x,H,I1,ru,⟨rfl,fun ys hy=>by rw [I.list_inj hy hq]; exact hx⟩,st',fun b hb=>(hf b hb).1⟩⟩
 done:=by
  intro X hP hw hK hc i pins s σ H E I hf st hg
  subst hP hw hK
  obtain ⟨xs,hq,hx⟩:=hg
  obtain ⟨its,rv,p,hz⟩:=I.list hq
  obtain ⟨f0,f1,f2,f3,f4,f5⟩:=hf it (by simp)
  have hl:=rv.length
  exact wpAny_pyNext_list_end (I.ok.hd hc) st p.isList (by simp; omega) fun h' eb=>⟨rfl,I.turned (t':=s.toks) (fun b o hb e=>eb b o hb e) f0 f1 f3 f4 f5⟩
 self:=fun _ _ _ _ _ st h=>wpAny_pyIter_listiter st h
theorem b3R {P:Program} {w:World} {K:PySem.W.Frag} {tg:Expr} (a it:Addr):Turn P w K tg (Itt K a) [it] it (fun i h=>h.IsTupleIter it a i) where
 mem:=by simp
 obj:=fun i h st b hb=>by
  have e:b = it:=by simpa using hb
  subst e
  obtain ⟨o,e,c,d⟩:=st
  exact ⟨o,e,fun v z=>by rw [d] at z; cases z⟩
 keep:=fun i h h' st k=>st.at fun o e=>k it (by simp) o e
 item:=by
  intro X hP hw hK hc i pins s σ H E I hf st hg
  subst hP hw hK
  obtain ⟨xs,x,hq,hx⟩:=hg
  obtain ⟨its,rv,p,hz⟩:=I.tuple hq
  obtain ⟨u,hu,ru⟩:=rv.get hx
  obtain ⟨f0,f1,f2,f3,f4,f5⟩:=hf it (by simp)
  refine wpAny_pyNext_tuple_item st (show s.heap.IsTuple a its.toArray from p) (x:=u) (by simpa using hu) fun h' st' sb=>?_
  have I1:Inv X pins σ H { s with heap:=h' }:=I.turned (t':=s.toks) (fun b o hb e=>(sb.2 b hb).trans e) f0 f1 f3 f4 f5
  obtain ⟨o,e,c,d⟩:=id st'
  exact ⟨u,rfl,a2h (s:={ s with heap:=h' }) e c d (by decide) ⟨x,H,I1,ru,⟨rfl,fun ys hy=>by rw [I.tuple_inj hy hq]; exact hx⟩,st',fun b hb=>(hf b hb).1⟩⟩
 done:=by
  intro X hP hw hK hc i pins s σ H E I hf st hg
  subst hP hw hK
  obtain ⟨xs,hq,hx⟩:=hg
  obtain ⟨its,rv,p,hz⟩:=I.tuple hq
  obtain ⟨f0,f1,f2,f3,f4,f5⟩:=hf it (by simp)
  have hl:=rv.length
  exact wpAny_pyNext_tuple_end (I.ok.hd hc) st (show s.heap.IsTuple a its.toArray from p) (by simp; omega) fun h' eb=>⟨rfl,I.turned (t':=s.toks) (fun b o hb e=>eb b o hb e) f0 f1 f3 f4 f5⟩
 self:=fun _ _ _ _ _ st h=>wpAny_pyIter_tupleiter st h
theorem b5N {P:Program} {w:World} {K:PySem.W.Frag} {tg:Expr} (it:Addr) (lo:Int) (n:Nat):Turn P w K tg (Itr lo n) [it] it (fun i h=>IsRangeIter h it (lo + (i:Nat) * 1) ((n:Int) - (i:Nat)) 1) where
 mem:=by simp
 obj:=fun i h st b hb=>by
  have e:b = it:=by simpa using hb
  subst e
  exact ⟨_,st,fun v z=>by
   have z':Data.fields _ = Data.cell v:=z
   cases z'⟩
 keep:=fun i h h' st k=>k it (by simp) _ st
 item:=by
  intro X hP hw hK hc i pins s σ H E I hf st hg
  subst hP hw hK
  obtain ⟨f0,f1,f2,f3,f4,f5⟩:=hf it (by simp)
  have W:=Walks.range (prog:=X.prog) (w:=X.w) (I.ok.hd hc) it lo 1 n
  refine W.item i s _ _ hg st fun v h' tk hv st' kk=>?_
  obtain ⟨t,rfl⟩:=hv
  have I1:Inv X pins σ H { s with heap:=h',toks:=tk }:=I.turned (fun b o hb e=>kk b o (by simpa using hb) e) f0 f1 f3 f4 f5
  refine ⟨_,rfl,a2h (s:={ s with heap:=h',toks:=tk }) (n := "range_iterator") st' rfl rfl (by decide) ⟨.int (lo + i),H,I1,⟨t,?_⟩,⟨rfl,rfl⟩,st',fun b hb=>(hf b hb).1⟩⟩
  rw [Int.mul_one]
 done:=by
  intro X hP hw hK hc i pins s σ H E I hf st hg
  subst hP hw hK
  obtain ⟨f0,f1,f2,f3,f4,f5⟩:=hf it (by simp)
  exact wpAny_pyNext_range_end (I.ok.hd hc) st (by have:n ≤ i:=hg; omega) fun h' eb=>⟨rfl,I.turned (t':=s.toks) (fun b o hb e=>eb b o hb e) f0 f1 f3 f4 f5⟩
 self:=fun _ _ _ _ _ st h=>wpAny_pyIter_rangeiter st h
section
variable {X:Cx} {tg:Expr}
theorem b39 {pins:List (Addr × Obj)} {σ:St} {H:Hp} {s:Shared} {R:It → Hp → Prop} {E:Value → Shared → Prop} {lo hi:Int} {t u v:Tok} {tk:Nat} (I:Inv X pins σ H s) (h1:-(2 ^ 62) ≤ lo) (h2:lo < 2 ^ 62) (h3:-(2 ^ 62) ≤ hi) (h4:hi < 2 ^ 62)
  (q:R (Itr lo (hi - lo).toNat) H):wpAny (model X.prog X.w) X.A (pyIter (.ref s.heap.objs.size)) (PIE X pins σ tg R) E { s with heap:=s.heap.push { cls:=.type "range",data:=.fields #[.int lo t,.int hi u,.int 1 v] },toks:=tk }:=by
 refine wpAny_pyIter_range (IsRange.new ..) (small_one h1 h2 h3 h4) ?_
 have I1:Inv X pins σ H { s with heap:=s.heap.push { cls:=.type "range",data:=.fields #[.int lo t,.int hi u,.int 1 v] },toks:=tk }:=I.kept fun b o e=>Heap.get?_push_of_some _ e
 refine ⟨(s.heap.push { cls:=.type "range",data:=.fields #[.int lo t,.int hi u,.int 1 v] }).objs.size,[(s.heap.push { cls:=.type "range",data:=.fields #[.int lo t,.int hi u,.int 1 v] }).objs.size],_,_,H,rfl,
  I1.kept (t':=tk) fun b o e=>Heap.get?_push_of_some _ e,b5N _ lo (hi - lo).toNat,?_,fun b hb=>?_,q⟩
 ·have e1:lo + ((0:Nat):Int) * 1 = lo:=by simp
  have e2:(((hi - lo).toNat:Nat):Int) - ((0:Nat):Int) = Builtin.Range.rangeSize lo hi 1:=by rw [rangeSize_one]; split <;> omega
  show IsRangeIter _ _ (lo + ((0:Nat):Int) * 1) ((((hi - lo).toNat:Nat):Int) - ((0:Nat):Int)) 1
  rw [e1,e2]
  exact Heap.get?_push_size _ rfl
 ·have e:b = (s.heap.push { cls:=.type "range",data:=.fields #[.int lo t,.int hi u,.int 1 v] }).objs.size:=by simpa using hb
  subst e
  exact I1.fpOk (Nat.le_refl _) (I1.hok.fresh (Nat.le_refl _))
noncomputable def b6R (ta:TA):TI:=fun σ H R=>ta σ H fun vs H1=>∃ j:Int,vs = [.int j] ∧ -(2 ^ 62) ≤ j ∧ j < 2 ^ 62 ∧ R (Itr 0 j.toNat) H1
theorem a6Y {a:Expr} {ta:TA} {p pos:Pos} (hg:Gl X "range") (hm:X.mg "range" = none) (ha:PA X [a] ta) (hs:starEach [a] X.env = [(false,eval a X.env)]:=by rfl):PI X tg (.Call (.Name "range" p) [a] [] pos) (b6R ta):=by
 intro pins s σ H R I h
 refine Call_ (P9 I hg hm boot_range (PyProof.Rows.callWith_type1 (thn (ha pos pins s σ H _ I h) fun us s1 ⟨vs,H1,I1,r1,q1⟩=>?_) hs rfl))
 obtain ⟨j,e,q1,q2,q⟩:=q1
 subst e
 cases r1 with
 | cons r rr=>
  cases rr
  obtain ⟨t,rfl⟩:=r
  exact call_range_1 (b39 I1 (by omega) (by omega) q1 q2 (by simpa using q))
noncomputable def b2s (wi:TI) (g:TG) (tb:TS):TS:=fun D σ H=>wi σ H fun J H1=>∃ W:Nat → Nat → St → Hp → Prop,(∃ m,W 0 m σ H1) ∧ ∀ i m σ H,W i m σ H →
 (J.stop i H ∧ D.nx σ H) ∨ (J.go i H ∧ ∃ N:St → Hp → Prop,(∀ σ' H',N σ' H' → ∃ m',m' < m ∧ W (i + 1) m' σ' H') ∧ ∀ x H',J.yld i H x H' → g x σ H' fun σ2 H2=>tb { D with nx:=N,ct:=N,bk:=D.nx } σ2 H2)
noncomputable def Z7 (fp:List Addr) (h:Heap):List (Addr × Obj):=fp.filterMap fun b=>(h.get? b).map fun o=>(b,o)
theorem Y4 {fp:List Addr} {h:Heap} {b:Addr} {o:Obj} (hb:b ∈ fp) (e:h.get? b = some o):(b,o) ∈ Z7 fp h:=List.mem_filterMap.mpr ⟨b,hb,by rw [e]; rfl⟩
theorem b1w {fp:List Addr} {h:Heap} {p:Addr × Obj} (hp:p ∈ Z7 fp h):p.1 ∈ fp ∧ h.get? p.1 = some p.2:=by
 obtain ⟨b,hb,e⟩:=List.mem_filterMap.mp hp
 cases q:h.get? b with
 | none=>rw [q] at e; cases e
 | some o=>
  rw [q] at e
  have e':(b,o) = p:=Option.some.inj e
  subst e'
  exact ⟨hb,q⟩
theorem Inv.pinned {pins:List (Addr × Obj)} {σ:St} {H:Hp} {s:Shared} {fp:List Addr} (I:Inv X pins σ H s) (hf:∀ b ∈ fp,E3 X pins H b) (ho:∀ b ∈ fp,∃ o,s.heap.get? b = some o ∧ ∀ v,o.data ≠ .cell v):Inv X (pins ++ Z7 fp s.heap) σ H s:=
 I.pins_of fun p hp=>(List.mem_append.mp hp).elim (fun z=>I.pin p (List.mem_append_right _ z)) fun z=>by
  obtain ⟨hb,e⟩:=b1w z
  obtain ⟨f0,f1,f2,_⟩:=hf p.1 hb
  obtain ⟨o,e',d⟩:=ho p.1 hb
  rw [e] at e'; cases e'
  exact ⟨e,f0,f1,f2,d⟩
theorem Inv.unpinned {pins pl:List (Addr × Obj)} {σ:St} {H:Hp} {s:Shared} (I:Inv X (pins ++ pl) σ H s):Inv X pins σ H s:=I.pins_of fun p hp=>I.pin p (List.mem_append_right _ (List.mem_append_left _ hp))
theorem a00 {iter:Expr} {body:List Stmt} {wi:TI} {g:TG} {tb:TS} {pos:Pos} (hp:PassesOwn (model X.prog X.w) X.A X.env X.xe) (hc:X.calm = true) (hi:PI X tg iter wi) (hg:PG X tg g) (hb:PSs X body tb)
  (hs:∀ x,foldedSetIterable iter X.env x = pure x:=by intro _; rfl):PS X (.For tg iter body [] pos) (b2s wi g tb):=by
 intro pins s σ H D I h
 refine wpAny_For (thn (hi pins s σ H _ I h) fun v s1 h1=>thn h1 fun itv s2 h2=>?_) hs
 obtain ⟨it,fp,tn,J,H2,e,I2,T,st2,f2,W,⟨m0,w0⟩,turn⟩:=h2
 subst e
 have stat:∀ {H':Hp},(∀ b ∈ fp,H' b = none) → ∀ b ∈ fp,E3 X pins H' b:=fun hn b hb=>⟨hn b hb,(f2 b hb).2⟩
 refine codeAny_forLoop_any (fun n s'=>∃ i σ' H',Inv X pins σ' H' s' ∧ tn i s'.heap ∧ (∀ b ∈ fp,H' b = none) ∧ W i n σ' H') ?_ m0 ⟨0,σ,H2,I2,st2,fun b hb=>(f2 b hb).1,w0⟩
 rintro n s3 ⟨i,σ3,H3,I3,st3,fr3,w3⟩
 rcases turn i n σ3 H3 w3 with ⟨stop,qn⟩ | ⟨go,N,hN,step⟩
 ·refine wpAny_passesOwn hp (thn (T.done X rfl rfl rfl hc i pins s3 σ3 H3 X.xe I3 (stat fr3) st3 stop) fun r s4 ⟨hr,I4⟩=>?_)
  subst hr
  exact wpAny_execs_nil ⟨σ3,H3,I4,qn⟩
 ·refine wpAny_passesOwn hp (thn (T.item X rfl rfl rfl hc i pins s3 σ3 H3 X.xe I3 (stat fr3) st3 go) fun r s4 ⟨u,hr,h4⟩=>?_)
  subst hr
  refine wpAny_passesOwn hp (thn h4 fun _ s5 ⟨x,H5,I5,r5,y5,st5,fr5⟩=>?_)
  have I5':=I5.pinned (stat fr5) (T.obj _ _ st5)
  refine wpAny_passesOwn hp (thn (hg _ s5 σ3 H5 x u _ I5' r5 (step x H5 y5)) fun _ s6 ⟨σ6,H6,I6,q6⟩=>?_)
  refine wpAny_passesOwn hp (thn (hb _ s6 σ6 H6 _ I6 q6) fun f s7 q7=>?_)
  have again:∀ {σ7:St} {H7:Hp},Inv X (pins ++ Z7 fp s5.heap) σ7 H7 s7 → N σ7 H7 → ∃ m,m < n ∧ ∃ i σ' H',Inv X pins σ' H' s7 ∧ tn i s7.heap ∧ (∀ b ∈ fp,H' b = none) ∧ W i m σ' H':=fun {σ7 H7} I7 n7=>by
   obtain ⟨m',hm,w7⟩:=hN σ7 H7 n7
   refine ⟨m',hm,i + 1,σ7,H7,I7.unpinned,T.keep _ _ _ st5 fun b hb o e=>(I7.pin (b,o) (List.mem_append_right _ (List.mem_append_right _ (Y4 hb e)))).1,fun b hb=>?_,w7⟩
   obtain ⟨o,e,d⟩:=T.obj _ _ st5 b hb
   exact (I7.pin (b,o) (List.mem_append_right _ (List.mem_append_right _ (Y4 hb e)))).2.1
  cases f with
  | next=>obtain ⟨σ7,H7,I7,n7⟩:=q7; exact again I7 n7
  | cont=>obtain ⟨σ7,H7,I7,n7⟩:=q7; exact again I7 n7
  | brk=>obtain ⟨σ7,H7,I7,q7⟩:=q7; exact ⟨σ7,H7,I7.unpinned,q7⟩
  | ret v=>obtain ⟨x7,σ7,H7,I7,r7,q7⟩:=q7; exact ⟨x7,σ7,H7,I7.unpinned,r7,q7⟩
end
theorem b3r {K:PySem.W.Frag} {a:Addr} {xs:List V} {g:TG} {tb:TS} {D:Ends} {σ:St} {H:Hp} (Pv:Nat → St → Hp → Prop) (h0:Pv 0 σ H) (hl:∀ i σ H,i ≤ xs.length → Pv i σ H → SqL K H a xs)
  (hs:∀ i x σ H,xs[i]? = some x → Pv i σ H → g x σ H fun σ2 H2=>tb { D with nx:=Pv (i + 1),ct:=Pv (i + 1),bk:=D.nx } σ2 H2) (hd:∀ σ H,Pv xs.length σ H → D.nx σ H) :
  ∃ W:Nat → Nat → St → Hp → Prop,(∃ m,W 0 m σ H) ∧ ∀ i m σ H,W i m σ H →
   ((Itl K a).stop i H ∧ D.nx σ H) ∨ ((Itl K a).go i H ∧ ∃ N:St → Hp → Prop,(∀ σ' H',N σ' H' → ∃ m',m' < m ∧ W (i + 1) m' σ' H') ∧ ∀ x H',(Itl K a).yld i H x H' → g x σ H' fun σ2 H2=>tb { D with nx:=N,ct:=N,bk:=D.nx } σ2 H2):=by
 refine ⟨fun i m σ H=>m = xs.length - i ∧ i ≤ xs.length ∧ Pv i σ H,⟨xs.length,by simp,Nat.zero_le _,h0⟩,?_⟩
 rintro i m σ H ⟨rfl,hi,p⟩
 have q:=hl i σ H hi p
 by_cases hlt:i < xs.length
 ·refine .inr ⟨⟨xs,xs[i],q,by simp [hlt]⟩,Pv (i + 1),fun σ' H' p'=>⟨xs.length - (i + 1),by omega,rfl,hlt,p'⟩,fun x H' y=>?_⟩
  obtain ⟨e,y⟩:=y
  subst e
  exact hs i x σ _ (y xs q) p
 ·have e:i = xs.length:=by omega
  subst e
  exact .inl ⟨⟨xs,q,Nat.le_refl _⟩,hd σ H p⟩
theorem S8 {K:PySem.W.Frag} {a:Addr} {xs:List V} {g:TG} {tb:TS} {D:Ends} {σ:St} {H:Hp} (Pv:Nat → St → Hp → Prop) (h0:Pv 0 σ H) (hl:∀ i σ H,i ≤ xs.length → Pv i σ H → SqT K H a xs)
  (hs:∀ i x σ H,xs[i]? = some x → Pv i σ H → g x σ H fun σ2 H2=>tb { D with nx:=Pv (i + 1),ct:=Pv (i + 1),bk:=D.nx } σ2 H2) (hd:∀ σ H,Pv xs.length σ H → D.nx σ H) :
  ∃ W:Nat → Nat → St → Hp → Prop,(∃ m,W 0 m σ H) ∧ ∀ i m σ H,W i m σ H →
   ((Itt K a).stop i H ∧ D.nx σ H) ∨ ((Itt K a).go i H ∧ ∃ N:St → Hp → Prop,(∀ σ' H',N σ' H' → ∃ m',m' < m ∧ W (i + 1) m' σ' H') ∧ ∀ x H',(Itt K a).yld i H x H' → g x σ H' fun σ2 H2=>tb { D with nx:=N,ct:=N,bk:=D.nx } σ2 H2):=by
 refine ⟨fun i m σ H=>m = xs.length - i ∧ i ≤ xs.length ∧ Pv i σ H,⟨xs.length,by simp,Nat.zero_le _,h0⟩,?_⟩
 rintro i m σ H ⟨rfl,hi,p⟩
 have q:=hl i σ H hi p
 by_cases hlt:i < xs.length
 ·refine .inr ⟨⟨xs,xs[i],q,by simp [hlt]⟩,Pv (i + 1),fun σ' H' p'=>⟨xs.length - (i + 1),by omega,rfl,hlt,p'⟩,fun x H' y=>?_⟩
  obtain ⟨e,y⟩:=y
  subst e
  exact hs i x σ _ (y xs q) p
 ·have e:i = xs.length:=by omega
  subst e
  exact .inl ⟨⟨xs,q,Nat.le_refl _⟩,hd σ H p⟩
theorem a9t {lo:Int} {n:Nat} {g:TG} {tb:TS} {D:Ends} {σ:St} {H:Hp} (Pv:Nat → St → Hp → Prop) (h0:Pv 0 σ H)
  (hs:∀ i σ H,i < n → Pv i σ H → g (.int (lo + i)) σ H fun σ2 H2=>tb { D with nx:=Pv (i + 1),ct:=Pv (i + 1),bk:=D.nx } σ2 H2) (hd:∀ σ H,Pv n σ H → D.nx σ H) :
  ∃ W:Nat → Nat → St → Hp → Prop,(∃ m,W 0 m σ H) ∧ ∀ i m σ H,W i m σ H →
   ((Itr lo n).stop i H ∧ D.nx σ H) ∨ ((Itr lo n).go i H ∧ ∃ N:St → Hp → Prop,(∀ σ' H',N σ' H' → ∃ m',m' < m ∧ W (i + 1) m' σ' H') ∧ ∀ x H',(Itr lo n).yld i H x H' → g x σ H' fun σ2 H2=>tb { D with nx:=N,ct:=N,bk:=D.nx } σ2 H2):=by
 refine ⟨fun i m σ H=>m = n - i ∧ i ≤ n ∧ Pv i σ H,⟨n,by simp,Nat.zero_le _,h0⟩,?_⟩
 rintro i m σ H ⟨rfl,hi,p⟩
 by_cases hlt:i < n
 ·refine .inr ⟨hlt,Pv (i + 1),fun σ' H' p'=>⟨n - (i + 1),by omega,rfl,hlt,p'⟩,fun x H' y=>?_⟩
  obtain ⟨e,y⟩:=y
  subst e y
  exact hs i σ _ hlt p
 ·have e:i = n:=by omega
  subst e
  exact .inl ⟨Nat.le_refl _,hd σ H p⟩
noncomputable abbrev R2:=V → V → Hp → VK → Prop
noncomputable def OpR (X:Cx) (f:Value → Value → Sem Value) (r:R2):Prop:=
 ∀ (pins:List (Addr × Obj)) (s:Shared) (σ:St) (H:Hp) (x y:V) (v u:Value) (Q:VK),Inv X pins σ H s → RelV x v → RelV y u → r x y H Q →
  wpAny (model X.prog X.w) X.A (f v u) (EP X pins σ Q) X.xe s
noncomputable def UnR (X:Cx) (f:Value → Sem Value) (r:V → Hp → VK → Prop):Prop:=
 ∀ (pins:List (Addr × Obj)) (s:Shared) (σ:St) (H:Hp) (x:V) (v:Value) (Q:VK),Inv X pins σ H s → RelV x v → r x H Q →
  wpAny (model X.prog X.w) X.A (f v) (EP X pins σ Q) X.xe s
noncomputable def CallR (X:Cx) (f:Value) (r:List V → Hp → VK → Prop):Prop:=
 ∀ (pins:List (Addr × Obj)) (s:Shared) (σ:St) (H:Hp) (xs:List V) (us:List Value) (Q:VK),Inv X pins σ H s → Vals xs us → r xs H Q →
  wpAny (model X.prog X.w) X.A (call f us) (EP X pins σ Q) X.xe s
noncomputable def b42 (X:Cx) (r:V → Hp → (Bool → Hp → Prop) → Prop):Prop:=
 ∀ (pins:List (Addr × Obj)) (s:Shared) (σ:St) (H:Hp) (x:V) (v:Value) (Q:Bool → Hp → Prop),Inv X pins σ H s → RelV x v → r x H Q →
  wpAny (model X.prog X.w) X.A (truthy v) (TP X pins σ Q) X.xe s
noncomputable def tOp (r:R2) (ta tb:TE):TE:=fun σ H Q=>ta σ H fun x H1=>tb σ H1 fun y H2=>r x y H2 Q
noncomputable def tUn (r:V → Hp → VK → Prop) (ta:TE):TE:=fun σ H Q=>ta σ H fun x H1=>r x H1 Q
noncomputable def rI (C:Int → Int → Prop) (g:Int → Int → V):R2:=fun x y H Q=>∃ i j,x = .int i ∧ y = .int j ∧ C i j ∧ Q (g i j) H
noncomputable def rI0 (g:Int → Int → V):R2:=fun x y H Q=>∃ i j,x = .int i ∧ y = .int j ∧ Q (g i j) H
noncomputable def rU (g:Int → V):V → Hp → VK → Prop:=fun x H Q=>∃ i,x = .int i ∧ Q (g i) H
section
variable {X:Cx} {a b c:Expr} {ta tb tc:TE} {pos:Pos}
theorem a2l (ha:PE X a ta) (hb:PE X b tb) {pins:List (Addr × Obj)} {s:Shared} {σ:St} {H:Hp} {R:V → V → Hp → Prop} (I:Inv X pins σ H s)
  (h:ta σ H fun x H1=>tb σ H1 fun y H2=>R x y H2) {Q:Value → Shared → Prop} {f:Value → Value → Sem Value}
  (hf:∀ v u s2 x y H2,Inv X pins σ H2 s2 → RelV x v → RelV y u → R x y H2 → wpAny (model X.prog X.w) X.A (f v u) Q X.xe s2) :
  wpAny (model X.prog X.w) X.A (eval a X.env) (fun v s₁=>wpAny (model X.prog X.w) X.A (eval b X.env) (fun u s₂=>wpAny (model X.prog X.w) X.A (f v u) Q X.xe s₂) X.xe s₁) X.xe s:=by
 refine thn (ha pins s σ H _ I h) fun v s1 ⟨x,H1,I1,r1,q1⟩=>?_
 refine thn (hb pins s1 σ H1 _ I1 q1) fun u s2 ⟨y,H2,I2,r2,q2⟩=>?_
 exact hf v u s2 x y H2 I2 r1 r2 q2
theorem a1B {op:Operator} {r:R2} (ho:OpR X (binaryOp op) r) (ha:PE X a ta) (hb:PE X b tb):PE X (.BinOp a op b pos) (tOp r ta tb):=by
 intro pins s σ H Q I h
 exact wpAny_BinOp (a2l ha hb I h fun v u s2 x y H2 I2 rx ry q=>ho pins s2 σ H2 x y v u Q I2 rx ry q)
theorem b6I {op:UnaryOp} {r:V → Hp → VK → Prop} (ho:UnR X (unaryOp op) r) (ha:PE X a ta):PE X (.UnaryOp op a pos) (tUn r ta):=by
 intro pins s σ H Q I h
 exact UnaryOp_ (thn (ha pins s σ H _ I h) fun v s1 ⟨x,H1,I1,r1,q1⟩=>ho pins s1 σ H1 x v Q I1 r1 q1)
theorem opI {f:Value → Value → Sem Value} {C:Int → Int → Prop} {g:Int → Int → Int}
  (rule:∀ (i j:Int) (t u:Tok) (s:Shared) (Q:Value → Shared → Prop) (E:Value → Shared → Prop),C i j → Q (.int (g i j) s.toks) { s with toks:=s.toks + 1 } → wpAny (model X.prog X.w) X.A (f (.int i t) (.int j u)) Q E s) :
  OpR X f (rI C fun i j=>.int (g i j)):=by
 intro pins s σ H x y v u Q I rx ry h
 obtain ⟨i,j,rfl,rfl,hc,q⟩:=h
 obtain ⟨t,rfl⟩:=rx
 obtain ⟨t',rfl⟩:=ry
 exact rule i j t t' s _ _ hc ⟨.int (g i j),H,I.tok _,⟨_,rfl⟩,q⟩
theorem a4O {f:Value → Value → Sem Value} {g:Int → Int → Int}
  (rule:∀ (i j:Int) (t u:Tok) (s:Shared) (Q:Value → Shared → Prop) (E:Value → Shared → Prop),Q (.int (g i j) s.toks) { s with toks:=s.toks + 1 } → wpAny (model X.prog X.w) X.A (f (.int i t) (.int j u)) Q E s) :
  OpR X f (rI0 fun i j=>.int (g i j)):=by
 intro pins s σ H x y v u Q I rx ry h
 obtain ⟨i,j,rfl,rfl,q⟩:=h
 obtain ⟨t,rfl⟩:=rx
 obtain ⟨t',rfl⟩:=ry
 exact rule i j t t' s _ _ ⟨.int (g i j),H,I.tok _,⟨_,rfl⟩,q⟩
theorem a1o {f:Value → Value → Sem Value} {g:Int → Int → Bool}
  (rule:∀ (i j:Int) (t u:Tok) (s:Shared) (Q:Value → Shared → Prop) (E:Value → Shared → Prop),Q (.bool (g i j)) s → wpAny (model X.prog X.w) X.A (f (.int i t) (.int j u)) Q E s) :
  OpR X f (rI0 fun i j=>.bl (g i j)):=by
 intro pins s σ H x y v u Q I rx ry h
 obtain ⟨i,j,rfl,rfl,q⟩:=h
 obtain ⟨t,rfl⟩:=rx
 obtain ⟨t',rfl⟩:=ry
 exact rule i j t t' s _ _ ⟨.bl (g i j),H,I,rfl,q⟩
noncomputable def a84 (i j:Int):Prop:=0 ≤ j ∧ j ≤ 1000000 ∧ i.natAbs < 2 ^ 64
theorem op_add:OpR X (binaryOp .Add) (rI0 fun i j=>.int (i + j)):=a4O fun _ _ _ _ _ _ _ q=>add_int q
theorem a9H:OpR X (binaryOp .Sub) (rI0 fun i j=>.int (i - j)):=a4O fun _ _ _ _ _ _ _ q=>sub_int q
theorem b4K:OpR X (binaryOp .Mod) (rI (fun _ j=>j ≠ 0) fun i j=>.int (i.fmod j)):=opI fun _ _ _ _ _ _ _ hc q=>mod_int' hc q
theorem b4J:OpR X (binaryOp .Pow) (rI a84 fun i j=>.int (i ^ j.toNat)):=opI fun _ _ _ _ _ _ _ hc q=>pow_int_small hc.1 hc.2.1 hc.2.2 q
theorem unI {f:Value → Sem Value} {g:Int → Int}
  (rule:∀ (i:Int) (t:Tok) (s:Shared) (Q:Value → Shared → Prop) (E:Value → Shared → Prop),Q (.int (g i) s.toks) { s with toks:=s.toks + 1 } → wpAny (model X.prog X.w) X.A (f (.int i t)) Q E s) :
  UnR X f (rU fun i=>.int (g i)):=by
 intro pins s σ H x v Q I rx h
 obtain ⟨i,rfl,q⟩:=h
 obtain ⟨t,rfl⟩:=rx
 exact rule i t s _ _ ⟨.int (g i),H,I.tok _,⟨_,rfl⟩,q⟩
theorem b4o:UnR X (unaryOp .USub) (rU fun i=>.int (-i)):=unI fun _ _ _ _ _ q=>neg_int q
end
noncomputable def a5v:V → V → Bool
 | .non,.non=>true | .non,.int _=>true | .int _,.non=>true | .non,.bl _=>true | .bl _,.non=>true | .non,.str _=>true | .str _,.non=>true
 | .int _,.int _=>true | .bl _,.bl _=>true | .str _,.str _=>true | .byt _,.byt _=>true
 | .int _,.str _=>true | .str _,.int _=>true | .bl _,.str _=>true | .str _,.bl _=>true
 | _,_=>false
noncomputable def rEq:R2:=fun x y H Q=>a5v x y = true ∧ Q (.bl (decide (x = y))) H
noncomputable def rNe:R2:=fun x y H Q=>a5v x y = true ∧ Q (.bl (!decide (x = y))) H
theorem a5f {i j:Int}:decide (V.int i = V.int j) = (i == j):=by
 rw [Bool.eq_iff_iff]
 simp
theorem a5z {i j:Bool}:decide (V.bl i = V.bl j) = (i == j):=by
 rw [Bool.eq_iff_iff]
 simp
theorem a8Y {i j:Str}:decide (V.str i = V.str j) = (i == j):=by
 rw [Bool.eq_iff_iff]
 simp
theorem a8H {i j:Array UInt8}:decide (V.byt i = V.byt j) = (i.toList == j.toList):=by
 rw [Bool.eq_iff_iff]
 cases i
 cases j
 simp
section
variable {X:Cx} {a b c:Expr} {ta tb tc:TE} {pos:Pos}
theorem v4 {pins:List (Addr × Obj)} {σ:St} {H:Hp} {s:Shared} {Q:VK} {k k':Bool} (I:Inv X pins σ H s) (q:Q (.bl k) H) (e:k = k'):EP X pins σ Q (.bool k') s:=by
 subst e
 exact ⟨.bl k,H,I,rfl,q⟩
theorem op_eq:OpR X (compareOp .Eq) rEq:=by
 intro pins s σ H x y v u Q I rx ry h
 obtain ⟨hs,q⟩:=h
 cases x with
 | non=>
  cases rx
  cases y with
  | non=>cases ry; exact PySem.EqNone.eq_none_none (v4 I q (by simp))
  | bl j=>cases ry; exact PySem.EqNone.eq_none_bool (v4 I q (by simp))
  | int j=>obtain ⟨t',rfl⟩:=ry; exact PySem.EqNone.eq_none_int (v4 I q (by simp))
  | str j=>obtain ⟨t',rfl⟩:=ry; exact PySem.EqNone.eq_none_str (v4 I q (by simp))
  | _=>exact absurd (show false = true from hs) Bool.false_ne_true
 | bl i=>
  cases rx
  cases y with
  | non=>cases ry; exact PySem.EqNone.eq_bool_none (v4 I q (by simp))
  | bl j=>cases ry; exact eq_bool (v4 I q a5z)
  | str j=>obtain ⟨t',rfl⟩:=ry; exact PySem.EqMixed.eq_bool_str (v4 I q (by simp))
  | _=>exact absurd (show false = true from hs) Bool.false_ne_true
 | int i=>
  obtain ⟨t,rfl⟩:=rx
  cases y with
  | non=>cases ry; exact PySem.EqNone.eq_int_none (v4 I q (by simp))
  | int j=>obtain ⟨t',rfl⟩:=ry; exact eq_int (v4 I q a5f)
  | str j=>obtain ⟨t',rfl⟩:=ry; exact PySem.EqMixed.eq_int_str (v4 I q (by simp))
  | _=>exact absurd (show false = true from hs) Bool.false_ne_true
 | str i=>
  obtain ⟨t,rfl⟩:=rx
  cases y with
  | non=>cases ry; exact PySem.EqNone.eq_str_none (v4 I q (by simp))
  | bl j=>cases ry; exact PySem.EqMixed.eq_str_bool (v4 I q (by simp))
  | int j=>obtain ⟨t',rfl⟩:=ry; exact PySem.EqMixed.eq_str_int (v4 I q (by simp))
  | str j=>obtain ⟨t',rfl⟩:=ry; exact eq_str (v4 I q a8Y)
  | _=>exact absurd (show false = true from hs) Bool.false_ne_true
 | byt i=>
  obtain ⟨t,rfl⟩:=rx
  cases y with
  | byt j=>obtain ⟨t',rfl⟩:=ry; exact PySem.W.eq_bytes (v4 I q a8H)
  | _=>exact absurd (show false = true from hs) Bool.false_ne_true
 | _=>cases y <;> exact absurd (show false = true from hs) Bool.false_ne_true
theorem op_ne:OpR X (compareOp .NotEq) rNe:=by
 intro pins s σ H x y v u Q I rx ry h
 obtain ⟨hs,q⟩:=h
 cases x with
 | non=>
  cases rx
  cases y with
  | non=>cases ry; exact PySem.EqNone.ne_none_none (v4 I q (by simp))
  | bl j=>cases ry; exact PySem.EqNone.ne_none_bool (v4 I q (by simp))
  | int j=>obtain ⟨t',rfl⟩:=ry; exact PySem.EqNone.ne_none_int (v4 I q (by simp))
  | str j=>obtain ⟨t',rfl⟩:=ry; exact PySem.EqNone.ne_none_str (v4 I q (by simp))
  | _=>exact absurd (show false = true from hs) Bool.false_ne_true
 | bl i=>
  cases rx
  cases y with
  | non=>cases ry; exact PySem.EqNone.ne_bool_none (v4 I q (by simp))
  | bl j=>cases ry; exact ne_bool (v4 I q (congrArg not a5z))
  | str j=>obtain ⟨t',rfl⟩:=ry; exact PySem.EqMixed.ne_bool_str (v4 I q (by simp))
  | _=>exact absurd (show false = true from hs) Bool.false_ne_true
 | int i=>
  obtain ⟨t,rfl⟩:=rx
  cases y with
  | non=>cases ry; exact PySem.EqNone.ne_int_none (v4 I q (by simp))
  | int j=>obtain ⟨t',rfl⟩:=ry; exact ne_int (v4 I q (congrArg not a5f))
  | str j=>obtain ⟨t',rfl⟩:=ry; exact PySem.EqMixed.ne_int_str (v4 I q (by simp))
  | _=>exact absurd (show false = true from hs) Bool.false_ne_true
 | str i=>
  obtain ⟨t,rfl⟩:=rx
  cases y with
  | non=>cases ry; exact PySem.EqNone.ne_str_none (v4 I q (by simp))
  | bl j=>cases ry; exact PySem.EqMixed.ne_str_bool (v4 I q (by simp))
  | int j=>obtain ⟨t',rfl⟩:=ry; exact PySem.EqMixed.ne_str_int (v4 I q (by simp))
  | str j=>obtain ⟨t',rfl⟩:=ry; exact ne_str (v4 I q (congrArg not a8Y))
  | _=>exact absurd (show false = true from hs) Bool.false_ne_true
 | byt i=>
  obtain ⟨t,rfl⟩:=rx
  cases y with
  | byt j=>obtain ⟨t',rfl⟩:=ry; exact PySem.W.ne_bytes (v4 I q (congrArg not a8H))
  | _=>exact absurd (show false = true from hs) Bool.false_ne_true
 | _=>cases y <;> exact absurd (show false = true from hs) Bool.false_ne_true
theorem a0U:OpR X (compareOp .Lt) (rI0 fun i j=>.bl (decide (i < j))):=a1o fun _ _ _ _ _ _ _ q=>lt_int q
theorem a1U:OpR X (compareOp .LtE) (rI0 fun i j=>.bl (decide (i ≤ j))):=a1o fun _ _ _ _ _ _ _ q=>le_int q
theorem a9w:OpR X (compareOp .Gt) (rI0 fun i j=>.bl (decide (j < i))):=a1o fun _ _ _ _ _ _ _ q=>gt_int q
theorem a5H:OpR X (compareOp .GtE) (rI0 fun i j=>.bl (decide (j ≤ i))):=a1o fun _ _ _ _ _ _ _ q=>ge_int q
theorem b2i:OpR X (compareOp .Is) (fun x y H Q=>y = .non ∧ Q (.bl (decide (x = .non))) H):=by
 intro pins s σ H x y v u Q I rx ry h
 obtain ⟨rfl,q⟩:=h
 cases ry
 refine is_none_gen (v4 I q ?_)
 cases x <;> first
  | (cases rx; rfl)
  | (obtain ⟨t,rfl⟩:=rx; rfl)
theorem b2N:OpR X (compareOp .IsNot) (fun x y H Q=>y = .non ∧ Q (.bl (!decide (x = .non))) H):=by
 intro pins s σ H x y v u Q I rx ry h
 obtain ⟨rfl,q⟩:=h
 cases ry
 refine isnot_none_gen (v4 I q ?_)
 cases x <;> first
  | (cases rx; rfl)
  | (obtain ⟨t,rfl⟩:=rx; rfl)
theorem OpR.or {f:Value → Value → Sem Value} {r r':R2} (h:OpR X f r) (h':OpR X f r'):OpR X f (fun x y H Q=>r x y H Q ∨ r' x y H Q):=by
 intro pins s σ H x y v u Q I rx ry q
 rcases q with q | q
 ·exact h pins s σ H x y v u Q I rx ry q
 ·exact h' pins s σ H x y v u Q I rx ry q
theorem U5 (b:Expr) {op:CmpOp} (h:op ≠ .In:=by decide) (h2:op ≠ .NotIn:=by decide):behindInMarks op b = false:=by
 have e1:(op == CmpOp.In) = false:=by cases op <;> first | rfl | exact absurd rfl h
 have e2:(op == CmpOp.NotIn) = false:=by cases op <;> first | rfl | exact absurd rfl h2
 cases b <;> simp [behindInMarks,e1,e2]
theorem a7B {op:CmpOp} {r:R2} (ho:OpR X (compareOp op) r) (ha:PE X a ta) (hb:PE X b tb) (hm:behindInMarks op b = false):PE X (.Compare a [op] [b] pos) (tOp r ta tb):=by
 intro pins s σ H Q I h
 exact wpAny_Compare1 (a2l ha hb I h fun v u s2 x y H2 I2 rx ry q=>ho pins s2 σ H2 x y v u Q I2 rx ry q) hm
noncomputable def a75 (t:TE):TT:=fun σ H Q=>t σ H fun x H'=>∃ k,x = .bl k ∧ Q k H'
theorem b59 {op:CmpOp} {r:R2} (ho:OpR X (compareOp op) r) (ha:PE X a ta) (hb:PE X b tb) (hm:behindInMarks op b = false):PT X (.Compare a [op] [b] pos) (a75 (tOp r ta tb)):=by
 intro pins s σ H Q I h
 refine wpAny_isTrue_Compare1 (thn (ha pins s σ H _ I h) fun v s1 ⟨x,H1,I1,r1,q1⟩=>thn (hb pins s1 σ H1 _ I1 q1) fun u s2 ⟨y,H2,I2,r2,q2⟩=>
  thn (ho pins s2 σ H2 x y v u _ I2 r1 r2 q2) fun c s3 ⟨z,H3,I3,r3,k,e,q3⟩=>?_) hm
 subst e
 cases r3
 exact wpAny_truthy_bool ⟨H3,I3,q3⟩
noncomputable def a3o (r r':R2) (ta tb tc:TE):TE:=fun σ H Q=>ta σ H fun x H1=>tb σ H1 fun y H2=>r x y H2 fun z H3=>∃ k,z = .bl k ∧
 (if k = true then tc σ H3 fun w' H4=>r' y w' H4 Q else Q (.bl false) H3)
theorem b6G {op op':CmpOp} {r r':R2} (ho:OpR X (compareOp op) r) (ho':OpR X (compareOp op') r') (ha:PE X a ta) (hb:PE X b tb) (hc:PE X c tc)
  (hm:lastMarks [op,op'] [b,c] = false:=by with_unfolding_all rfl):PE X (.Compare a [op,op'] [b,c] pos) (a3o r r' ta tb tc):=by
 intro pins s σ H Q I h
 refine Compare_chain (thn (ha pins s σ H _ I h) fun v s1 ⟨x,H1,I1,r1,q1⟩=>chain_link (thn (hb pins s1 σ H1 _ I1 q1) fun u s2 ⟨y,H2,I2,r2,q2⟩=>
  thn (ho pins s2 σ H2 x y v u _ I2 r1 r2 q2) fun d s3 ⟨z,H3,I3,r3,k,e,q3⟩=>?_)) hm
 subst e
 cases r3
 refine wpAny_truthy_bool ?_
 cases k with
 | false=>exact ite_ff ⟨.bl false,H3,I3,rfl,q3⟩
 | true=>exact ite_tt (chain_last (thn (hc pins s3 σ H3 _ I3 q3) fun w' s4 ⟨z',H4,I4,r4,q4⟩=>ho' pins s4 σ H4 y z' u w' Q I4 r2 r4 q4))
theorem b0h {op op':CmpOp} {r r':R2} (ho:OpR X (compareOp op) r) (ho':OpR X (compareOp op') r') (ha:PE X a ta) (hb:PE X b tb) (hc:PE X c tc)
  (hm:lastMarks [op,op'] [b,c] = false:=by with_unfolding_all rfl):PT X (.Compare a [op,op'] [b,c] pos) (a75 (a3o r r' ta tb tc)):=by
 intro pins s σ H Q I h
 refine isTrue_chain (thn (ha pins s σ H _ I h) fun v s1 ⟨x,H1,I1,r1,q1⟩=>test_link (thn (hb pins s1 σ H1 _ I1 q1) fun u s2 ⟨y,H2,I2,r2,q2⟩=>
  thn (ho pins s2 σ H2 x y v u _ I2 r1 r2 q2) fun d s3 ⟨z,H3,I3,r3,k,e,q3⟩=>?_)) hm
 subst e
 cases r3
 refine wpAny_truthy_bool ?_
 cases k with
 | false=>
  obtain ⟨k',e',q'⟩:=q3
  cases e'
  exact ite_ff ⟨H3,I3,q'⟩
 | true=>
  refine ite_tt (test_last (thn (hc pins s3 σ H3 _ I3 q3) fun w' s4 ⟨z',H4,I4,r4,q4⟩=>thn (ho' pins s4 σ H4 y z' u w' _ I4 r2 r4 q4) fun d' s5 ⟨z2,H5,I5,r5,k2,e2,q5⟩=>?_))
  subst e2
  cases r5
  exact wpAny_truthy_bool ⟨H5,I5,q5⟩
noncomputable def a8x (K:PySem.W.Frag) (x:V) (H:Hp) (k:Bool):Prop:=
 match x with
 | .non=>k = false
 | .bl b=>k = b
 | .int i=>k = (i != 0)
 | .str y=>y.length ≤ sizeLine ∧ k = ((y.length:Int) != 0)
 | .byt y=>y.size ≤ sizeLine ∧ k = ((y.size:Int) != 0)
 | .ref p=>(∃ xs,SqL K H p xs ∧ k = !xs.isEmpty) ∨ (∃ xs,SqT K H p xs ∧ k = !xs.isEmpty) ∨ ∃ kvs,H p = some (.dK kvs) ∧ k = !kvs.isEmpty
 | _=>False
theorem a9u {κ:Type} {kvs:List (κ × V)} {vs:List (κ × Value)} (r:KV kvs vs):(!vs.isEmpty) = !kvs.isEmpty:=by
 cases r <;> rfl
theorem a8o {xs:List V} {its:List Value} (r:Vals xs its):(!its.toArray.isEmpty) = !xs.isEmpty:=by
 cases r <;> simp
theorem W1:(sizeLine:Nat) < 2 ^ 63:=by rw [sizeLine_eq]; decide
theorem b4R:b42 X (fun x H Q=>∃ k,a8x X.K x H k ∧ Q k H):=by
 intro pins s σ H x v Q I rx h
 obtain ⟨k,e,q⟩:=h
 have hl:=W1
 have hs:sizeLine = 16777216:=sizeLine_eq
 cases x with
 | non=>
  cases rx
  have e':k = false:=e
  subst e'
  exact truthy_none ⟨H,I,q⟩
 | bl b=>
  cases rx
  have e':k = b:=e
  subst e'
  exact wpAny_truthy_bool ⟨H,I,q⟩
 | int i=>
  obtain ⟨t,rfl⟩:=rx
  have e':k = (i != 0):=e
  subst e'
  exact PySem.P.truthy_int ⟨H,I,q⟩
 | str y=>
  obtain ⟨t,rfl⟩:=rx
  obtain ⟨hy,e'⟩:y.length ≤ sizeLine ∧ k = ((y.length:Int) != 0):=e
  subst e'
  exact PySem.P.truthy_str (by omega) ⟨H,I.tok _,q⟩
 | byt y=>
  obtain ⟨t,rfl⟩:=rx
  obtain ⟨hy,e'⟩:y.size ≤ sizeLine ∧ k = ((y.size:Int) != 0):=e
  subst e'
  exact PySem.W.truthy_bytes (by omega) ⟨H,I.tok _,q⟩
 | ref p=>
  cases rx
  have e':(∃ xs,SqL X.K H p xs ∧ k = !xs.isEmpty) ∨ (∃ xs,SqT X.K H p xs ∧ k = !xs.isEmpty) ∨ ∃ kvs,H p = some (.dK kvs) ∧ k = !kvs.isEmpty:=e
  rcases e' with ⟨xs,hx,e'⟩ | ⟨xs,hx,e'⟩ | ⟨kvs,hx,e'⟩
  ·subst e'
   obtain ⟨its,r,pl,hz⟩:=I.list hx
   have hlen:=r.length
   exact wpAny_truthy_list pl.isList (by simp only [List.size_toArray]; omega) ⟨H,I.tok _,by rw [a8o r]; exact q⟩
  ·subst e'
   obtain ⟨its,r,pl,hz⟩:=I.tuple hx
   have hlen:=r.length
   exact truthy_tuple pl (by simp only [List.size_toArray]; omega) ⟨H,I.tok _,by rw [a8o r]; exact q⟩
  ·subst e'
   obtain ⟨hz,hS,vs,r,m⟩:kvs.length ≤ sizeLine ∧ (p == sysModules) = false ∧ ∃ vs,KV kvs vs ∧ s.heap.DictOf (a2V X.prog X.w) p vs:=I.hok p _ hx
   have hlen:kvs.length = vs.length:=Paired.length r
   exact wpAny_truthy_dict hS m (by omega) ⟨H,I.tok _,by rw [a9u r]; exact q⟩
 | _=>exact (show False from e).elim
theorem b6e (ha:PE X a ta) (he:∀ whole,isTrue a X.env whole = (do let v ← whole; standAt a.pos; holding [v] (truthy v))) :
  PT X a (fun σ H Q=>ta σ H fun x H'=>∃ k,a8x X.K x H' k ∧ Q k H'):=by
 intro pins s σ H Q I h
 exact isTrue_plain (thn (ha pins s σ H _ I h) fun v s1 ⟨x,H1,I1,r1,q1⟩=>b4R pins s1 σ H1 x v Q I1 r1 q1) (he _)
theorem b4S:OpR X (binaryOp .Add) (fun x y H Q=>∃ i j,x = .str i ∧ y = .str j ∧ i.length + j.length ≤ sizeLine ∧ Q (.str (i ++ j)) H):=by
 intro pins s σ H x y v u Q I rx ry h
 obtain ⟨i,j,rfl,rfl,hz,q⟩:=h
 obtain ⟨t,rfl⟩:=rx
 obtain ⟨t',rfl⟩:=ry
 exact add_str (fun t' tk=>⟨.str (i ++ j),H,I.tok _,⟨_,rfl⟩,q⟩) hz
theorem K5 {x:V} {us:List Value} (r:Vals [x] us):∃ u,us = [u] ∧ RelV x u:=by
 cases r with
 | cons r1 r2=>cases r2; exact ⟨_,rfl,r1⟩
theorem b1g {x y:V} {us:List Value} (r:Vals [x,y] us):∃ u w',us = [u,w'] ∧ RelV x u ∧ RelV y w':=by
 cases r with
 | cons r1 r2=>
  cases r2 with
  | cons r3 r4=>cases r4; exact ⟨_,_,rfl,r1,r3⟩
theorem b2w:CallR X (.builtin "abs") (fun xs H Q=>∃ i,xs = [.int i] ∧ Q (.int (if i < 0 then -i else i)) H):=by
 intro pins s σ H xs us Q I r h
 obtain ⟨i,rfl,q⟩:=h
 obtain ⟨u,rfl,t,rfl⟩:=K5 r
 exact call_abs_int fun u tk=>⟨.int (if i < 0 then -i else i),H,I.tok _,⟨_,rfl⟩,q⟩
theorem b6n:CallR X (.type "int") (fun xs H Q=>(∃ i,xs = [.int i] ∧ Q (.int i) H) ∨ ∃ k,xs = [.bl k] ∧ Q (.int (if k then 1 else 0)) H):=by
 intro pins s σ H xs us Q I r h
 rcases h with ⟨i,rfl,q⟩ | ⟨k,rfl,q⟩
 ·obtain ⟨u,rfl,t,rfl⟩:=K5 r
  exact call_int_int ⟨.int i,H,I,⟨_,rfl⟩,q⟩
 ·obtain ⟨u,rfl,r1⟩:=K5 r
  cases r1
  exact call_int_bool ⟨.int (if k then 1 else 0),H,I.tok _,⟨_,rfl⟩,q⟩
end
structure Room (k:Nat) (A:Around):Prop where
 hd:A.handled = none
 dp:A.depth + 3 * k + 5 < recursionLimit
 un:A.units + 16 * k + 200 < cLine
 gd:A.guards = some []
theorem Room.mono {j k:Nat} {A:Around} (r:Room k A) (h:j ≤ k):Room j A:=⟨r.hd,by have:=r.dp; omega,by have:=r.un; omega,r.gd⟩
theorem Room.deeper {k:Nat} {A:Around} (r:Room (k + 1) A) (env:Env):Room k (A.deeper env):=
 ⟨r.hd,by have:=r.dp; show A.depth + 1 + 3 * k + 5 < _; omega,by have:=r.un; show A.units + 3 + 16 * k + 200 < _; omega,r.gd⟩
theorem Room.depth {k:Nat} {A:Around} (r:Room k A):A.depth < recursionLimit:=by have:=r.dp; omega
noncomputable def a9g:TA:=fun _ H Q=>Q [] H
noncomputable def b0C (ta:TE) (tr:TA):TA:=fun σ H Q=>ta σ H fun x H1=>tr σ H1 fun xs H2=>Q (x :: xs) H2
section
variable {X:Cx} {e:Expr} {es:List Expr} {te:TE} {t:TA} {pos:Pos}
theorem N9:PA X [] a9g:=fun _ _ _ _ H Q I h=>Calls.spliced_nil ⟨[],H,I,.nil,h⟩
theorem G9 (ha:PE X e te) (hr:PA X es t) (hs:starEach (e :: es) X.env = (false,eval e X.env) :: starEach es X.env:=by rfl):PA X (e :: es) (b0C te t):=by
 intro pos pins s σ H Q I h
 rw [hs]
 show wpAny _ _ (spliced ((false,eval e X.env) :: backTo pos (starEach es X.env))) _ _ s
 refine Calls.spliced_cons (thn (ha pins s σ H _ I h) fun u s1 ⟨x,H1,I1,r1,q1⟩=>?_)
 exact thn (hr pos pins s1 σ H1 _ I1 q1) fun us s2 ⟨xs,H2,I2,r2,q2⟩=>⟨x :: xs,H2,I2,.cons r1 r2,q2⟩
noncomputable def b3W (t:TA):TE:=fun σ H Q=>t σ H fun xs H1=>xs.length ≤ sizeLine ∧ ∀ p,H1 p = none → Q (.ref p) (upd H1 p (.tup xs))
noncomputable def b11 (t:TA):TE:=fun σ H Q=>t σ H fun xs H1=>xs.length ≤ sizeLine ∧ ∀ p,H1 p = none → Q (.ref p) (upd H1 p (.lst xs))
theorem b2d {x1} (h:PA X es t):PE X (.Tuple es x1 pos) (b3W t):=by
 intro pins s σ H Q I hq
 refine wpAny_Tuple_spliced (thn (h pos pins s σ H _ I hq) fun us s1 ⟨xs,H1,I1,r,z,q⟩=>⟨by rw [← r.length]; exact z,?_⟩)
 have hf:H1 s1.heap.objs.size = none:=I1.hok.fresh (Nat.le_refl _)
 refine ⟨.ref s1.heap.objs.size,upd H1 s1.heap.objs.size (.tup xs),I1.laid (t':=s1.toks) (fun b u e=>Heap.get?_push_of_some _ e) (Nat.le_refl _) ?_,rfl,q _ hf⟩
 exact ⟨z,us,r,⟨_,Heap.get?_push_size _ rfl,rfl,_,rfl⟩⟩
theorem a0P (h:PA X es t):PE X (.List es pos) (b11 t):=by
 intro pins s σ H Q I hq
 refine wpAny_List_spliced (thn (h pos pins s σ H _ I hq) fun us s1 ⟨xs,H1,I1,r,z,q⟩=>⟨by rw [← r.length]; exact z,?_⟩)
 have hf:H1 s1.heap.objs.size = none:=I1.hok.fresh (Nat.le_refl _)
 refine ⟨.ref s1.heap.objs.size,upd H1 s1.heap.objs.size (.lst xs),I1.laid (t':=s1.toks) (fun b u e=>Heap.get?_push_of_some _ e) (Nat.le_refl _) ?_,rfl,q _ hf⟩
 exact ⟨z,us,0,r,Heap.get?_push_size _ rfl⟩
end
noncomputable abbrev Sp:=List V → Hp → VK → XK → Prop
noncomputable abbrev CXT:=List Env → Hp → Shared → XK → Value → Shared → Prop
structure Env0 (P:Program) (w:World) (K:PySem.W.Frag) (mg:Str → Option Value) (base:Heap) (A:Around) (outer:List Env) (s:Shared) (H:Hp):Prop where
 frames:A.frames = some outer
 mod:Mod K mg base
 bs:∀ b o,base.get? b = some o → s.heap.get? b = some o ∧ H b = none
 bsz:base.objs.size ≤ s.heap.objs.size
 funs:s.heap.FunFrames base outer
 frf:∀ b ∈ frs outer,H b = none
 hok:HOk P w H s.heap
 bare:AllBare s.gens
noncomputable def CE (outer:List Env) (P:Program) (w:World) (H:Hp) (s:Shared) (Q:VK) (u:Value) (s':Shared):Prop:=
 ∃ v H',s'.os = s.os ∧ AllBare s'.gens ∧ Un (frs outer) [] H H' s.heap s'.heap ∧ HOk P w H' s'.heap ∧ RelV v u ∧ Q v H'
noncomputable def CR (CX:CXT) (outer:List Env) (P:Program) (w:World) (H:Hp) (s:Shared) (Q:VK) (E:XK) (r:Result) (s':Shared):Prop:=
 match r with
 | .ok (.ret u)=>CE outer P w H s Q u s'
 | .ok _=>False
 | .error e=>CX outer H s E e s'
structure FnOk (P:Program) (w:World) (K:PySem.W.Frag) (mg:Str → Option Value) (base:Heap) (CX:CXT) (k:Nat) (f:Addr) (fd:FuncData) (ps:List Str) (sp:Sp):Prop where
 len:∀ vs H Q E,sp vs H Q E → vs.length = ps.length
 run:∀ (A:Around) (outer:List Env) (s:Shared) (H:Hp) (args:Args) (us:List Value) (vs:List V) (Q:VK) (E:XK),Room k A → Env0 P w K mg base A outer s H → BindsTo s fd args (ps.zip us) → Vals vs us → sp vs H Q E →
  codeAny (model P w) A (.call (.ref f) args) (CR CX outer P w H s Q E) s
section
variable {X:Cx} {pins:List (Addr × Obj)} {σ:St} {H:Hp} {s s':Shared}
theorem Inv.env0 (I:Inv X pins σ H s):Env0 X.prog X.w X.K X.mg X.base X.A X.stack s H:=
 ⟨I.ok.frames,I.ok.mod,I.bs,Nat.le_trans I.ok.bsz I.sz,I.stack,I.stkFree,I.hok,I.bare⟩
theorem Inv.after {Q:VK} {u:Value} (I:Inv X pins σ H s) (h:CE X.stack X.prog X.w H s Q u s'):EP X pins σ Q u s':=by
 obtain ⟨v,H',os,bare,un,hok,r,q⟩:=h
 obtain ⟨hh,g,d,t,os'⟩:=s'
 obtain rfl:os' = s.os:=os
 exact ⟨v,H',I.call (h':=hh) (g':=g) (d':=d) (t':=t) (ch:=[]) un hok bare (fun b z=>absurd z (by simp)),r,q⟩
end
noncomputable def a7q (sp:Sp) (dvs:List V) (E:XK) (t:TA):TE:=fun σ H Q=>t σ H fun vs H1=>sp (vs ++ dvs) H1 Q E
noncomputable def Binds (K:PySem.W.Frag) (fd:FuncData) (ps:List Str) (ds:List Value):Prop:=
 ∀ (s:Shared) (us:List Value),K.In s.heap → (us ++ ds).length = ps.length → BindsTo s fd ⟨us,[]⟩ (ps.zip (us ++ ds))
theorem Binds.all {K:PySem.W.Frag} {fd:FuncData} {ps:List Str} (h:∀ us:List Value,us.length = ps.length → bindArgs fd ⟨us,[]⟩ = pure (ps.zip us)):Binds K fd ps []:=fun s us _ hl=>by
 rw [List.append_nil] at hl ⊢
 exact .of_eq (h us hl)
noncomputable def a4D (CX:CXT) (X:Cx) (E:XK):Prop:=∀ (pins:List (Addr × Obj)) (σ:St) (H:Hp) (s:Shared) (e:Value) (s':Shared),Inv X pins σ H s → CX X.stack H s E e s' → X.xe e s'
section
variable {X:Cx} {CX:CXT} {k:Nat} {f C:Addr} {fd:FuncData} {ps:List Str} {sp:Sp} {dvs:List V} {ds:List Value} {E:XK} {x m:Str} {p pos apos:Pos} {e o:Expr} {es:List Expr} {ta:TE} {t:TA}
theorem b4I {pins:List (Addr × Obj)} {σ:St} {H:Hp} {s:Shared} {Q:VK} {us:List Value} {vs:List V} (F:FnOk X.prog X.w X.K X.mg X.base CX k f fd ps sp) (hr:Room k X.A) (hb:Binds X.K fd ps ds) (hd:Vals dvs ds) (hx:a4D CX X E)
  (I:Inv X pins σ H s) (r:Vals vs us) (h:sp (vs ++ dvs) H Q E):wpAny (model X.prog X.w) X.A (call (.ref f) us) (EP X pins σ Q) X.xe s:=by
 have r2:Vals (vs ++ dvs) (us ++ ds):=r.append hd
 have hl:(us ++ ds).length = ps.length:=by rw [← r2.length]; exact F.len _ _ _ _ h
 refine wpAny_call (codeAny_mono (F.run X.A X.stack s H ⟨us,[]⟩ (us ++ ds) (vs ++ dvs) Q E hr I.env0 (hb s us I.kIn hl) r2 h) fun r s' hq=>?_)
 cases r with
 | error e=>exact hx pins σ H s e s' I hq
 | ok fl=>
  cases fl with
  | ret u=>exact I.after hq
  | next=>exact False.elim hq
  | brk=>exact False.elim hq
  | cont=>exact False.elim hq
theorem a96 (F:FnOk X.prog X.w X.K X.mg X.base CX k f fd ps sp) (hr:Room k X.A) (hg:Gl X x) (hm:X.mg x = some (.ref f)) (hk:PySem.W.keepIn X.K (.ref f) = true) (hb:Binds X.K fd ps ds) (hd:Vals dvs ds) (hx:a4D CX X E)
  (ha:PA X (e :: es) t) (hdb:(x == ("__debug__" : Str)) = false:=by decide) (he:starEach (e :: es) X.env = (false,eval e X.env) :: starEach es X.env:=by rfl) (hpl:(backTo pos (starEach es X.env)).any (·.1) = false:=by rfl) :
  PE X (.Call (.Name x p) (e :: es) [] pos) (a7q sp dvs E t):=by
 intro pins s σ H Q I h
 refine wpAny_Call_Name_kw (b3p I hg hm ?_ hdb)
 refine PySem.W.callWith_K (h₀:=X.base) I.ok.mod.kin hk (thn (ha pos pins s σ H _ I h) fun us s1 ⟨vs,H1,I1,r,q⟩=>⟨I1.kIn,?_⟩) he hpl
 exact b4I F hr hb hd hx I1 r q
end
structure FnScope (N P:List Str) (sc:Scope):Prop where
 kind:sc.kind = .function
 co:sc.isCoroutine = false
 gen:sc.isGenerator = false
 nd:N.Nodup
 pre:N.take P.length = P
 par:∀ x ∈ P,sc.names.lookup x = some .local ∨ sc.names.lookup x = some .cell
 nofree:∀ y ∈ sc.names,y.2 ≠ .free
theorem a7Q {kindOf:Str → Option NameKind} {x:Str}:∀ {binds:List (Str × Value)} {m:Str → Option Value},(∀ v,(x,v) ∉ binds) → bindL kindOf binds m x = m x
 | [],_,_=>rfl
 | (n,v) :: r,m,h=>by
  unfold bindL
  rw [a7Q fun w hw=>h w (List.mem_cons_of_mem _ hw)]
  split
  ·have:x ≠ n:=by rintro rfl; exact h v List.mem_cons_self
   simp [this]
  ·rfl
theorem a88 {kindOf:Str → Option NameKind} {x:Str}:∀ {binds:List (Str × Value)} {m:Str → Option Value},(∀ v,(x,v) ∉ binds) → bindC kindOf binds m x = m x
 | [],_,_=>rfl
 | (n,v) :: r,m,h=>by
  unfold bindC
  rw [a88 fun w hw=>h w (List.mem_cons_of_mem _ hw)]
  split
  ·rfl
  ·have:x ≠ n:=by rintro rfl; exact h v List.mem_cons_self
   simp [this]
theorem a8M {kindOf:Str → Option NameKind} {x:Str} {v:Value}:∀ {P:List Str} {vs:List Value} {i:Nat} {m:Str → Option Value},P.Nodup → P[i]? = some x → vs[i]? = some v → kindOf x = some .local →
  bindL kindOf (P.zip vs) m x = some v
 | [],_,_,_,_,h,_,_=>by simp at h
 | _ :: _,[],_,_,_,_,h,_=>by simp at h
 | p :: P,w :: vs,0,m,nd,h1,h2,hk=>by
  simp at h1 h2; subst h1; subst h2
  show bindL kindOf ((p,w) :: P.zip vs) m p = _
  unfold bindL
  rw [a7Q fun v hv=>(List.nodup_cons.mp nd).1 (List.of_mem_zip hv).1,if_pos hk]
  simp
 | p :: P,w :: vs,i + 1,m,nd,h1,h2,hk=>by
  show bindL kindOf ((p,w) :: P.zip vs) m x = _
  unfold bindL
  exact a8M (i:=i) (List.nodup_cons.mp nd).2 (by simpa using h1) (by simpa using h2) hk
theorem a8C {kindOf:Str → Option NameKind} {x:Str} {v:Value}:∀ {P:List Str} {vs:List Value} {i:Nat} {m:Str → Option Value},P.Nodup → P[i]? = some x → vs[i]? = some v → kindOf x ≠ some .local →
  bindC kindOf (P.zip vs) m x = some v
 | [],_,_,_,_,h,_,_=>by simp at h
 | _ :: _,[],_,_,_,_,h,_=>by simp at h
 | p :: P,w :: vs,0,m,nd,h1,h2,hk=>by
  simp at h1 h2; subst h1; subst h2
  show bindC kindOf ((p,w) :: P.zip vs) m p = _
  unfold bindC
  rw [a88 fun v hv=>(List.nodup_cons.mp nd).1 (List.of_mem_zip hv).1,if_neg hk]
  simp
 | p :: P,w :: vs,i + 1,m,nd,h1,h2,hk=>by
  show bindC kindOf ((p,w) :: P.zip vs) m x = _
  unfold bindC
  exact a8C (i:=i) (List.nodup_cons.mp nd).2 (by simpa using h1) (by simpa using h2) hk
noncomputable def start (N:List Str) (vs:List V):St:=vs.map some ++ List.replicate (N.length - vs.length) none
noncomputable def N7 (CX:CXT) (P:Program) (w:World) (K:PySem.W.Frag) (mg:Str → Option Value) (base:Heap) (N:List Str) (qual:Str) (scope:Scope) (f:Addr) (cd:Value) (A:Around) (outer:List Env) (s:Shared) (H:Hp) (E:XK):Cx where
 prog:=P
 w:=w
 K:=K
 mg:=mg
 base:=base
 A:=A.deeper (envOfC qual scope s.heap.objs.size f cd)
 N:=N
 s₀:=s
 H₀:=H
 env:=envOfC qual scope s.heap.objs.size f cd
 outer:=outer
 stack:=envOfC qual scope s.heap.objs.size f cd :: outer
 ex:=[]
 calm:=true
 fn:=fun _=>true
 pn:=[]
 xe:=fun e s'=>wpAny (model P w) (A.deeper (envOfC qual scope s.heap.objs.size f cd)) (leaving (envOfC qual scope s.heap.objs.size f cd) e) (fun _ s''=>CX outer H s E e s'') (fun e' s''=>CX outer H s E e' s'') s'
theorem a8t {sc:Scope} {n:Nat} {x:Str} (h:sc.names.lookup x = some .cell):∃ c,(cellsFrom n sc.names []).lookup x = some c:=by
 have q:=PySem.W.cellsFrom_some sc.names n [] (.inl h)
 exact Option.isSome_iff_exists.mp q
theorem b4n {CX:CXT} {P:Program} {w:World} {K:PySem.W.Frag} {mg:Str → Option Value} {base:Heap} {N ps:List Str} {qual:Str} {scope:Scope} {f:Addr} {cd:Value} {A:Around} {outer:List Env} {s s1:Shared} {H:Hp} {E:XK} {us:List Value} {vs:List V}
  (S:FnScope N ps scope) (hd:A.handled = none) (e0:Env0 P w K mg base A outer s H) (hl:vs.length = ps.length) (r:Vals vs us)
  (x:InCallC s s.heap.objs.size (bindL (envOfC qual scope s.heap.objs.size f cd).kindOf (ps.zip us) fun _=>none) (cellsFrom (s.heap.objs.size + 1) scope.names []) (bindC (envOfC qual scope s.heap.objs.size f cd).kindOf (ps.zip us) fun _=>none) s1) :
  Inv (N7 CX P w K mg base N qual scope f cd A outer s H E) [] (start N vs) H s1:=by
 have hpl:ps.length ≤ N.length:=by have:=congrArg List.length S.pre; rw [List.length_take] at this; omega
 obtain ⟨h1,tk,rfl,hk⟩:=x.done
 have noA:∀ b:Addr,b ∉ (N7 CX P w K mg base N qual scope f cd A outer s H E).ex:=fun b z=>absurd (show b ∈ ([]:List Addr) from z) (by simp)
 refine ⟨⟨e0.mod,S.kind,rfl,rfl,Nat.le_refl _,fun y z c h1 h2=>?_,fun y hy=>?_,fun y c _ h=>?_,fun _=>hd,Around.frames_deeper e0.frames,.inr ⟨rfl,rfl⟩,fun b z=>absurd z (noA b),e0.bs,e0.bsz,fun b _ _=>noA b,fun b z=>absurd z (noA b),e0.funs,e0.frf⟩,
  rfl,e0.bare,Un.kept hk,⟨_,x.toInCall.ns,fun i y v h1 h2 h3=>?_⟩,fun y c h=>⟨_,x.cell y c h⟩,e0.hok.fresh (Nat.le_refl _),fun y c h=>?_,fun p hp=>absurd (show p ∈ ([]:List (Addr × Obj)) from hp) (by simp),e0.hok.kept hk,?_⟩
 ·exact name_of_addr x.apart (PySem.mem_of_lookup h1) (PySem.mem_of_lookup h2)
 ·have hy:scope.names.lookup y = some .cell ∨ scope.names.lookup y = some .free:=hy
  rcases hy with hy | hy
  ·exact a8t hy
  ·exact absurd rfl (S.nofree _ (PySem.mem_of_lookup hy))
 ·exact Nat.le_of_lt (x.above y c (PySem.mem_of_lookup h))
 ·have hi:i < vs.length:=by
   unfold start at h2
   by_cases hi:i < vs.length
   ·exact hi
   ·rw [List.getElem?_append_right (by simpa using hi)] at h2
    rw [List.getElem?_replicate] at h2
    split at h2 <;> cases h2
  have ha:vs[i]? = some v:=by
   unfold start at h2
   rw [List.getElem?_append_left (by simpa using hi),List.getElem?_map] at h2
   cases e:vs[i]? with
   | none=>rw [e] at h2; cases h2
   | some a=>rw [e] at h2; cases h2; rfl
  obtain ⟨u,hu,rv⟩:=r.get ha
  have hp:ps[i]? = some y:=by
   rw [← S.pre,List.getElem?_take_of_lt (by omega)]; exact h1
  have ndP:ps.Nodup:=by rw [← S.pre]; exact S.nd.sublist (List.take_sublist _ _)
  refine ⟨u,rv,?_⟩
  rcases S.par y (List.mem_of_getElem? hp) with k | k
  ·exact .inl ⟨k,a8M ndP hp hu k⟩
  ·obtain ⟨c,e⟩:=a8t (n:=s.heap.objs.size + 1) k
   refine .inr ⟨.inl k,c,e,?_⟩
   have q:=x.cell y c e
   rw [a8C ndP hp hu (by show scope.names.lookup y ≠ _; rw [k]; decide)] at q
   exact q
 ·exact e0.hok.fresh (Nat.le_of_lt (x.above y c (PySem.mem_of_lookup h)))
 ·unfold start
  show _ = N.length
  rw [List.length_append,List.length_map,List.length_replicate]
  omega
theorem b2P {CX:CXT} {P:Program} {w:World} {K:PySem.W.Frag} {mg:Str → Option Value} {base:Heap} {k:Nat} {f:Addr} {name qual:Str} {params:Arguments} {body:List Stmt} {scope:Scope} {dV kV doc pm cdv ct oc:Value} {an od:Option Addr}
  {osl:Array (Option Value)} {N ps:List Str} {sp:Sp} (lk:K.lookup f = some ⟨oc,od,.func (PySem.W.fnOf name qual params body scope dV kV doc pm an cdv ct),osl⟩) (hcd:PySem.W.codeIn K cdv qual = true) (S:FnScope N ps scope)
  (len:∀ vs H Q E,sp vs H Q E → vs.length = ps.length)
  (hbody:∀ (A:Around) (outer:List Env) (s:Shared) (H:Hp) (vs:List V) (Q:VK) (E:XK),Room k (A.deeper (envOfC qual scope s.heap.objs.size f cdv)) → sp vs H Q E →
   ∃ t,PSs (N7 CX P w K mg base N qual scope f cdv A outer s H E) body t ∧ t { nx:=fun _ H'=>Q .non H',rt:=Q } (start N vs) H) :
  FnOk P w K mg base CX (k + 1) f (PySem.W.fnOf name qual params body scope dV kV doc pm an cdv ct) ps sp:=by
 refine ⟨len,fun A outer s H args us vs Q E hr e0 hb r hsp=>?_⟩
 have hl:=len _ _ _ _ hsp
 have KX:K.In s.heap:=e0.mod.kin.keeps fun b o e=>(e0.bs b o e).1
 have lim:s.heap.NoLimit:=e0.mod.nolimit.keeps fun b o e=>(e0.bs b o e).1
 have hkind:∀ y ∈ ps.zip us,scope.names.lookup y.1 = some .local ∨ (scope.names.lookup y.1 = some .cell ∧ ((cellsFrom (s.heap.objs.size + 1) scope.names []).lookup y.1).isSome = true):=fun ⟨n,v⟩ hy=>by
  rcases S.par n (List.of_mem_zip hy).1 with q | q
  ·exact .inl q
  ·exact .inr ⟨q,PySem.W.cellsFrom_some _ _ _ (.inl q)⟩
 refine codeAny_call_function hr.depth (KX _ _ lk) rfl S.co S.gen rfl (PySem.W.codeRec_of KX hcd) (hb _ _ _ _ ?_)
 refine wpAny_newFunctionEnv_cells S.kind hkind fun env he s1 x=>?_
 subst he
 refine ⟨lim.keeps x.toInCall.keep,codeAny_func ?_⟩
 obtain ⟨t,ht,hq⟩:=hbody A outer s H vs Q E (hr.deeper _) hsp
 have I:Inv (N7 CX P w K mg base N qual scope f cdv A outer s H E) [] (start N vs) H s1:=b4n S hr.hd e0 hl r x
 refine wpAny_mono (ht [] s1 (start N vs) H _ I hq) (fun fl s' hs=>?_) fun e s' hs=>hs
 have fin:∀ {σ':St} {H':Hp} {v:V} {u:Value},Inv (N7 CX P w K mg base N qual scope f cdv A outer s H E) [] σ' H' s' → RelV v u → Q v H' → CE outer P w H s Q u s':=
  fun {σ' H' v u} J rv q=>⟨v,H',J.os,J.bare,J.base,J.hok,rv,q⟩
 cases fl with
 | ret u=>
  obtain ⟨v,σ',H',J,rv,q⟩:=hs
  exact fin J rv q
 | next=>
  obtain ⟨σ',H',J,q⟩:=hs
  exact fin (v:=V.non) (u:=Value.none) J rfl q
 | brk=>
  obtain ⟨_,_,_,q⟩:=hs
  exact False.elim q
 | cont=>
  obtain ⟨_,_,_,q⟩:=hs
  exact False.elim q
section
variable {X:Cx} {x:Str} {p pos:Pos} {e:Expr} {es:List Expr} {t:TA} {id T:String} {r:List V → Hp → VK → Prop}
noncomputable def tCB (r:List V → Hp → VK → Prop) (t:TA):TE:=fun σ H Q=>t σ H fun vs H1=>r vs H1 Q
theorem a7R (hc:CallR X (.builtin id) r) (hg:Gl X x) (hm:X.mg x = none) (hv:bootBuiltins x = some (.builtin id)) (ha:PA X (e :: es) t) (hn:x ≠ "__name__" := by decide) (hdb:(x == ("__debug__" : Str)) = false:=by decide)
  (he:starEach (e :: es) X.env = (false,eval e X.env) :: starEach es X.env:=by rfl) (hpl:(backTo pos (starEach es X.env)).any (·.1) = false:=by rfl):PE X (.Call (.Name x p) (e :: es) [] pos) (tCB r t):=by
 intro pins s σ H Q I h
 refine wpAny_Call_Name_kw (P9 I hg hm hv ?_ hn hdb)
 exact PyProof.Rows.callWith_builtin1 (thn (ha pos pins s σ H _ I h) fun us s1 ⟨vs,H1,I1,r1,q1⟩=>hc pins s1 σ H1 vs us Q I1 r1 q1) he hpl
theorem a1C (hc:CallR X (.type T) r) (hg:Gl X x) (hm:X.mg x = none) (hv:bootBuiltins x = some (.type T)) (ha:PA X (e :: es) t) (hn:x ≠ "__name__" := by decide) (hdb:(x == ("__debug__" : Str)) = false:=by decide)
  (he:starEach (e :: es) X.env = (false,eval e X.env) :: starEach es X.env:=by rfl) (hpl:(backTo pos (starEach es X.env)).any (·.1) = false:=by rfl):PE X (.Call (.Name x p) (e :: es) [] pos) (tCB r t):=by
 intro pins s σ H Q I h
 refine wpAny_Call_Name_kw (P9 I hg hm hv ?_ hn hdb)
 exact PyProof.Rows.callWith_type1 (thn (ha pos pins s σ H _ I h) fun us s1 ⟨vs,H1,I1,r1,q1⟩=>hc pins s1 σ H1 vs us Q I1 r1 q1) he hpl
end
end L2
namespace HT
open PySem PyProof.Rows
section
variable {prog:Program} {w:World} {A:Around} {E:Value → Shared → Prop} {s:Shared}
theorem cat_tup {t b:Addr} {vs ws:List Value} {Q:Value → Shared → Prop} (ht:IsTup s.heap t vs.toArray) (hb:IsTup s.heap b ws.toArray) (hv:vs ≠ [])
  (h1:ws = [] → Q (.ref t) s) (h2:ws ≠ [] → Q (.ref s.heap.objs.size) { s with heap:=s.heap.push { cls:=.type "tuple",data:=.seq (vs ++ ws).toArray } })
  (hsz:vs.length + ws.length ≤ sizeLine):wpAny (model prog w) A (binaryOp .Add (.ref t) (.ref b)) Q E s:=by
 obtain ⟨⟨cls,dd,data,sl⟩,ho,hc,n,hd⟩:=id ht
 obtain ⟨⟨cls2,dd2,data2,sl2⟩,ho2,hc2,n2,hd2⟩:=id hb
 simp only at hc hd hc2 hd2
 subst hc hd hc2 hd2
 have e:vs.toArray ++ ws.toArray = (vs ++ ws).toArray:=by simp
 by_cases hw:ws = []
 ·exact concat_meets ⟨_,ho,rfl⟩ ⟨_,ho2,rfl⟩ noFill_tuple_add seq_tuple_add PySem.F.slot_tuple_add PySem.F.entry_tuple_add (PySem.F.args_tuple_add_2 _ _)
   (tuple_addW1 t b vs.toArray ws.toArray n n2 dd dd2 sl sl2 (by simpa using hv) (by simp [hw])) ⟨ho,ho2,h1 hw⟩
 ·refine concat_meets ⟨_,ho,rfl⟩ ⟨_,ho2,rfl⟩ noFill_tuple_add seq_tuple_add PySem.F.slot_tuple_add PySem.F.entry_tuple_add (PySem.F.args_tuple_add_2 _ _)
   (tuple_addW2 t b vs.toArray ws.toArray n n2 dd dd2 sl sl2 (by simpa using hv) (by simpa using hw) (by rw [List.size_toArray,List.size_toArray]; exact hsz)) ⟨ho,ho2,?_⟩
  rw [e]
  exact h2 hw
noncomputable def sIx (n d:Nat):Option Int → Nat
 | none=>d
 | some v=>if v < 0 then (v + (n:Int)).toNat else min v.toNat n
theorem sIx_none (n d:Nat):sIx n d none = d:=rfl
theorem sIx_nat (n d k:Nat):sIx n d (some (k:Int)) = min k n:=by
 show (if (k:Int) < 0 then ((k:Int) + (n:Int)).toNat else min (k:Int).toNat n) = min k n
 rw [if_neg (by omega),Int.toNat_natCast]
theorem b50 (n d:Nat) (hd:d ≤ n) (o:Option Int):sIx n d o ≤ n:=by
 cases o with
 | none=>exact hd
 | some v=>
  show (if v < 0 then (v + (n:Int)).toNat else min v.toNat n) ≤ n
  by_cases hv:v < 0
  ·rw [if_pos hv]; omega
  ·rw [if_neg hv]; exact Nat.min_le_right _ _
theorem a8I (v:Int) (n d:Nat):(if v < 0 then max (v + (n:Int)) 0 else min v (n:Int)) = ((sIx n d (some v):Nat):Int):=by
 show (if v < 0 then max (v + (n:Int)) 0 else min v (n:Int)) = (((if v < 0 then (v + (n:Int)).toNat else min v.toNat n):Nat):Int)
 by_cases hv:v < 0
 ·simp only [if_pos hv]; omega
 ·simp only [if_neg hv]; omega
theorem b60 (lo hi:Option Int) (n:Nat):Builtin.Slice.sliceAdjust lo hi 1 (n:Int) = (((sIx n 0 lo:Nat):Int),((sIx n n hi:Nat):Int)):=by
 have h1:¬ ((1:Int) < 0):=by omega
 unfold Builtin.Slice.sliceAdjust
 simp only [h1,if_false]
 refine Prod.ext ?_ ?_
 ·cases lo with
  | none=>rfl
  | some v=>exact a8I v n 0
 ·cases hi with
  | none=>rfl
  | some v=>exact a8I v n n
theorem b5y (i j:Nat):Builtin.Slice.slicePlaces (i:Int) (j:Int) 1 = j - i:=by
 unfold Builtin.Slice.slicePlaces
 have h1:(1:Int) > 0:=by omega
 simp only [h1,if_true,Int.ediv_one]
 split <;> omega
theorem a7D {v:Value} {o:Option Int} {Q:Option Int → Shared → Prop} (p:IsPart v o) (h:Q o s):wpAny (model prog w) A (Builtin.Slice.slicePartIndex v) Q E s:=by
 cases p with
 | none=>exact slicePart_none h
 | int i t=>exact slicePart_int h
theorem a8h {sl:Addr} {vl vu:Value} {lo hi:Option Int} {n:Nat} {Q:Int × Int × Nat → Shared → Prop} (hs:s.heap.IsSliceOf sl vl vu .none) (pl:IsPart vl lo) (pu:IsPart vu hi)
  (h:Q (((sIx n 0 lo:Nat):Int),1,sIx n n hi - sIx n 0 lo) s):wpAny (model prog w) A (Builtin.Slice.sliceApplied (.ref sl) (pure (n:Int))) Q E s:=by
 obtain ⟨os,hos,hcs,hds⟩:=id hs
 unfold Builtin.Slice.sliceApplied Builtin.Slice.sliceFields
 refine wpAny_bind (wpAny_bind (wpAny_field hos hds (x:=vl) rfl (wpAny_bind (wpAny_field hos hds (x:=vu) rfl (wpAny_bind (wpAny_field hos hds (x:=.none) rfl (wpAny_pure ?_)))))))
 refine wpAny_bind (slicePart_none ?_)
 show wpAny _ _ (if ((1:Int) == 0) = true then _ else _) _ _ s
 rw [if_neg (by decide)]
 refine wpAny_bind (a7D pl (wpAny_bind (a7D pu (wpAny_bind (wpAny_pure ?_)))))
 show wpAny _ _ (match Builtin.Slice.sliceAdjust lo hi 1 (n:Int) with | (lo,hi)=>pure (lo,(1:Int),Builtin.Slice.slicePlaces lo hi 1)) _ _ s
 rw [b60 lo hi n]
 show wpAny _ _ (pure (((sIx n 0 lo:Nat):Int),(1:Int),Builtin.Slice.slicePlaces ((sIx n 0 lo:Nat):Int) ((sIx n n hi:Nat):Int) 1)) _ _ s
 rw [b5y]
 exact wpAny_pure h
theorem b0z (xs:Array Value) (i k:Nat):((List.range k).filterMap fun (m:Nat)=>xs[((i:Int) + (m:Int) * 1).toNat]?).toArray = ((xs.toList.drop i).take k).toArray:=by
 have e:(fun (m:Nat)=>xs[((i:Int) + (m:Int) * 1).toNat]?) = fun m=>xs[i + m]?:=by
  funext m
  have:((i:Int) + (m:Int) * 1).toNat = i + m:=by omega
  rw [this]
 rw [e]
 have:=pick_run xs i k
 rw [List.filterMap_map] at this
 have e2:((fun x=>xs[x]?) ∘ fun x=>i + x) = fun m=>xs[i + m]?:=rfl
 rw [e2] at this
 rw [this]
theorem getItem_tuple_cut {t sl:Addr} {items:Array Value} {vl vu:Value} {lo hi:Option Int} {Q:Value → Shared → Prop} (ht:IsTup s.heap t items) (hs:s.heap.IsSliceOf sl vl vu .none) (pl:IsPart vl lo) (pu:IsPart vu hi)
  (hw:¬ (sIx items.size 0 lo = 0 ∧ sIx items.size items.size hi = items.size))
  (h:Q (.ref s.heap.objs.size) { s with heap:=s.heap.push { cls:=.type "tuple",data:=.seq ((items.toList.drop (sIx items.size 0 lo)).take (sIx items.size items.size hi - sIx items.size 0 lo)).toArray } })
  (hsz:items.size ≤ sizeLine):wpAny (model prog w) A (getItem (.ref t) (.ref sl)) Q E s:=by
 have htake:sizeOk (.seq ((items.toList.drop (sIx items.size 0 lo)).take (sIx items.size items.size hi - sIx items.size 0 lo)).toArray):=by
  show ((items.toList.drop (sIx items.size 0 lo)).take (sIx items.size items.size hi - sIx items.size 0 lo)).toArray.size ≤ sizeLine
  rw [List.size_toArray,List.length_take,List.length_drop,Array.length_toList]
  omega
 have hj:sIx items.size items.size hi ≤ items.size:=b50 _ _ (Nat.le_refl _) hi
 obtain ⟨os,hos,hcs,hds⟩:=id hs
 have hTs:s.TypeIs (.ref sl) "slice" := ⟨os,hos,hcs⟩
 unfold getItem
 try with_reducible refine wpAny_holding ?_
 first | refine wpAny_bind (wpAny_pure ?_) | skip
 refine wpAny_bind (wpAny_sequenceKey ht.typeIs (by decide) ?_)
 refine wpAny_bind (wpAny_callSpecial?_slot (name:=Str.ofString "__getitem__") ht.typeIs PyProof.Rows.slot_tuple_getitem
  (wpAny_call_entry PyProof.Rows.slot_tuple_getitem ht.typeIs entry_tuple_getitem ?_ (args_tuple_getitem _ _)))
 show wpAny _ _ (Builtin.Tuple.tupleItemsOf (.ref t) >>= _) _ _ s
 refine wpAny_bind (tupleItemsOf_ ht ?_)
 refine wpAny_bind (wpAny_typeOf hTs ?_)
 rw [if_pos (by decide)]
 refine wpAny_bind (a8h hs pl pu ?_)
 have hno:¬ ((((sIx items.size 0 lo:Nat):Int) == 0 && (1:Int) == 1 && (sIx items.size items.size hi - sIx items.size 0 lo) == items.size) = true):=by
  intro q
  rw [Bool.and_eq_true,Bool.and_eq_true] at q
  have q1:((sIx items.size 0 lo:Nat):Int) = 0:=eq_of_beq q.1.1
  have q2:sIx items.size items.size hi - sIx items.size 0 lo = items.size:=eq_of_beq q.2
  exact hw ⟨by omega,by omega⟩
 show wpAny _ _ (if (((sIx items.size 0 lo:Nat):Int) == 0 && (1:Int) == 1 && (sIx items.size items.size hi - sIx items.size 0 lo) == items.size) = true then _ else _) _ _ s
 rw [if_neg hno,b0z]
 first
  | exact wpAny_bind (m:=Builtin.Tuple.tupleExact _) (wpAny_newObj_type (wpAny_pure ⟨_,rfl,wpAny_pure h⟩) htake)
  | exact wpAny_bind (m:=Builtin.Tuple.tupleExact _) (wpAny_newObj_type (wpAny_bind (wpAny_pure (wpAny_pure ⟨_,rfl,wpAny_pure h⟩))) htake)
  | exact wpAny_bind (wpAny_bind (m:=Builtin.Tuple.tupleExact _) (wpAny_newObj_type (wpAny_pure (wpAny_pure ⟨_,rfl,wpAny_pure h⟩)) htake))
  | exact wpAny_bind (wpAny_bind (m:=Builtin.Tuple.tupleExact _) (wpAny_newObj_type (wpAny_pure ⟨_,rfl,wpAny_pure h⟩) htake))
end
end HT
namespace L2
open PySem PySem.Spec PyProof.Rows
noncomputable abbrev TO:=St → Hp → (Option Int → Hp → Prop) → Prop
noncomputable def PO (X:Cx) (e:Option Expr) (t:TO):Prop:=
 ∀ (pins:List (Addr × Obj)) (s:Shared) (σ:St) (H:Hp) (Q:Option Int → Hp → Prop),Inv X pins σ H s → t σ H Q →
  wpAny (model X.prog X.w) X.A (evalPart e X.env) (fun u s'=>∃ o H',Inv X pins σ H' s' ∧ IsPart u o ∧ Q o H') X.xe s
noncomputable def b01:TO:=fun _ H Q=>Q none H
noncomputable def a9c (t:TE):TO:=fun σ H Q=>t σ H fun x H1=>∃ i,x = .int i ∧ Q (some i) H1
section
variable {X:Cx} {e:Expr} {te:TE} {lo hi:Option Expr} {tl th:TO} {pos p2:Pos}
theorem a6v:PO X none b01:=by
 intro pins s σ H Q I h
 rw [evalPart_none]
 exact wpAny_pure ⟨none,H,I,.none,h⟩
theorem a6F (h:PE X e te):PO X (some e) (a9c te):=by
 intro pins s σ H Q I hw
 rw [evalPart_some]
 refine thn (h pins s σ H _ I hw) fun u s1 ⟨x,H1,I1,r1,q1⟩=>?_
 obtain ⟨i,rfl,q⟩:=q1
 obtain ⟨t,rfl⟩:=r1
 exact ⟨some i,H1,I1,.int i t,q⟩
noncomputable def SlR (X:Cx) (r:V → Option Int → Option Int → Hp → VK → Prop):Prop:=
 ∀ (pins:List (Addr × Obj)) (s:Shared) (σ:St) (H:Hp) (x:V) (v vl vu:Value) (lo hi:Option Int) (sl:Addr) (Q:VK),Inv X pins σ H s → RelV x v → s.heap.IsSliceOf sl vl vu .none → IsPart vl lo → IsPart vu hi → r x lo hi H Q →
  ∃ T id,typeLookup (.type T) "__getitem__" = pure (some (.builtin id)) ∧ s.TypeIs v T ∧ wpAny (model X.prog X.w) X.A (getItem v (.ref sl)) (EP X pins σ Q) X.xe s
theorem SlR.or {r r':V → Option Int → Option Int → Hp → VK → Prop} (h:SlR X r) (h':SlR X r'):SlR X (fun x lo hi H Q=>r x lo hi H Q ∨ r' x lo hi H Q):=by
 intro pins s σ H x v vl vu lo hi sl Q I rx hs pl pu q
 rcases q with q | q
 ·exact h pins s σ H x v vl vu lo hi sl Q I rx hs pl pu q
 ·exact h' pins s σ H x v vl vu lo hi sl Q I rx hs pl pu q
noncomputable def tSl (r:V → Option Int → Option Int → Hp → VK → Prop) (te:TE) (tl th:TO):TE:=fun σ H Q=>te σ H fun x H1=>tl σ H1 fun l H2=>th σ H2 fun u H3=>r x l u H3 Q
theorem a6W {r:V → Option Int → Option Int → Hp → VK → Prop} (hr:SlR X r) (he:PE X e te) (hl:PO X lo tl) (hu:PO X hi th):PE X (.Subscript e (.Slice lo hi none p2) pos) (tSl r te tl th):=by
 intro pins s σ H Q I h
 refine Subscript_ (thn (he pins s σ H _ I h) fun v s1 ⟨x,H1,I1,r1,q1⟩=>?_)
 refine wpAny_Slice (thn (hl pins s1 σ H1 _ I1 q1) fun vl s2 ⟨l,H2,I2,pl,q2⟩=>thn (hu pins s2 σ H2 _ I2 q2) fun vu s3 ⟨u,H3,I3,pu,q3⟩=>?_)
 rw [evalPart_none]
 refine wpAny_pure ?_
 have I4:Inv X pins σ H3 { s3 with heap:=s3.heap.push { cls:=.type "slice",data:=.fields #[vl,vu,.none] } }:=I3.kept (t':=s3.toks) fun b ob q=>Heap.get?_push_of_some _ q
 obtain ⟨T,id,hT,ht,hg⟩:=hr pins { s3 with heap:=s3.heap.push { cls:=.type "slice",data:=.fields #[vl,vu,.none] } } σ H3 x v vl vu l u s3.heap.objs.size Q I4 r1 (Heap.IsSliceOf.new ..) pl pu q3
 show wpAny (model X.prog X.w) X.A (subscriptTail e (.Slice lo hi none p2) v (.ref s3.heap.objs.size)) (EP X pins σ Q) X.xe { s3 with heap:=s3.heap.push { cls:=.type "slice",data:=.fields #[vl,vu,.none] } }
 exact tail_any (ops:=[.ref s3.heap.objs.size,v]) ht hT hg (by with_unfolding_all rfl)
noncomputable def J7 (xs:List V) (lo hi:Option Int):List V:=(xs.drop (HT.sIx xs.length 0 lo)).take (HT.sIx xs.length xs.length hi - HT.sIx xs.length 0 lo)
theorem a59 (xs:List V) (lo hi:Option Int):(J7 xs lo hi).length ≤ xs.length:=by
 unfold J7
 rw [List.length_take,List.length_drop]
 omega
noncomputable def b5A (K:PySem.W.Frag):V → Option Int → Option Int → Hp → VK → Prop:=fun x lo hi H Q=>∃ a xs,x = .ref a ∧ SqT K H a xs ∧
 ¬ (HT.sIx xs.length 0 lo = 0 ∧ HT.sIx xs.length xs.length hi = xs.length) ∧ ∀ p,H p = none → Q (.ref p) (upd H p (.tup (J7 xs lo hi)))
theorem b6C:SlR X (b5A X.K):=by
 intro pins s σ H x v vl vu lo hi sl Q I rx hs pl pu h
 obtain ⟨a,xs,rfl,hx,hw,q⟩:=h
 cases rx
 obtain ⟨its,r,ht,hz⟩:=I.tuple hx
 have hlen:its.toArray.size = xs.length:=by rw [List.size_toArray]; exact r.length.symm
 refine ⟨"tuple",_,PyProof.Rows.slot_tuple_getitem.lookup,ht.typeIs,?_⟩
 refine HT.getItem_tuple_cut ht hs pl pu (by rw [hlen]; exact hw) ?_ (by rw [hlen]; exact hz)
 rw [hlen]
 refine ⟨.ref s.heap.objs.size,_,I.laid (t':=s.toks) (o:=.tup (J7 xs lo hi)) (fun b ob q=>Heap.get?_push_of_some _ q) (Nat.le_refl _) ?_,rfl,q _ (I.hok.fresh (Nat.le_refl _))⟩
 exact ⟨Nat.le_trans (a59 xs lo hi) hz,_,(r.drop (HT.sIx xs.length 0 lo)).take (HT.sIx xs.length xs.length hi - HT.sIx xs.length 0 lo),IsTup.new _ _⟩
noncomputable def a86 (K:PySem.W.Frag):R2:=fun x y H Q=>∃ a b xs ys,x = .ref a ∧ y = .ref b ∧ SqT K H a xs ∧ SqT K H b ys ∧ xs ≠ [] ∧ xs.length + ys.length ≤ sizeLine ∧
 (ys = [] → Q (.ref a) H) ∧ (ys ≠ [] → ∀ p,H p = none → Q (.ref p) (upd H p (.tup (xs ++ ys))))
theorem Vals.nil_iff {xs:List V} {us:List Value} (r:Vals xs us):us = [] ↔ xs = []:=by
 cases r with
 | nil=>simp
 | cons _ _=>simp
theorem b19:OpR X (binaryOp .Add) (a86 X.K):=by
 intro pins s σ H x y v u Q I rx ry h
 obtain ⟨a,b,xs,ys,rfl,rfl,ha,hb,hx,hz,q1,q2⟩:=h
 cases rx
 cases ry
 obtain ⟨its,r1,p1,_⟩:=I.tuple ha
 obtain ⟨its2,r2,p2,_⟩:=I.tuple hb
 refine HT.cat_tup p1 p2 (fun z=>hx (r1.nil_iff.mp z)) (fun z=>⟨.ref a,H,I,rfl,q1 (r2.nil_iff.mp z)⟩) (fun z=>?_) (by rw [← r1.length,← r2.length]; exact hz)
 refine ⟨.ref s.heap.objs.size,_,I.laid (t':=s.toks) (o:=.tup (xs ++ ys)) (fun b ob q=>Heap.get?_push_of_some _ q) (Nat.le_refl _) ?_,rfl,q2 (fun w=>z (r2.nil_iff.mpr w)) _ (I.hok.fresh (Nat.le_refl _))⟩
 exact ⟨by rw [List.length_append]; exact hz,_,r1.append r2,IsTup.new _ _⟩
end
noncomputable def ixN (n:Nat) (i:Int):Option Nat:=if 0 ≤ i then (if i < n then some i.toNat else none) else if -(n:Int) ≤ i then some (i + n).toNat else none
noncomputable def atI {α:Type} (xs:List α) (i:Int):Option α:=(ixN xs.length i).bind fun j=>xs[j]?
theorem a78 {n:Nat} {i:Int} {j:Nat} (h:ixN n i = some j):seqIndex? i n = some j ∧ j < n ∧ -(n:Int) ≤ i ∧ i < n:=by
 unfold ixN at h
 by_cases h0:0 ≤ i
 ·rw [if_pos h0] at h
  by_cases h1:i < n
  ·rw [if_pos h1] at h
   have e:i.toNat = j:=Option.some.inj h
   exact ⟨by rw [seqIndex_of h0 h1,e],by omega,by omega,h1⟩
  ·rw [if_neg h1] at h; cases h
 ·rw [if_neg h0] at h
  by_cases h1:-(n:Int) ≤ i
  ·rw [if_pos h1] at h
   have e:(i + n).toNat = j:=Option.some.inj h
   exact ⟨by rw [seqIndex_neg (by omega) h1,e],by omega,h1,by omega⟩
  ·rw [if_neg h1] at h; cases h
theorem a6R {α:Type} {xs:List α} {i:Int} {v:α} (h:atI xs i = some v):∃ j,seqIndex? i xs.length = some j ∧ xs[j]? = some v ∧ j < xs.length ∧ -(xs.length:Int) ≤ i ∧ i < xs.length:=by
 unfold atI at h
 cases e:ixN xs.length i with
 | none=>rw [e] at h; cases h
 | some j=>
  rw [e] at h
  obtain ⟨h1,h2,h3,h4⟩:=a78 e
  exact ⟨j,h1,h,h2,h3,h4⟩
theorem N3 {α:Type} {xs:List α} {j:Nat} {v:α} (h:xs[j]? = some v):atI xs (j:Int) = some v:=by
 have hj:j < xs.length:=(List.getElem?_eq_some_iff.mp h).1
 have e:ixN xs.length (j:Int) = some j:=by
  unfold ixN
  rw [if_pos (by omega),if_pos (by omega)]; simp
 unfold atI; rw [e]; exact h
theorem a7u {α:Type} (xs:List α) (v:α):atI (xs ++ [v]) (-1) = some v:=by
 have hl:(xs ++ [v]).length = xs.length + 1:=by simp
 have e:ixN (xs ++ [v]).length (-1) = some xs.length:=by
  unfold ixN
  rw [hl,if_neg (by decide),if_pos (by omega)]
  congr 1
  omega
 unfold atI
 rw [e]
 show (xs ++ [v])[xs.length]? = some v
 simp
noncomputable def a64 (b:Expr):Prop:=∀ o i,subscripted b false o i = operate [o,i] (getItem o i)
noncomputable def IxR (X:Cx) (r:R2):Prop:=
 ∀ (value slice:Expr) (pins:List (Addr × Obj)) (s:Shared) (σ:St) (H:Hp) (x y:V) (v u:Value) (Q:VK),Inv X pins σ H s → RelV x v → RelV y u → r x y H Q →
  subscripted slice false v u = operate [v,u] (getItem v u) → wpAny (model X.prog X.w) X.A (subscriptTail value slice v u) (EP X pins σ Q) X.xe s
noncomputable def MtR (X:Cx) (id:String) (r:V → List V → Hp → VK → Prop):Prop:=
 ∀ (pins:List (Addr × Obj)) (s:Shared) (σ:St) (H:Hp) (x:V) (xs:List V) (v:Value) (us:List Value) (Q:VK),Inv X pins σ H s → RelV x v → Vals xs us → r x xs H Q →
  wpAny (model X.prog X.w) X.A (call (.builtin id) (v :: us)) (EP X pins σ Q) X.xe s
section
variable {X:Cx} {a b:Expr} {ta tb:TE} {pos:Pos}
theorem IxR.or {r r':R2} (h:IxR X r) (h':IxR X r'):IxR X (fun x y H Q=>r x y H Q ∨ r' x y H Q):=by
 intro value slice pins s σ H x y v u Q I rx ry q hs
 rcases q with q | q
 ·exact h value slice pins s σ H x y v u Q I rx ry q hs
 ·exact h' value slice pins s σ H x y v u Q I rx ry q hs
theorem a5l {r:R2} (hr:IxR X r) (ha:PE X a ta) (hb:PE X b tb) (hs:a64 b):PE X (.Subscript a b pos) (tOp r ta tb):=by
 intro pins s σ H Q I h
 exact Subscript_ (a2l ha hb I h fun v u s2 x y H2 I2 rx ry q=>hr a b pins s2 σ H2 x y v u Q I2 rx ry q (hs _ _))
noncomputable def a4m (K:PySem.W.Frag):R2:=fun x y H Q=>∃ p xs i v,x = .ref p ∧ y = .int i ∧ SqL K H p xs ∧ atI xs i = some v ∧ Q v H
noncomputable def a2x (K:PySem.W.Frag):R2:=fun x y H Q=>∃ p xs i v,x = .ref p ∧ y = .int i ∧ SqT K H p xs ∧ atI xs i = some v ∧ Q v H
theorem ix_list:IxR X (a4m X.K):=by
 intro value slice pins s σ H x y v u Q I rx ry h hs
 obtain ⟨p,xs,i,z,rfl,rfl,hq,he,q⟩:=h
 cases rx
 obtain ⟨t,rfl⟩:=ry
 obtain ⟨its,r,pl,hz⟩:=I.list hq
 obtain ⟨j,h1,h2,h3,h4,h5⟩:=a6R he
 obtain ⟨w,ew,rw'⟩:=r.get h2
 have hl:=r.length
 have hn:=W1
 have fin:EP X pins σ Q w s:=⟨z,H,I,rw',q⟩
 by_cases h0:0 ≤ i
 ·have hj:i.toNat = j:=by
   rw [seqIndex_of h0 h5] at h1
   exact Option.some.inj h1
  exact item_listR pl.isList h0 (by omega) (by rw [hj]; simpa using ew) fin hs
 ·have hj:(i + (its.toArray.size:Int)).toNat = j:=by
   rw [seqIndex_neg (by omega) h4] at h1
   rw [List.size_toArray,← hl]
   exact Option.some.inj h1
  exact subscriptTail_builtinR (x:=w) pl.isList.typeIs slot_list_getitem.lookup
   (wpAny_getItem_list_neg (Q:=fun r s'=>r = w ∧ EP X pins σ Q r s') pl.isList (by omega) (by rw [List.size_toArray] <;> omega) (by omega) (by rw [hj]; simpa using ew) ⟨rfl,fin⟩) hs
theorem b5q:IxR X (a2x X.K):=by
 intro value slice pins s σ H x y v u Q I rx ry h hs
 obtain ⟨p,xs,i,z,rfl,rfl,hq,he,q⟩:=h
 cases rx
 obtain ⟨t,rfl⟩:=ry
 obtain ⟨its,r,pl,hz⟩:=I.tuple hq
 obtain ⟨j,h1,h2,h3,h4,h5⟩:=a6R he
 obtain ⟨w,ew,rw'⟩:=r.get h2
 have hl:=r.length
 have hn:=W1
 have fin:EP X pins σ Q w s:=⟨z,H,I,rw',q⟩
 exact subscriptTail_builtinR (x:=w) pl.typeIs slot_tuple_getitem.lookup
  (getItem_tuple (j:=j) (Q:=fun r s'=>r = w ∧ EP X pins σ Q r s') pl (by omega) (by omega) (by rw [List.size_toArray,← hl]; exact h1) (by simpa using ew) ⟨rfl,fin⟩) hs
theorem b0l (its:List Value) (n j:Nat) (u:Value):Obj.mapSeq (·.setIfInBounds j u) { cls:=.type "list",data:=.seq its.toArray n } = { cls:=.type "list",data:=.seq (its.set j u).toArray n }:=by
 simp [Obj.mapSeq]
theorem Inv.lst {pins:List (Addr × Obj)} {σ:St} {H:Hp} {s:Shared} {p:Addr} {xs:List V} (I:Inv X pins σ H s) (h:H p = some (.lst xs)) :
  ∃ (its:List Value) (n:Nat),Vals xs its ∧ s.heap.get? p = some { cls:=.type "list",data:=.seq its.toArray n } ∧ xs.length ≤ sizeLine:=by
 obtain ⟨z,its,n,r,e⟩:=I.hok p _ h
 exact ⟨its,n,r,e,z⟩
theorem Inv.lstUpd {pins:List (Addr × Obj)} {σ:St} {H:Hp} {s:Shared} {p:Addr} {xs ys:List V} {its its':List Value} {n n':Nat} {f:Obj → Obj} (I:Inv X pins σ H s) (h:H p = some (.lst xs))
  (ho:s.heap.get? p = some { cls:=.type "list",data:=.seq its.toArray n }) (hf:f { cls:=.type "list",data:=.seq its.toArray n } = { cls:=.type "list",data:=.seq its'.toArray n' }) (r:Vals ys its') (hz:ys.length ≤ sizeLine) (t:Nat) :
  Inv X pins σ (upd H p (.lst ys)) { s with heap:=s.heap.update p f,toks:=t }:=by
 have e:(s.heap.update p f).get? p = some { cls:=.type "list",data:=.seq its'.toArray n' }:=by
  rw [Heap.get?_update_self f ho (by rw [hf] <;> rfl),hf]
 refine I.write (x:=p) (e:=p) (by rw [h]; trivial) (.inl rfl) (fun b u hb q=>(Heap.get?_update_other _ _ (Ne.symm hb)).trans q) ⟨_,e⟩ ?_
 exact ⟨hz,its',n',r,e⟩
noncomputable def b4C:V → V → V → Hp → (Hp → Prop) → Prop:=fun o i v H Q=>∃ p xs k j,o = .ref p ∧ i = .int k ∧ H p = some (.lst xs) ∧ ixN xs.length k = some j ∧ Q (upd H p (.lst (xs.set j v)))
theorem b6q:a8l X b4C:=by
 intro pins s σ H o i v ov iv u Q I ro ri rv h
 obtain ⟨p,xs,k,j,rfl,rfl,hp,hj,q⟩:=h
 cases ro
 obtain ⟨t,rfl⟩:=ri
 obtain ⟨its,n,r,ho,hz⟩:=I.lst hp
 obtain ⟨h1,h2,h3,h4⟩:=a78 hj
 have hl:=r.length
 have hn:=W1
 have I':Inv X pins σ (upd H p (.lst (xs.set j v))) { s with heap:=s.heap.update p (Obj.mapSeq (·.setIfInBounds j u)) }:=
  I.lstUpd hp ho (b0l its n j u) (r.set rv j) (by rw [List.length_set]; exact hz) s.toks
 by_cases h0:0 ≤ k
 ·have hk:k.toNat = j:=by
   rw [seqIndex_of h0 h4] at h1
   exact Option.some.inj h1
  exact PySem.W.ki_setAt ho h0 (by omega) (by rw [List.size_toArray,← hl]; exact h4) (by rw [hk]; exact ⟨_,I',q⟩)
 ·have hk:(k + (its.toArray.size:Int)).toNat = j:=by
   rw [seqIndex_neg (by omega) h3] at h1
   rw [List.size_toArray,← hl]
   exact Option.some.inj h1
  exact PySem.W.ki_setBack ho (by omega) (by rw [List.size_toArray,← hl]; exact h3) (by omega) (by rw [hk]; exact ⟨_,I',q⟩)
theorem b1j (lo hi:Option Int) (n:Nat):(sliceBounds lo hi none n).1 = ((HT.sIx n 0 lo:Nat):Int) ∧ (sliceBounds lo hi none n).2.1 = ((HT.sIx n n hi:Nat):Int) ∧ (sliceBounds lo hi none n).2.2 = 1:=by
 have key:∀ i:Int,(sliceBounds (some i) none none n).1 = ((HT.sIx n 0 (some i):Nat):Int):=fun i=>by
  simp only [sliceBounds,HT.sIx,Option.getD_none,show (1:Int) > 0 by decide,if_true]
  by_cases h:i < 0
  ·simp only [h,if_true] <;> omega
  ·simp only [h,if_false] <;> omega
 refine ⟨?_,?_,rfl⟩
 ·cases lo with
  | none=>simp [sliceBounds,HT.sIx]
  | some i=>exact key i
 ·cases hi with
  | none=>simp [sliceBounds,HT.sIx]
  | some i=>exact key i
theorem b0g (its:List Value) (lo hi:Option Int):slicePick its.toArray lo hi none = ((its.drop (HT.sIx its.length 0 lo)).take (HT.sIx its.length its.length hi - HT.sIx its.length 0 lo)).toArray:=by
 obtain ⟨h1,h2,h3⟩:=b1j lo hi its.toArray.size
 unfold slicePick
 rw [h1,h2,h3]
 simp only [sliceRange_one,pick_run,List.size_toArray] <;> rfl
noncomputable def b0R (K:PySem.W.Frag):V → Option Int → Option Int → Hp → VK → Prop:=fun x lo hi H Q=>∃ a xs,x = .ref a ∧ SqL K H a xs ∧ ∀ p,H p = none → Q (.ref p) (upd H p (.lst (J7 xs lo hi)))
theorem a6p:SlR X (b0R X.K):=by
 intro pins s σ H x v vl vu lo hi sl Q I rx hs pl pu h
 obtain ⟨a,xs,rfl,hx,q⟩:=h
 cases rx
 obtain ⟨its,r,ht,hz⟩:=I.list hx
 have hlen:=r.length
 refine ⟨"list",_,slot_list_getitem.lookup,ht.isList.typeIs,?_⟩
 refine wpAny_getItem_list_slice ht.isList hs pl pu .none (by simp) ?_ (by rw [List.size_toArray] <;> omega)
 rw [b0g,← hlen]
 refine ⟨.ref s.heap.objs.size,_,I.laid (t':=s.toks) (o:=.lst (J7 xs lo hi)) (fun b ob q=>Heap.get?_push_of_some _ q) (Nat.le_refl _) ?_,rfl,q _ (I.hok.fresh (Nat.le_refl _))⟩
 exact ⟨Nat.le_trans (a59 xs lo hi) hz,_,0,(r.drop (HT.sIx xs.length 0 lo)).take (HT.sIx xs.length xs.length hi - HT.sIx xs.length 0 lo),Heap.get?_push_size _ rfl⟩
theorem call_len_seq:CallR X (.builtin "len") (fun xs H Q=>∃ p ys,xs = [.ref p] ∧ (SqL X.K H p ys ∨ SqT X.K H p ys) ∧ Q (.int ys.length) H):=by
 intro pins s σ H xs us Q I r h
 obtain ⟨p,ys,rfl,hq,q⟩:=h
 obtain ⟨u,rfl,rx⟩:=K5 r
 cases rx
 have hn:=W1
 rcases hq with hq | hq
 ·obtain ⟨its,r',pl,hz⟩:=I.list hq
  have hlen:=r'.length
  exact Calls.call_len_list pl.isList (by simp only [List.size_toArray] <;> omega) ⟨.int ys.length,H,I.tok _,⟨s.toks + 1,by rw [List.size_toArray,hlen]⟩,q⟩
 ·obtain ⟨its,r',pl,hz⟩:=I.tuple hq
  have hlen:=r'.length
  exact len_tuple pl (by simp only [List.size_toArray] <;> omega) ⟨.int ys.length,H,I.tok _,⟨s.toks + 1,by rw [List.size_toArray,hlen]⟩,q⟩
theorem b4x:CallR X (.builtin "len") (fun xs H Q=>∃ z,xs = [.str z] ∧ z.length ≤ sizeLine ∧ Q (.int z.length) H):=by
 intro pins s σ H xs us Q I r h
 obtain ⟨z,rfl,hz,q⟩:=h
 obtain ⟨u,rfl,t,rfl⟩:=K5 r
 have hn:=W1
 exact len_str (by omega) ⟨.int z.length,H,I.tok _,⟨_,rfl⟩,q⟩
theorem CallR.or {f:Value} {r r':List V → Hp → VK → Prop} (h:CallR X f r) (h':CallR X f r'):CallR X f (fun xs H Q=>r xs H Q ∨ r' xs H Q):=by
 intro pins s σ H xs us Q I rs q
 rcases q with q | q
 ·exact h pins s σ H xs us Q I rs q
 ·exact h' pins s σ H xs us Q I rs q
theorem a7h:CallR X (.type "list") (fun xs H Q=>∃ p ys,xs = [.ref p] ∧ (SqL X.K H p ys ∨ SqT X.K H p ys) ∧ ∀ l,H l = none → Q (.ref l) (upd H l (.lst ys))):=by
 intro pins s σ H xs us Q I r h
 obtain ⟨p,ys,rfl,hq,q⟩:=h
 obtain ⟨u,rfl,rx⟩:=K5 r
 cases rx
 have fin:∀ (its:List Value),Vals ys its → ys.length ≤ sizeLine → ∀ (h':Heap) (c':Nat),(∀ b o',s.heap.get? b = some o' → h'.get? b = some o') →
   h'.get? s.heap.objs.size = some { cls:=.type "list",dict:=none,data:=.seq its.toArray c',slots:=#[] } → EP X pins σ Q (.ref s.heap.objs.size) { s with heap:=h' }:=fun its r' hz h' c' kp e=>
  ⟨.ref s.heap.objs.size,_,I.laid (t':=s.toks) kp (Nat.le_refl _) (show ObjOk X.prog X.w _ h' _ (.lst ys) from ⟨hz,its,c',r',e⟩),rfl,q _ (I.hok.fresh (Nat.le_refl _))⟩
 rcases hq with hq | hq
 ·obtain ⟨its,r',pl,hz⟩:=I.list hq
  have hlen:=r'.length
  obtain ⟨o,ho,hc,n,hd⟩:=pl.isList
  exact call_list_seq p (.inl rfl) ho hc hd (fun h' c' kp e=>fin its r' hz h' c' kp e) (by simp only [List.size_toArray] <;> omega)
 ·obtain ⟨its,r',pl,hz⟩:=I.tuple hq
  have hlen:=r'.length
  obtain ⟨o,ho,hc,n,hd⟩:=pl
  exact call_list_seq p (.inr rfl) ho hc hd (fun h' c' kp e=>fin its r' hz h' c' kp e) (by simp only [List.size_toArray] <;> omega)
theorem a6c:CallR X (.type "tuple") (fun xs H Q=>∃ p ys,xs = [.ref p] ∧ ((SqL X.K H p ys ∧ ∀ l,H l = none → Q (.ref l) (upd H l (.tup ys))) ∨ (SqT X.K H p ys ∧ Q (.ref p) H))):=by
 intro pins s σ H xs us Q I r h
 obtain ⟨p,ys,rfl,h⟩:=h
 obtain ⟨u,rfl,rx⟩:=K5 r
 cases rx
 rcases h with ⟨hq,q⟩ | ⟨hq,q⟩
 ·obtain ⟨its,r',pl,hz⟩:=I.list hq
  have hlen:=r'.length
  refine call_tuple_list pl.isList (fun h' kp=>?_) (by simp only [List.size_toArray] <;> omega)
  have I1:Inv X pins σ H { s with heap:=h' }:=I.kept (t':=s.toks) kp
  have I2:Inv X pins σ (upd H h'.objs.size (.tup ys)) { s with heap:=h'.push { cls:=.type "tuple",data:=.seq its.toArray } }:=
   I1.laid (t':=s.toks) (fun b o e=>Heap.get?_push_of_some _ e) (Nat.le_refl _) (show ObjOk X.prog X.w _ _ _ (.tup ys) from ⟨hz,its,r',IsTup.new _ _⟩)
  exact ⟨.ref h'.objs.size,_,I2,rfl,q _ (I1.hok.fresh (Nat.le_refl _))⟩
 ·obtain ⟨its,r',pl,hz⟩:=I.tuple hq
  exact call_tuple_same pl ⟨.ref p,H,I,rfl,q⟩
noncomputable def tyV (K:PySem.W.Frag) (T:String) (x:V) (H:Hp):Prop:=match x with
 | .str _=>T = "str"
 | .int _=>T = "int"
 | .ref p=>(T = "list" ∧ ∃ xs,SqL K H p xs) ∨ (T = "tuple" ∧ ∃ o,K.lookup p = some o ∧ o.cls = .type "tuple" ∧ o.dict = none) ∨
   (T = "dict" ∧ ((∃ kvs,H p = some (.dK kvs)) ∨ ∃ kvs,H p = some (.dT kvs))) ∨ (T = "set" ∧ ∃ S n,H p = some (.set S n))
 | _=>False
theorem b4v {pins:List (Addr × Obj)} {σ:St} {H:Hp} {s:Shared} {T:String} {x:V} {v:Value} (I:Inv X pins σ H s) (r:RelV x v) (ty:tyV X.K T x H) :
  s.TypeIs v T ∧ ∀ a,v = .ref a → ∃ ob,s.heap.get? a = some ob ∧ ob.dict = none:=by
 cases x with
 | str z=>
  obtain ⟨t,rfl⟩:=r
  cases (show T = "str" from ty)
  exact ⟨typeIs_str s z t,fun _ e=>nomatch e⟩
 | int i=>
  obtain ⟨t,rfl⟩:=r
  cases (show T = "int" from ty)
  exact ⟨typeIs_int s i t,fun _ e=>nomatch e⟩
 | ref p=>
  cases r
  rcases ty with ⟨rfl,xs,hq⟩ | ⟨rfl,o,hk,hc,hd⟩ | ⟨rfl,hk⟩ | ⟨rfl,S,n,hk⟩
  ·obtain ⟨its,_,pl,_⟩:=I.list hq
   refine ⟨pl.isList.typeIs,fun a e=>?_⟩
   cases e
   obtain ⟨o,n,e,c,hd,_⟩:=pl
   exact ⟨o,e,hd⟩
  ·refine ⟨⟨o,I.kIn p o hk,hc⟩,fun a e=>?_⟩
   cases e
   exact ⟨o,I.kIn _ o hk,hd⟩
  ·have z:∃ o,s.heap.get? p = some o ∧ o.ExactDict:=by
    rcases hk with ⟨kvs,hk⟩ | ⟨kvs,hk⟩
    ·obtain ⟨_,_,_,_,o,_,_,e,ex,_⟩:=I.hok p _ hk
     exact ⟨o,e,ex⟩
    ·obtain ⟨_,_,_,_,o,_,_,e,ex,_⟩:=I.hok p _ hk
     exact ⟨o,e,ex⟩
   obtain ⟨o,e,ex⟩:=z
   refine ⟨⟨o,e,ex.1⟩,fun a e2=>?_⟩
   cases e2
   exact ⟨o,e,ex.2.1⟩
  ·obtain ⟨o,_,_,_,e,ex,_⟩:=I.hok p _ hk
   refine ⟨⟨o,e,ex.1⟩,fun a e2=>?_⟩
   cases e2
   exact ⟨o,e,ex.2.1⟩
 | _=>exact False.elim ty
noncomputable def tBM (K:PySem.W.Frag) (T:String) (r:V → List V → Hp → VK → Prop) (to:TE) (t:TA):TE:=fun σ H Q=>to σ H fun x H1=>tyV K T x H1 ∧ t σ H1 fun xs H2=>r x xs H2 Q
variable {o e:Expr} {es:List Expr} {to:TE} {t:TA} {name:Str} {apos cpos:Pos} {T id:String} {r:V → List V → Hp → VK → Prop}
theorem b12 (pa:PlainAttrs T) (slot:Slot T name id) (hty:typeOf (.builtin id) = pure (.type "method_descriptor")) (hm:MtR X id r) (ho:PE X o to) (ha:PA X (e :: es) t)
  (hbase:attributeBase o name X.env (eval o X.env) = eval o X.env:=by rfl)
  (hfew:((backTo cpos (starEach (e :: es) X.env)).all (fun x=>!x.1) && (backToKw cpos (keywordEach [] X.env)).all (fun x=>x.1.isSome)
   && decide ((e :: es).length + ([]:List Keyword).length + (if ([]:List Keyword).isEmpty then 0 else 1) < 30)) = true:=by rfl)
  (hline:(apos.endLine == cpos.line) = true:=by rfl) (hs:starEach (e :: es) X.env = (false,eval e X.env) :: starEach es X.env:=by rfl) (hplain:(backTo cpos (starEach es X.env)).any (·.1) = false:=by rfl) :
  PE X (.Call (.Attribute o name apos) (e :: es) [] cpos) (tBM X.K T r to t):=by
 intro pins s σ H Q I h
 refine wpAny_Call_method_late hbase hfew hline rfl (thn (ho pins s σ H _ I h) fun v s1 ⟨x,H1,I1,r1,ty,q1⟩=>?_)
 obtain ⟨h1,h2⟩:=b4v I1 r1 ty
 refine ⟨T,id,pa,slot,hty,h1,h2,?_⟩
 have hA:=ha cpos pins s1 σ H1 _ I1 q1
 rw [hs] at hA ⊢
 refine Calls.callWith_builtin (by show (false || (backTo cpos (starEach es X.env)).any (·.1)) = false; rw [hplain] <;> rfl) (Calls.evalArgs_plain ?_)
 exact thn hA fun us s2 ⟨vs,H2,I2,r2,q2⟩=>hm pins s2 σ H2 x vs v us Q I2 r1 r2 q2
end
noncomputable def MtM (X:Cx) (id:String) (r:V → List V → Hp → VK → Prop):Prop:=
 ∀ (pins:List (Addr × Obj)) (s:Shared) (σ:St) (H:Hp) (x:V) (xs:List V) (v:Value) (us:List Value) (Q:VK),Inv X pins σ H s → RelV x v → Vals xs us → r x xs H Q →
  wpAny (model X.prog X.w) X.A (call (.builtin id) (v :: us)) (EP X pins σ Q) X.xe s
theorem Vals.one:∀ {x:V} {us:List Value},Vals [x] us → ∃ u,us = [u] ∧ RelV x u:=by
 intro x us h
 cases h with
 | cons r t=>
  cases t
  exact ⟨_,rfl,r⟩
theorem Vals.rep {xs:List V} {us:List Value} (h:Vals xs us):∀ k:Nat,Vals (List.replicate k xs).flatten (List.replicate k us).flatten
 | 0=>.nil
 | k + 1=>by
  rw [List.replicate_succ,List.replicate_succ,List.flatten_cons,List.flatten_cons]
  exact Vals.append h (Vals.rep h k)
theorem foldl_rep (its:List Value):∀ (k:Nat) (acc:List Value),
  List.foldl (fun x1 x2=>x1 ++ x2) acc.toArray (List.replicate k its.toArray) = (acc ++ (List.replicate k its).flatten).toArray
 | 0,acc=>by simp
 | k + 1,acc=>by
  have e:acc.toArray ++ its.toArray = (acc ++ its).toArray:=by simp
  have e2:(acc ++ its) ++ (List.replicate k its).flatten = acc ++ (List.replicate (k + 1) its).flatten:=by
   rw [List.replicate_succ,List.flatten_cons,List.append_assoc]
  rw [← e2,← foldl_rep its k (acc ++ its),← e,List.replicate_succ,List.foldl_cons]
section
variable {X:Cx} {pins:List (Addr × Obj)} {σ:St} {H:Hp} {s:Shared} {l b:Addr} {xs ys zs:List V}
theorem Inv.lset {its its':List Value} {n:Nat} {f:Array Value → Array Value} {t':Nat} (I:Inv X pins σ H s) (hH:H l = some (.lst xs))
  (e:s.heap.get? l = some { cls:=.type "list",data:=.seq its.toArray n }) (hf:f its.toArray = its'.toArray) (hv:Vals ys its') (hz:ys.length ≤ sizeLine) :
  Inv X pins σ (upd H l (.lst ys)) { s with heap:=s.heap.update l (Obj.mapSeq f),toks:=t' }:=by
 have q:=PySem.IsL.update e f
 rw [hf] at q
 refine I.write (x:=l) (e:=l) (by rw [hH]; exact trivial) (.inl rfl) (fun b' u hb hu=>(Heap.get?_update_other s.heap (Obj.mapSeq f) (Ne.symm hb)).trans hu) ⟨_,q⟩ ?_
 exact ⟨hz,its',_,hv,q⟩
theorem Inv.lnew {its:List Value} {t':Nat} (I:Inv X pins σ H s) (hv:Vals ys its) (hz:ys.length ≤ sizeLine) :
  Inv X pins σ (upd H s.heap.objs.size (.lst ys)) { s with heap:=s.heap.push { cls:=.type "list",data:=.seq its.toArray },toks:=t' }:=
 I.laid (fun _ _ q=>Heap.get?_push_of_some _ q) (Nat.le_refl _) ⟨hz,its,0,hv,Heap.get?_push_size _ rfl⟩
theorem Inv.fresh (I:Inv X pins σ H s):H s.heap.objs.size = none:=I.hok.fresh (Nat.le_refl _)
theorem Inv.lstM (I:Inv X pins σ H s) (hH:H l = some (.lst xs)):xs.length ≤ sizeLine ∧ ∃ (its:List Value) (n:Nat),Vals xs its ∧ xs.length = its.length ∧ s.heap.get? l = some { cls:=.type "list",data:=.seq its.toArray n }:=by
 obtain ⟨z,its,n,r,e⟩:=I.hok l _ hH
 exact ⟨z,its,n,r,r.length,e⟩
theorem b0e {n:Nat} (h:n ≤ sizeLine):Builtin.List.listTooLong n = false:=by
 unfold Builtin.List.listTooLong
 exact decide_eq_false (by omega)
end
section
variable {X:Cx}
noncomputable def b5n:V → List V → Hp → VK → Prop:=fun x vs H Q=>∃ l xs y,x = .ref l ∧ vs = [y] ∧ H l = some (.lst xs) ∧ xs.length < sizeLine ∧ Q .non (upd H l (.lst (xs ++ [y])))
theorem a5C:MtM X "list.append" b5n:=by
 intro pins s σ H x vs v us Q I rx rv h
 obtain ⟨l,xs,y,rfl,rfl,hH,hz,q⟩:=h
 cases rx
 obtain ⟨u,rfl,ru⟩:=rv.one
 obtain ⟨z,its,n,r,hl,e⟩:=I.lstM hH
 refine call_meets F.slot_list_append ⟨_,e,rfl⟩ F.entry_list_append (F.args_list_append_2 _ _) (PySem.list_append l its.toArray n u (by rw [List.size_toArray]; omega)) ⟨e,?_⟩
 refine ⟨.non,_,I.lset (its':=its ++ [u]) hH e (by simp) (r.append (.cons ru .nil)) ?_,rfl,q⟩
 rw [List.length_append,List.length_singleton]
 omega
noncomputable def a4p:R2:=fun x y H Q=>∃ l b xs zs,x = .ref l ∧ y = .ref b ∧ H l = some (.lst xs) ∧ H b = some (.lst zs) ∧ xs.length + zs.length ≤ sizeLine ∧ ∀ p,H p = none → Q (.ref p) (upd H p (.lst (xs ++ zs)))
theorem a1Q:OpR X (binaryOp .Add) a4p:=by
 intro pins s σ H x y v u Q I rx ry h
 obtain ⟨l,b,xs,zs,rfl,rfl,hH,hB,hz,q⟩:=h
 cases rx
 cases ry
 obtain ⟨z,its,n,r,hl,e⟩:=I.lstM hH
 obtain ⟨z2,its2,n2,r2,hl2,e2⟩:=I.lstM hB
 refine PySem.P.add_list e e2 ?_ (by rw [List.size_toArray,List.size_toArray]; omega)
 have ea:its.toArray ++ its2.toArray = (its ++ its2).toArray:=by simp
 rw [ea]
 exact ⟨.ref _,_,I.lnew (t':=s.toks) (r.append r2) (by rw [List.length_append]; omega),rfl,q _ I.fresh⟩
noncomputable def a5B:R2:=fun x y H Q=>∃ l k xs,x = .ref l ∧ y = .int k ∧ H l = some (.lst xs) ∧ -(2 ^ 63) ≤ k ∧ k < 2 ^ 63 ∧ xs.length * k.toNat ≤ sizeLine ∧
 ∀ p,H p = none → Q (.ref p) (upd H p (.lst (List.replicate k.toNat xs).flatten))
theorem a6r {α:Type} (xs:List α) (k:Nat):(List.replicate k xs).flatten.length = k * xs.length:=by
 induction k with
 | zero=>simp
 | succ k ih=>rw [List.replicate_succ,List.flatten_cons,List.length_append,ih,Nat.succ_mul,Nat.add_comm]
theorem a7Z:OpR X (binaryOp .Mult) a5B:=by
 intro pins s σ H x y v u Q I rx ry h
 obtain ⟨l,k,xs,rfl,rfl,hH,h1,h2,hz,q⟩:=h
 cases rx
 obtain ⟨t,rfl⟩:=ry
 obtain ⟨z,its,n,r,hl,e⟩:=I.lstM hH
 have hlen:its.toArray.size * k.toNat ≤ sizeLine:=by rw [List.size_toArray,← hl]; exact hz
 have hcap:¬ its.toArray.size * k.toNat > (2 ^ 63 - 1) / 8:=by
  have:(sizeLine:Nat) ≤ (2 ^ 63 - 1) / 8:=by decide
  omega
 have hfit:¬ (!Builtin.List.listFitsIndex k) = true:=by
  rw [fitsIndex_both h1 h2]
  exact Bool.false_ne_true
 have hlong:¬ Builtin.List.listTooLong (its.toArray.size * k.toNat) = true:=by
  rw [b0e hlen]
  exact Bool.false_ne_true
 have hnew:List.foldl (fun x1 x2=>x1 ++ x2) #[] (List.replicate (if its.toArray.isEmpty = true then 0 else k.toNat) its.toArray) = (List.replicate k.toNat its).flatten.toArray:=by
  have f0:∀ m:Nat,List.foldl (fun x1 x2=>x1 ++ x2) #[] (List.replicate m its.toArray) = (List.replicate m its).flatten.toArray:=fun m=>by
   have:=foldl_rep its m []
   rw [List.nil_append] at this
   exact this
  rw [f0]
  cases its with
  | nil=>simp
  | cons a r'=>rw [if_neg (by simp)]
 refine wpAny_binaryOp_repeat_ref (T := "list") (U := "int") (by decide) ⟨_,e,rfl⟩ (fun s'=>typeIs_int s' k t) noFill_list_mul F.fills_int_mul F.slot_int_rmul repeat_list F.slot_int_index.lookup
  (call_meets F.slot_int_rmul (typeIs_int s k t) F.entry_int_rmul (F.args_int_rmul_2 _ _) (int___rmul___int_list k t l its.toArray n)
   ⟨e,rfl,⟨_,e,rfl⟩,call_meets F.slot_list_mul ⟨_,e,rfl⟩ F.entry_list_mul (F.args_list_mul_2 _ _) (AutoListH.list___mul___list_int_3 l its.toArray n k t hfit hcap hlong) ⟨e,?_⟩⟩)
 rw [hnew]
 exact ⟨.ref _,_,I.lnew (t':=s.toks) (r.rep k.toNat) (by rw [a6r,Nat.mul_comm]; exact hz),rfl,q _ I.fresh⟩
end
end L2
namespace Att
open PySem PySem.W PySem.Calls PyProof.Rows
theorem b6s {P:Params} {h:Heap}:∀ (ns:List Int) (vs:List Value),WellAll P h vs (ns.map WData.int) → IntsAre vs ns:=by
 intro ns
 induction ns with
 | nil=>
  intro vs w
  rw [List.map_nil] at w
  cases w
  exact .nil
 | cons n ns ih=>
  intro vs w
  rw [List.map_cons] at w
  cases w with
  | cons a b=>
   cases a
   exact .cons _ _ (ih _ b)
theorem b6P {l:OpenLaw} {n:Nat} (hn:l.most = some n) {P:Params} {h:Heap} {args:List WData} {vals:List Value}
  (hpre:l.row.toRowW.claim.pre args = true) (hwl:WellAll P h vals args) :
  ∃ a vs ns,vals = [Value.ref a] ∧ args = [WData.list (ns.map WData.int)] ∧ h.get? a = some { cls:=.type "list",data:=.seq vs.toArray } ∧ IntsAre vs ns ∧ ns.length ≤ n:=by
 have hsh:WShape.hasAll [] args [.list .int] = true:=(pre_splitW hpre).1
 have hc:l.pre.holds [] { args:=args } = true:=(pre_splitW hpre).2
 obtain ⟨d,r,rfl,h1,h2⟩:=hasAllW_cons hsh
 obtain rfl:=hasAllW_nil h2
 obtain ⟨xs,rfl,h3⟩:=hasW_list h1
 obtain ⟨ns,rfl⟩:=items_int h3
 have hlen:ns.length ≤ n:=by
  unfold OpenLaw.pre at hc
  have h4:(WTm.not (.lt (.lit (.int (n:Int))) (.len (.arg 0)))).holds [] { args:=[.list (ns.map .int)] } = true:=by
   have h4:=(holds_andW hc).1
   rw [hn] at h4
   exact h4
  have h5:=condW_of h4 (w_not (w_lt w_lit (w_len_list (w_arg rfl))))
  rw [List.length_map] at h5
  refine Nat.le_of_not_lt fun q=>?_
  have q':(n:Int) < ((ns.length:Nat):Int):=by omega
  first
   | (rw [decide_eq_true q'] at h5; exact absurd h5 (by decide))
   | (simp at h5; omega)
 cases hwl with
 | cons w1 w2=>
  cases w2
  cases w1 with
  | list ho hall=>exact ⟨_,_,ns,rfl,rfl,ho,b6s ns _ hall,hlen⟩
theorem b6c (l:OpenLaw) (args:List WData):l.row.toRowW.claim.post args (.bool true) args = true:=
 postW_of (r:=l.row.toRowW) (X:=(true == true))
  (show WShape.has [] (.bool true) .bool = true by first | rfl | decide | simp [WShape.has,WShape.arms,WShape.armsAll])
  (show (WTm.eq .res (.lit (.bool true))).value [] { args:=args,res:=some (.bool true),after:=args } = some (.bool (true == true)) from w_eq_bool (w_res rfl) w_lit) rfl
theorem attach_call {l:OpenLaw} {n:Nat} {q:Program} {loose:List Str} {XP:(Str → Option Value) → Heap → Prop} {YP:World → Heap → Prop} {d:DefRec}
  (hn:l.most = some n) (hdf:d.params.defaults = [])
  (call:∀ (w:World) (s₀ s₁:Shared) (mg mb:Str → Option Value) (fa:Addr) (o:Obj) (pm cd doc:Value) (a:Addr) (vs:List Value) (ns:List Int),
   Ground q loose [] XP w s₀ mg mb s₁.heap → YP w s₁.heap →
   s₁.heap.get? fa = some o → o.data = .func (docDef d.name d.params d.body d.scope pm cd doc) → s₁.heap.CodeRec cd d.name → mg d.name = some (.ref fa) →
   s₁.heap.get? a = some { cls:=.type "list",data:=.seq vs.toArray } → IntsAre vs ns → ns.length ≤ n → s₁.gens = #[] →
   codeAny (model l.prog w) callerA (.call (.ref fa) ⟨[.ref a],[]⟩) (fun r s'=>r = .ok (.ret (.bool true)) ∧ OldK s₁.heap s'.heap ∧ s'.os = s₁.os ∧ AllBare s'.gens) s₁) :
  WalkO q loose XP YP l.row.toRowW d [] (fun f vs=>PySem.call f vs):=by
 intro w s₀ s₁ mg mb G Y fa o pm cd doc dV kV ho hd hcd hD hmg hg args vals as hpre hlay hrd hwl hlo
 obtain rfl:dV = .none:=Dflts.none hD hdf
 obtain rfl:kV = .none:=Dflts.noKw hD
 obtain ⟨a,vs,ns,rfl,rfl,hobj,hints,hlen⟩:=b6P hn hpre hwl
 refine enter_call (codeAny_mono (call w s₀ s₁ mg mb fa o pm cd doc a vs ns G Y ho (fd_plain hd) hcd hmg hobj hints hlen hg) fun r s' hq=>?_)
 obtain ⟨rfl,h2,h3,h4⟩:=hq
 exact ⟨.inl ⟨.bool true,.bool true,[],rfl,fun _=>rfl,.bool true,b6c l _,fun _=>⟨List.Pairwise.nil,fun _ hm=>(nomatch hm)⟩⟩,h2,h3,h4⟩
end Att
namespace L2
open PySem PySem.Spec PyProof.Rows
theorem a7H:∀ {vs:List Value} {ns:List Int},IntsAre vs ns → Vals (ns.map V.int) vs
 | _,_,.nil=>.nil
 | _,_,.cons n t h=>.cons ⟨t,rfl⟩ (a7H h)
noncomputable def a4F (H:Hp):Prop:=∀ b,H b = none ∨ ∃ o xs,H b = some (.frz o (.lst xs))
theorem b1Y {P:Program} {w:World} {K:PySem.W.Frag} {mg mb:Str → Option Value} {CX:CXT} {k:Nat} {fa a:Addr} {fd:FuncData} {x:Str} {sp:Sp} {s₁:Shared} {vs:List Value} {ns:List Int}
  (KX:K.In s₁.heap) (hns:s₁.heap.Ns mainGlobals mg) (hb:s₁.heap.Ns builtinsNs mb) (hbb:∀ x:Str,x ≠ "__name__" → mb x = bootBuiltins x) (hlim:s₁.heap.NoLimit) (hg:s₁.gens = #[])
  (ha:s₁.heap.get? a = some { cls:=.type "list",data:=.seq vs.toArray }) (hi:IntsAre vs ns) (hl:ns.length ≤ sizeLine) (hr:Room k callerA)
  (F:∀ base:Heap,K.In base → base.Ns mainGlobals mg → FnOk P w K mg base CX k fa fd [x] sp) (hbind:∀ (s:Shared) (u:Value),BindsTo s fd ⟨[u],[]⟩ [(x,u)])
  (hsp:∀ H:Hp,a4F H → SqL K H a (ns.map V.int) → sp [.ref a] H (fun v _=>v = .bl true) fun _ _ _=>False)
  (hCX:∀ H e s',CX [] H s₁ (fun _ _ _=>False) e s' → False) :
  codeAny (model P w) callerA (.call (.ref fa) ⟨[.ref a],[]⟩) (fun r s'=>r = .ok (.ret (.bool true)) ∧ OldK s₁.heap s'.heap ∧ s'.os = s₁.os ∧ AllBare s'.gens) s₁:=by
 have rv:=a7H hi
 have lenV:=hi.length
 have a0a:∀ H:Hp,a4F H → SqL K H a (ns.map V.int) → HOk P w H s₁.heap → (∀ b,H b ≠ none → b = a) → (H a ≠ none → K.lookup a = none) →
   codeAny (model P w) callerA (.call (.ref fa) ⟨[.ref a],[]⟩) (fun r s'=>r = .ok (.ret (.bool true)) ∧ OldK s₁.heap s'.heap ∧ s'.os = s₁.os ∧ AllBare s'.gens) s₁:=by
  intro H hO hS hok hA hK
  have base_of:∀ {b:Addr} {o:Obj},s₁.heap.get? b = some o → H b = none → (O0 s₁.heap H).get? b = some o:=fun e n=>b1s e n
  have noA:∀ {b:Addr} {o:Obj} {es:Array DictEntry} {ep:Nat},s₁.heap.get? b = some o → o.data = .dict es ep → H b = none:=fun {b o es ep} e d=>by
   cases q:H b with
   | none=>rfl
   | some u=>
    have e':b = a:=hA b (by rw [q]; simp)
    subst e'
    rw [ha] at e; cases e
    have d':Data.seq vs.toArray _ = Data.dict es ep:=d
    cases d'
  have nsK:∀ {b:Addr} {m:Str → Option Value},s₁.heap.Ns b m → (O0 s₁.heap H).Ns b m:=fun {b m} ⟨o,es,ep,e,d,r⟩=>⟨o,es,ep,base_of e (noA e d),d,r⟩
  have hKb:K.In (O0 s₁.heap H):=fun b o e=>base_of (KX b o e) (by
   cases q:H b with
   | none=>rfl
   | some u=>
    have e':b = a:=hA b (by rw [q]; simp)
    subst e'
    rw [hK (by rw [q]; simp)] at e; cases e)
  have hM:Mod K mg (O0 s₁.heap H):=⟨hKb,nsK hns,⟨mb,nsK hb,hbb⟩,let ⟨mc,h1,h2⟩:=hlim; ⟨mc,nsK h1,h2⟩⟩
  have e0:Env0 P w K mg (O0 s₁.heap H) callerA [] s₁ H:=⟨rfl,hM,fun b o e=>b05 e,Nat.le_of_eq (b36 _ _),trivial,fun b hb=>absurd (show b ∈ ([]:List Addr) from hb) (by simp),hok,.of_eq hg⟩
  refine codeAny_mono ((F _ hKb (nsK hns)).run callerA [] s₁ H ⟨[.ref a],[]⟩ [.ref a] [.ref a] _ _ hr e0 (hbind s₁ (.ref a)) (.cons rfl .nil) (hsp H hO hS)) fun r s' h=>?_
  cases r with
  | error e=>exact (hCX H e s' h).elim
  | ok fl=>
   cases fl with
   | next=>exact False.elim h
   | brk=>exact False.elim h
   | cont=>exact False.elim h
   | ret u=>
    obtain ⟨v,H',os,bare,un,hok',r',q⟩:=h
    have q':v = .bl true:=q
    subst q'
    obtain rfl:u = Value.bool true:=r'
    refine ⟨rfl,OldK.of_keep fun b o e=>?_,os,bare⟩
    cases q:H b with
    | none=>exact un.keep b o e q (by intro z; exact absurd (show b ∈ ([]:List Addr) from z) (by simp)) (by simp)
    | some u=>
     rcases hO b with z | ⟨ob,xs,z⟩
     ·rw [q] at z; cases z
     ·have z2:=un.frzs b ob _ z
      obtain ⟨e1,_⟩:=hok b _ z
      obtain ⟨e2,_⟩:=hok' b _ z2
      rw [e] at e1; cases e1
      exact e2
 cases hk:K.lookup a with
 | some o=>
  have e:=KX a o hk
  rw [ha] at e
  cases e
  refine a0a (fun _=>none) (fun _=>.inl rfl) (.inr ⟨_,vs.toArray,_,hk,rfl,rfl,rfl,by rw [List.size_toArray,lenV]; exact hl,by simpa using rv⟩) (fun b u z=>by have z':(none:Option HO) = some u:=z; cases z') (fun b z=>absurd rfl z) fun z=>absurd rfl z
 | none=>
  refine a0a (fun b=>if b = a then some (.frz { cls:=.type "list",data:=.seq vs.toArray } (.lst (ns.map V.int))) else none) (fun b=>?_) (.inl (.inr ⟨{ cls:=.type "list",data:=.seq vs.toArray },if_pos rfl⟩)) (fun b u z=>?_) (fun b z=>?_) fun _=>hk
  ·by_cases hb:b = a
   ·exact .inr ⟨_,_,if_pos hb⟩
   ·exact .inl (if_neg hb)
  ·by_cases hb:b = a
   ·have z':=(if_pos hb).symm.trans z
    cases z'
    subst hb
    exact ⟨ha,by rw [List.length_map]; exact hl,vs,_,rv,ha⟩
   ·have z':=(if_neg hb).symm.trans z
    cases z'
  ·by_cases hb:b = a
   ·exact hb
   ·exact absurd (if_neg hb) z
theorem walk_of {l:PySem.W.OpenLaw} {n k:Nat} {q:Program} {loose:List Str} {XP:(Str → Option Value) → Heap → Prop} {YP:World → Heap → Prop} {d:DefRec} {K:Params → PySem.W.Frag} {CX:World → CXT} {sp:World → Sp} {x:Str}
  (hn:l.most = some n) (hn2:n ≤ sizeLine) (hdf:d.params.defaults = []) (hr:Room k callerA)
  (hY:∀ (w:World) (h:Heap),YP w h → (K w.params).In h)
  (F:∀ (w:World) (mg:Str → Option Value) (fa:Addr) (h:Heap),(K w.params).In h → h.Ns mainGlobals mg → mg d.name = some (.ref fa) →
   ∃ fd:FuncData,(∀ (s:Shared) (u:Value),BindsTo s fd ⟨[u],[]⟩ [(x,u)]) ∧
    ∀ base:Heap,(K w.params).In base → base.Ns mainGlobals mg → FnOk l.prog w (K w.params) mg base (CX w) k fa fd [x] (sp w))
  (hsp:∀ (w:World) (H:Hp) (a:Addr) (ns:List Int),ns.length ≤ n → a4F H → SqL (K w.params) H a (ns.map V.int) → sp w [.ref a] H (fun v _=>v = .bl true) fun _ _ _=>False)
  (hCX:∀ (w:World) (H:Hp) (s:Shared) (e:Value) (s':Shared),CX w [] H s (fun _ _ _=>False) e s' → False) :
  PySem.W.WalkO q loose XP YP l.row.toRowW d [] (fun f vs=>PySem.call f vs):=by
 refine Att.attach_call hn hdf fun w s₀ s₁ mg mb fa o pm cd doc a vs ns G Y ho hd hcd hmg hobj hints hlen hg=>?_
 have KX:=hY w _ Y
 obtain ⟨fd,hb,hF⟩:=F w mg fa _ KX G.T.g hmg
 exact b1Y KX G.T.g G.T.b G.T.builtins G.T.nolimit hg hobj hints (Nat.le_trans hlen hn2) hr hF hb (fun H hO hS=>hsp w H a ns hlen hO hS) fun H e s'=>hCX w H s₁ e s'
noncomputable def P8 (s:Stmt):Arguments:=match s with
 | .FunctionDef _ a _ _ _ _ _ _ _ _=>a
 | _=>{ posonlyargs:=[],args:=[],vararg:=none,kwonlyargs:=[],kw_defaults:=[],kwarg:=none,defaults:=[] }
noncomputable def J3 (s:Stmt):List Stmt:=match s with
 | .FunctionDef _ _ b _ _ _ _ _ _ _=>b
 | _=>[]
noncomputable def k9 (s:Stmt):Scope:=match s with
 | .FunctionDef _ _ _ _ _ _ sc _ _ _=>sc
 | _=>{ kind:=.function,names:=[],isGenerator:=false,isCoroutine:=false }
noncomputable abbrev CX0:CXT:=fun _ _ _ _ _ _=>False
noncomputable abbrev E0:XK:=fun _ _ _=>False
theorem b1K {X:Cx}:a4D CX0 X E0:=fun _ _ _ _ _ _ _ h=>h.elim
structure Fun (K:PySem.W.Frag) (x qual:Str) (st:Stmt) (f:Addr) (fd:FuncData):Prop where
 ex:∃ (oc:Value) (od:Option Addr) (kV doc pm:Value) (an:Option Addr) (cdv ct:Value) (osl:Array (Option Value)),
  fd = PySem.W.fnOf x qual (P8 st) (J3 st) (k9 st) .none kV doc pm an cdv ct ∧ K.lookup f = some ⟨oc,od,.func fd,osl⟩ ∧ PySem.W.codeIn K cdv qual = true
 kp:PySem.W.keepIn K (.ref f) = true
section
variable {P:Program} {w:World} {K:PySem.W.Frag} {mg:Str → Option Value} {base:Heap}
theorem Fun.ok {x qual:Str} {st:Stmt} {f:Addr} {fd:FuncData} {N ps:List Str} {k:Nat} {sp:Sp} (F:Fun K x qual st f fd) (S:FnScope N ps (k9 st)) (len:∀ vs H Q E,sp vs H Q E → vs.length = ps.length)
  (hbody:∀ (cdv:Value) (A:Around) (outer:List Env) (s:Shared) (H:Hp) (vs:List V) (Q:VK) (E:XK),Room k (A.deeper (envOfC qual (k9 st) s.heap.objs.size f cdv)) → sp vs H Q E →
   ∃ t,PSs (N7 CX0 P w K mg base N qual (k9 st) f cdv A outer s H E).nox (J3 st) t ∧ t { nx:=fun _ H'=>Q .non H',rt:=Q } (start N vs) H):FnOk P w K mg base CX0 (k + 1) f fd ps sp:=by
 obtain ⟨oc,od,kV,doc,pm,an,cdv,ct,osl,rfl,lk,hcd⟩:=F.ex
 refine b2P lk hcd S len fun A outer s H vs Q E hr hsp=>?_
 obtain ⟨t,h,q⟩:=hbody cdv A outer s H vs Q E hr hsp
 exact ⟨t,h.nox,q⟩
theorem Fun.binds {x qual:Str} {st:Stmt} {f:Addr} {fd:FuncData} {ps:List Str} (F:Fun K x qual st f fd)
  (h:∀ (kV doc pm:Value) (an:Option Addr) (cdv ct:Value) (us:List Value),us.length = ps.length → bindArgs (PySem.W.fnOf x qual (P8 st) (J3 st) (k9 st) .none kV doc pm an cdv ct) ⟨us,[]⟩ = pure (ps.zip us)):Binds K fd ps []:=by
 obtain ⟨oc,od,kV,doc,pm,an,cdv,ct,osl,rfl,lk,hcd⟩:=F.ex
 exact .all (h kV doc pm an cdv ct)
theorem b5J {x qual:Str} {st:Stmt} {f:Addr} {oc:Value} {od an:Option Addr} {osl:Array (Option Value)} {kV doc pm cdv ct:Value} (l:K.lookup f = some ⟨oc,od,.func (PySem.W.fnOf x qual (P8 st) (J3 st) (k9 st) .none kV doc pm an cdv ct),osl⟩)
  (c:PySem.W.codeIn K cdv qual = true) (k:PySem.W.keepIn K (.ref f) = true):Fun K x qual st f (PySem.W.fnOf x qual (P8 st) (J3 st) (k9 st) .none kV doc pm an cdv ct):=⟨⟨oc,od,kV,doc,pm,an,cdv,ct,osl,rfl,l,c⟩,k⟩
end
section
variable {X:Cx}
theorem pv (i:Nat) {x:Str} {pos:Pos} (hN:X.N[i]? = some x:=by rfl) (hv:Vis X.env.scope x:=by first | exact Or.inl rfl | exact Or.inr (Or.inl rfl) | exact Or.inr (Or.inr rfl)) (hd:(x == ("__debug__" : Str)) = false:=by decide)
  (hcd:(x == ("__classdict__" : Str)) = false:=by decide):PE X (.Name x pos) (N5 i):=b0m hN hv hd hcd
end
theorem a6D {A B:Prop} (h:B):if false = true then A else B:=by
 rw [if_neg Bool.false_ne_true]
 exact h
theorem a5M {A B:Prop} (h:A):if true = true then A else B:=by
 rw [if_pos rfl]
 exact h
noncomputable def blk (X:Cx) (N':List Str) (scope:Scope) (cl:List (Str × Addr)) (C:Addr) (s0:Shared) (H0:Hp) (ex:List Addr):Cx:=
 { X with N:=N',env:=compEnvC scope cl C X.env,s₀:=s0,H₀:=H0,outer:=X.stack,stack:=X.stack,ex:=ex,fn:=fun _=>false,pn:=[],xe:=fun _ _=>False }
noncomputable def U8 (X:Cx) (ifs:List Expr) (t:TT):Prop:=
 ∀ (pins:List (Addr × Obj)) (s:Shared) (σ:St) (H:Hp) (Q:Bool → Hp → Prop),Inv X pins σ H s → t σ H Q →
  wpAny (model X.prog X.w) X.A (forIn ifs true fun c r=>if r = true then do let ok ← isTrue c X.env (eval c X.env); pure (ForInStep.yield ok) else pure (ForInStep.yield r)) (TP X pins σ Q) X.xe s
noncomputable def b5z:TT:=fun _ H Q=>Q true H
theorem b46 {X:Cx}:U8 X [] b5z:=fun pins s σ H Q I h=>wpAny_tests_nil ⟨H,I,h⟩
theorem b0t {X:Cx} {c:Expr} {t:TT} (h:PT X c t):U8 X [c] t:=fun pins s σ H Q I q=>wpAny_tests_one (h pins s σ H Q I q)
noncomputable def A7 (n:Nat) (idx:List Nat) (σ:St):St:=List.replicate n none ++ idx.map fun i=>(σ[i]?).join
noncomputable def W8 (n:Nat) (idx:List Nat) (wi:TI) (g:TG) (tc:TT) (te:TE):TE:=fun σ H Q=>wi σ H fun J H1=>∀ D,H1 D = none →
 ∃ W:Nat → Nat → Hp → Prop,(∃ m,W 0 m (upd H1 D (.lst []))) ∧ ∀ i m H,W i m H →
  (J.stop i H ∧ Q (.ref D) H) ∨ (J.go i H ∧ ∀ x H',J.yld i H x H' → g x (A7 n idx σ) H' fun σ2 H2=>(σ2.length = (A7 n idx σ).length ∧ ∀ (j:Nat) (v:V),(A7 n idx σ)[j]? = some (some v) → σ2[j]? = some (some v)) ∧ tc σ2 H2 fun b H3=>
   if b = true then te σ2 H3 fun v H4=>∃ ys,H4 D = some (.lst ys) ∧ ys.length < sizeLine ∧ ∃ m',m' < m ∧ W (i + 1) m' (upd H4 D (.lst (ys ++ [v]))) else ∃ m',m' < m ∧ W (i + 1) m' H3)
structure CompOk (X:Cx) (scope:Scope) (cl:List (Str × Addr)) (N':List Str) (n:Nat) (idx:List Nat):Prop where
 clos:closureFor scope X.env = pure cl
 sub:∀ x c,cl.lookup x = some c → X.env.cells.lookup x = some c
 cell:∀ y ∈ scope.names,y.2 ≠ .cell
 kind:scope.kind = .function
 names:∀ y ∈ scope.names,y.2 = .local → scope.names.lookup y.1 = some .local
 has:∀ x,((relabel scope X.env).names.lookup x = some .cell ∨ (relabel scope X.env).names.lookup x = some .free) → ∃ c,cl.lookup x = some c
 len:N'.length = n + idx.length
 cap:∀ (j i:Nat) (y:Str),idx[j]? = some i → N'[n + j]? = some y → X.N[i]? = some y ∧ (X.env.scope.names.lookup y = some .cell ∨ X.env.scope.names.lookup y = some .free) ∧ ((relabel scope X.env).names.lookup y = some .cell ∨ (relabel scope X.env).names.lookup y = some .free)
section
variable {X:Cx} {scope:Scope} {cl:List (Str × Addr)} {N':List Str} {n:Nat} {idx:List Nat} {tg iter elt:Expr} {ifs:List Expr} {pos:Pos} {wi:TI} {g:TG} {tc:TT} {te:TE}
theorem b2R (σ:St):(A7 n idx σ).length = n + idx.length:=by simp [A7]
theorem b3a {σ:St} {j:Nat} {v:V} (h:(A7 n idx σ)[j]? = some (some v)):∃ k i,j = n + k ∧ idx[k]? = some i ∧ σ[i]? = some (some v):=by
 unfold A7 at h
 by_cases hj:j < n
 ·rw [List.getElem?_append_left (by simpa using hj)] at h
  simp [hj] at h
 ·rw [List.getElem?_append_right (by simpa using Nat.le_of_not_lt hj)] at h
  simp only [List.length_replicate,List.getElem?_map] at h
  refine ⟨j - n,?_⟩
  cases e:idx[j - n]? with
  | none=>rw [e] at h; simp at h
  | some i=>
   rw [e] at h
   simp only [Option.map_some,Option.some.injEq] at h
   exact ⟨i,by omega,rfl,by simpa using Option.join_eq_some_iff.mp h⟩
theorem b44 (k:CompOk X scope cl N' n idx) {pins:List (Addr × Obj)} {s2:Shared} {σ:St} {H2:Hp} {fp:List Addr} {C:Addr} {h4:Heap} {t4:Nat} {m:Str → Option Value} (I:Inv X pins σ H2 s2) (f:∀ b ∈ fp,E3 X pins H2 b) (fo:∀ b ∈ fp,b < s2.heap.objs.size)
  (hC:s2.heap.objs.size + 1 ≤ C) (ns:h4.Ns C m) (keep:∀ b o,s2.heap.get? b = some o → h4.get? b = some o) (hD:h4.get? s2.heap.objs.size = some { cls:=.type "list",data:=.seq ([]:List Value).toArray }) :
  Inv (blk X N' scope cl C s2 H2 fp) [] (A7 n idx σ) (upd H2 s2.heap.objs.size (.lst [])) { s2 with heap:=h4,toks:=t4 }:=by
 have fresh:H2 s2.heap.objs.size = none:=I.hok.fresh (Nat.le_refl _)
 have fC:H2 C = none:=I.hok.fresh (by omega)
 have cellsub:∀ x c,(blk X N' scope cl C s2 H2 fp).env.cells.lookup x = some c → X.env.cells.lookup x = some c:=fun x c e=>k.sub x c e
 have cellLt:∀ x c,X.env.cells.lookup x = some c → c < s2.heap.objs.size:=fun x c e=>by
  obtain ⟨v,q⟩:=I.cell x c e
  exact q.lt
 have ok:(blk X N' scope cl C s2 H2 fp).Ok:={
  mod:=I.ok.mod
  kind:=k.kind
  glob:=I.ok.glob
  blt:=I.ok.blt
  above:=by show s2.heap.objs.size ≤ C; omega
  inj:=fun x y c e1 e2=>I.ok.inj x y c (cellsub x c e1) (cellsub y c e2)
  has:=fun x h=>k.has x h
  cab:=fun x c h _=>by cases h
  hd:=I.ok.hd
  frames:=I.ok.frames
  stk:=.inl rfl
  exf:=fun b hb=>⟨Nat.ne_of_lt (Nat.lt_of_lt_of_le (fo b hb) (by show s2.heap.objs.size ≤ C; omega)),fun x c e z=>(f b hb).2.2.2.2.1 x c (cellsub x c e) z⟩
  bs:=fun b o e=>I.bs b o e
  bsz:=Nat.le_trans I.ok.bsz I.sz
  noex:=fun b o e hb=>by
   rcases (f b hb).2.2.2.1 with z | z
   ·exact I.ok.noex b o e z
   ·exact absurd (Nat.lt_of_lt_of_le (Heap.lt_size e) (Nat.le_trans I.ok.bsz z)) (Nat.lt_irrefl _)
  exfs:=fun b hb z=>by
   rcases List.mem_cons.mp (I.stkSub b z) with y | y
   ·exact (f b hb).2.1 y
   ·exact (f b hb).2.2.1 y
  funs:=I.stack
  frf:=I.stkFree }
 refine ⟨ok,rfl,I.bare,Un.laid keep (Nat.le_refl _) fresh,⟨m,ns,fun j y v e1 e2 e3=>?_⟩,fun x c e=>?_,?_,fun x c e=>?_,fun p hp=>(by cases hp),I.hok.laid keep (Nat.le_refl _) ⟨Nat.zero_le _,[],_,.nil,hD⟩,?_⟩
 ·obtain ⟨kk,i,rfl,hk,hv⟩:=b3a e2
  obtain ⟨hN,ok,hkind⟩:=k.cap kk i y hk e1
  obtain ⟨c,hc⟩:=k.has y hkind
  obtain ⟨m0,_,hl⟩:=I.loc
  have hc':=k.sub y c hc
  obtain ⟨u,r,l⟩:=hl i y v hN hv (by rcases ok with z | z; exact .inr (.inl z); exact .inr (.inr z))
  refine ⟨u,r,.inr ⟨hkind,c,hc,?_⟩⟩
  rcases l with ⟨z,_⟩ | ⟨_,c',e',q⟩
  ·have z':X.env.scope.names.lookup y = some .local:=z
   rcases ok with w | w <;> · rw [w] at z'; cases z'
  ·rw [hc'] at e'; cases e'
   obtain ⟨o,ho,hd⟩:=q
   exact ⟨o,keep _ o ho,hd⟩
 ·obtain ⟨v,q⟩:=I.cell x c (cellsub x c e)
  obtain ⟨o,ho,hd⟩:=q
  exact ⟨v,o,keep c o ho,hd⟩
 ·show upd H2 s2.heap.objs.size (.lst []) C = none
  rw [m9 (Nat.ne_of_gt hC)]; exact fC
 ·have:=cellLt x c (cellsub x c e)
  rw [m9 (Nat.ne_of_lt this)]
  exact I.freeC x c (cellsub x c e)
 ·rw [b2R,← k.len]; rfl
theorem b0o {prog:Program} {w:World} {A:Around} {R:Result → Shared → Prop} {s:Shared} {elt target iter:Expr} {ifs:List Expr} {scope:Scope} {pos:Pos} {it acc:Value} {env:Env} (I:Nat → Shared → Prop)
  (turn:∀ n s,I n s → wpAny (model prog w) A (pyNext it) (fun r s1=>match r with
   | none=>R (.ok .next) s1
   | some v=>wpAny (model prog w) A (letOwnedTupleGo target it v) (fun _ s1'=>wpAny (model prog w) A (assign target env v) (fun _ s2=>
     wpAny (model prog w) A (forIn ifs true fun c r=>if r = true then do let ok ← isTrue c env (eval c env); pure (ForInStep.yield ok) else pure (ForInStep.yield r)) (fun ok s3=>
      if ok = true then wpAny (model prog w) A (eval elt env) (fun x s4=>
       wpAny (model prog w) A (call (.builtin "list.append") [acc,x]) (fun _ s5=>∃ m,m < n ∧ I m s5) (notedBy (model prog w) A env fun e s'=>R (.error e) s') s4) (notedBy (model prog w) A env fun e s'=>R (.error e) s') s3
      else ∃ m,m < n ∧ I m s3) (notedBy (model prog w) A env fun e s'=>R (.error e) s') s2) (notedBy (model prog w) A env fun e s'=>R (.error e) s') s1') (notedBy (model prog w) A env fun e s'=>R (.error e) s') s1) (notedBy (model prog w) A env fun e s'=>R (.error e) s') s)
  (n:Nat) (h:I n s) :
  codeAny (model prog w) A (.compLoop (.ListComp elt [⟨target,iter,ifs,0⟩] scope pos) 0 it acc env) R s:=by
 refine codeAny_loop rfl I (fun n s hI=>?_) n h
 show wpAny _ A ((compTurn (.ListComp elt [⟨target,iter,ifs,0⟩] scope pos) 0 it acc env).onRaise (fun x=>do noteFrame x env; theTreesLotGoes x)) _ _ s
 refine wpAny_noted ?_
 rw [compTurn_list]
 refine wpAny_bind (wpAny_standAt (wpAny_bind (wpAny_mono (turn n s hI) (fun r s₁ h₁=>?_) fun _ _ h'=>h')))
 cases r with
 | none=>exact wpAny_pure h₁
 | some v=>
  refine wpAny_bind (wpAny_mono h₁ (fun _ s1' h1'=>?_) fun _ _ h'=>h')
  refine wpAny_bind (wpAny_mono h1' (fun _ s₂ h₂=>wpAny_bind (wpAny_mono h₂ (fun ok s₃ h₃=>?_) fun _ _ h'=>h')) fun _ _ h'=>h')
  cases ok with
  | false=>exact wpAny_pure ⟨rfl,h₃⟩
  | true=>
   exact wpAny_bind (wpAny_bind (wpAny_mono h₃ (fun x s₄ h₄=>wpAny_bind (wpAny_mono h₄ (fun _ s₅ h₅=>wpAny_pure (wpAny_pure ⟨rfl,h₅⟩)) fun _ _ h'=>h')) fun _ _ h'=>h'))
end
section
variable {X:Cx} {scope:Scope} {cl:List (Str × Addr)} {N':List Str} {n:Nat} {idx:List Nat} {tg iter elt:Expr} {ifs:List Expr} {pos:Pos} {wi:TI} {g:TG} {tc:TT} {te:TE}
theorem a6h {use:Option (Value → Sem Unit)} {Q':Value → Shared → Prop} {pos2:Pos} (hc:X.calm = true) (k:CompOk X scope cl N' n idx) (hi:PI X tg iter wi)
  (hg:∀ C s0 H0 ex,PG (blk X N' scope cl C s0 H0 ex) tg g) (ht:∀ C s0 H0 ex,U8 (blk X N' scope cl C s0 H0 ex) ifs tc) (he:∀ C s0 H0 ex,PE (blk X N' scope cl C s0 H0 ex) elt te)
  (hs:∀ x,foldedSetIterable iter X.env x = pure x) {pins:List (Addr × Obj)} {s:Shared} {σ:St} {H:Hp} {Q:VK} (I0:Inv X pins σ H s) (h:W8 n idx wi g tc te σ H Q)
  (last:∀ (C D:Addr) (s':Shared) (H':Hp) (m:Str → Option Value),Inv X pins σ H' s' → E3 X pins H' C → s'.heap.Ns C m → Q (.ref D) H' → compPost (model X.prog X.w) X.A X.xe use Q' (.ref D) C (.ok .next) s') :
  wpAny (model X.prog X.w) X.A (comprehension (.ListComp elt [⟨tg,iter,ifs,0⟩] scope pos) scope X.env pos2 (newList []) false (eval iter X.env) use) Q' X.xe s:=by
 refine wpAny_comprehension_free (use:=use) rfl hs k.clos k.kind k.names (thn (hi pins s σ H _ I0 h) fun v s1 h1=>thn h1 fun itv s2 h2=>?_)
 obtain ⟨it,fp,tn,J,H2,e,I2,T,st2,f2,hW⟩:=h2
 subst e
 have fo2:∀ b ∈ fp,b < s2.heap.objs.size:=fun b hb=>by
  obtain ⟨o,e,_⟩:=T.obj _ _ st2 b hb
  exact Heap.lt_size e
 obtain ⟨W,⟨m0,w0⟩,turn⟩:=hW s2.heap.objs.size (I2.hok.fresh (Nat.le_refl _))
 refine wpAny_newObj_type (wpAny_newFunctionEnv k.cell (by intro y hy; simp at hy) (fun h4 hns4 hsb4=>?_) k.kind)
 dsimp only at hns4 hsb4 ⊢
 generalize hH3:s2.heap.push { cls:=.type "list",dict:=none,data:=.seq ([]:List Value).toArray } = h3 at hns4 hsb4 ⊢
 have hCe:h3.objs.size = s2.heap.objs.size + 1:=by rw [← hH3,Heap.size_push]
 have k34:∀ b o,b ≠ h3.objs.size → h3.get? b = some o → h4.get? b = some o:=fun b o nb e=>hsb4.extBut b o nb (Heap.get?_push_of_some _ e)
 have keep:∀ b o,s2.heap.get? b = some o → h4.get? b = some o:=fun b o e=>k34 b o (Nat.ne_of_lt (by rw [hCe]; exact Nat.lt_succ_of_lt (Heap.lt_size e))) (by rw [← hH3]; exact Heap.get?_push_of_some _ e)
 have hD:h4.get? s2.heap.objs.size = some { cls:=.type "list",data:=.seq ([]:List Value).toArray }:=k34 _ _ (Nat.ne_of_lt (by rw [hCe]; exact Nat.lt_succ_self _)) (by rw [← hH3]; exact Heap.get?_push_size _ rfl)
 have I4:=b44 k I2 f2 fo2 (Nat.le_of_eq hCe.symm) hns4 keep hD (t4:=s2.toks + ([]:List (Str × Value)).length)
 have stat:∀ {H':Hp},(∀ b ∈ fp,H' b = none) → ∀ b ∈ fp,E3 (blk X N' scope cl h3.objs.size s2 H2 fp) [] H' b:=fun hn b hb=>
  ⟨hn b hb,Nat.ne_of_lt (by rw [hCe]; exact Nat.lt_succ_of_lt (fo2 b hb)),fun z=>(List.mem_cons.mp (I2.stkSub b z)).elim (f2 b hb).2.1 (f2 b hb).2.2.1,.inl hb,fun x c e=>(f2 b hb).2.2.2.2.1 x c (k.sub x c e),fun p hp=>(by cases hp)⟩
 have fr4:∀ b ∈ fp,upd H2 s2.heap.objs.size (.lst []) b = none:=fun b hb=>by rw [m9 (Nat.ne_of_lt (fo2 b hb))]; exact (f2 b hb).1
 have fin:∀ (s':Shared) (H':Hp),Inv (blk X N' scope cl h3.objs.size s2 H2 fp) [] (A7 n idx σ) H' s' → Q (.ref s2.heap.objs.size) H' →
   compPost (model X.prog X.w) X.A X.xe use Q' (.ref s2.heap.objs.size) h3.objs.size (.ok .next) s':=fun s' H' I' q=>by
  obtain ⟨m',hn',_⟩:=I'.loc
  have B:=I'.base
  refine last _ _ s' H' m' ?_ (I2.fpOk (by rw [hCe]; exact Nat.le_succ _) I'.free) hn' q
  refine I2.call' (s':=s') (ch:=fp) (show s'.os = s2.os from I'.os) ⟨fun b o e nn hb hx=>B.keep b o e nn hb hx,fun b o e nn hb hx=>B.slot b o e nn hb hx,B.free,fun b o e hx=>B.there b o e hx,B.tups,B.frzs,B.tbls⟩ I'.hok I'.bare fun b hb=>?_
  obtain ⟨p1,p2,p3,p4,p5,p6⟩:=f2 b hb
  exact ⟨p4,p2,p5,p6⟩
 have loop:∀ s4:Shared,s4 = { s2 with heap:=h4,toks:=s2.toks + ([]:List (Str × Value)).length } →
   codeAny (model X.prog X.w) X.A (.compLoop (.ListComp elt [⟨tg,iter,ifs,0⟩] scope pos) 0 (.ref it) (.ref s2.heap.objs.size) (compEnvC scope cl h3.objs.size X.env)) (compPost (model X.prog X.w) X.A X.xe use Q' (.ref s2.heap.objs.size) h3.objs.size) s4:=by
  rintro s4 rfl
  refine b0o (fun m s'=>∃ i H',Inv (blk X N' scope cl h3.objs.size s2 H2 fp) [] (A7 n idx σ) H' s' ∧ tn i s'.heap ∧ (∀ b ∈ fp,H' b = none) ∧ W i m H') ?_ m0 ⟨0,_,I4,T.keep _ _ _ st2 (fun b _ o e=>keep b o e),fr4,w0⟩
  rintro m s3 ⟨i,H3,I3,st3,fr3,w3⟩
  rcases turn i m H3 w3 with ⟨stop,q⟩ | ⟨go,step⟩
  ·refine wpAny_mono (T.done (blk X N' scope cl h3.objs.size s2 H2 fp) rfl rfl rfl hc i [] s3 _ H3 (fun _ _=>False) I3 (stat fr3) st3 stop) (fun r s5 ⟨hr,I5⟩=>?_) fun _ _ z=>z.elim
   subst hr
   exact fin s5 H3 I5 q
  ·refine wpAny_mono (T.item (blk X N' scope cl h3.objs.size s2 H2 fp) rfl rfl rfl hc i [] s3 _ H3 (fun _ _=>False) I3 (stat fr3) st3 go) (fun r s5 ⟨u,hr,h5⟩=>?_) fun _ _ z=>z.elim
   subst hr
   refine wpAny_mono h5 (fun _ s6 ⟨x,H6,I6,r6,y6,st6,fr6⟩=>?_) fun _ _ z=>z.elim
   have I6':=I6.pinned (stat fr6) (T.obj _ _ st6)
   have again:∀ {σ7:St} {H7:Hp} {s7:Shared},Inv (blk X N' scope cl h3.objs.size s2 H2 fp) ([] ++ Z7 fp s6.heap) σ7 H7 s7 → σ7.length = (A7 n idx σ).length → (∀ (j:Nat) v,(A7 n idx σ)[j]? = some (some v) → σ7[j]? = some (some v)) → (∃ m',m' < m ∧ W (i + 1) m' H7) →
     ∃ m',m' < m ∧ ∃ i H',Inv (blk X N' scope cl h3.objs.size s2 H2 fp) [] (A7 n idx σ) H' s7 ∧ tn i s7.heap ∧ (∀ b ∈ fp,H' b = none) ∧ W i m' H':=fun {σ7 H7 s7} I7 hl hw ⟨m',hm,w7⟩=>by
    refine ⟨m',hm,i + 1,H7,(I7.unpinned).weak hl.symm hw,T.keep _ _ _ st6 fun b hb o e=>(I7.pin (b,o) (List.mem_append_right _ (List.mem_append_right _ (Y4 hb e)))).1,fun b hb=>?_,w7⟩
    obtain ⟨o,e,d⟩:=T.obj _ _ st6 b hb
    exact (I7.pin (b,o) (List.mem_append_right _ (List.mem_append_right _ (Y4 hb e)))).2.1
   refine wpAny_mono (hg _ _ _ _ _ s6 _ H6 x u _ I6' r6 (step x H6 y6)) (fun _ s7 ⟨σ7,H7,I7,⟨hl,hw⟩,q7⟩=>?_) fun _ _ z=>z.elim
   refine wpAny_mono (ht _ _ _ _ _ s7 σ7 H7 _ I7 q7) (fun ok s8 ⟨H8,I8,q8⟩=>?_) fun _ _ z=>z.elim
   cases ok with
   | false=>
    rw [if_neg Bool.false_ne_true] at q8 ⊢
    exact again I8 hl hw q8
   | true=>
    rw [if_pos rfl] at q8 ⊢
    refine wpAny_mono (he _ _ _ _ _ s8 σ7 H8 _ I8 q8) (fun v9 s9 ⟨x9,H9,I9,r9,ys,e9,l9,q9⟩=>?_) fun _ _ z=>z.elim
    refine wpAny_mono (a5C (X:=blk X N' scope cl h3.objs.size s2 H2 fp) _ s9 σ7 H9 (.ref s2.heap.objs.size) [x9] (.ref s2.heap.objs.size) [v9] (fun _ H'=>H' = upd H9 s2.heap.objs.size (.lst (ys ++ [x9]))) I9 rfl (.cons r9 .nil) ⟨s2.heap.objs.size,ys,x9,rfl,rfl,e9,l9,rfl⟩) (fun _ s10 ⟨_,H10,I10,_,e10⟩=>?_) fun _ _ z=>z.elim
    subst e10
    exact again I10 hl hw q9
 exact codeAny_compStart_list (loop _ rfl) (T.self _ 0 _ _ _ (T.keep _ _ _ st2 (fun b _ o e=>keep b o e)) (loop _ rfl))
theorem a6m (hc:X.calm = true) (k:CompOk X scope cl N' n idx) (hi:PI X tg iter wi)
  (hg:∀ C s0 H0 ex,PG (blk X N' scope cl C s0 H0 ex) tg g) (ht:∀ C s0 H0 ex,U8 (blk X N' scope cl C s0 H0 ex) ifs tc) (he:∀ C s0 H0 ex,PE (blk X N' scope cl C s0 H0 ex) elt te)
  (hs:∀ x,foldedSetIterable iter X.env x = pure x:=by intro _; rfl):PE X (.ListComp elt [⟨tg,iter,ifs,0⟩] scope pos) (W8 n idx wi g tc te):=by
 intro pins s σ H Q I0 h
 rw [eval_ListComp]
 refine a6h (use:=none) (Q':=EP X pins σ Q) hc k hi hg ht he hs I0 h ?_
 intro C D' s' H' m IX fC hn q
 exact ⟨m,hn,fun h' hsb=>⟨.ref D',H',IX.turned (t':=s'.toks) (it:=C) (h':=h') (fun b o nb e=>(hsb.2 b nb).trans e) fC.1 fC.2.1 fC.2.2.2.1 fC.2.2.2.2.1 fC.2.2.2.2.2,rfl,q⟩⟩
theorem b5s {i:Nat} {y:Str} {py spos:Pos} (hN:X.N.Nodup) (hi':X.N[i]? = some y) (hx:Loc X.env.scope y) (hc:X.calm = true) (k:CompOk X scope cl N' n idx) (hi:PI X tg iter wi)
  (hg:∀ C s0 H0 ex,PG (blk X N' scope cl C s0 H0 ex) tg g) (ht:∀ C s0 H0 ex,U8 (blk X N' scope cl C s0 H0 ex) ifs tc) (he:∀ C s0 H0 ex,PE (blk X N' scope cl C s0 H0 ex) elt te)
  (hs:∀ x,foldedSetIterable iter X.env x = pure x:=by intro _; rfl) (hsw:swapsWith (.ListComp elt [⟨tg,iter,ifs,0⟩] scope pos) (some (.Name y py)) spos.line X.env = pure true:=by rfl)
  (hf:X.fn y = true ∨ X.env.scope.names.lookup y = some .local:=by first | exact .inl rfl | exact .inr rfl | assumption) :
  PS X (.Assign [.Name y py] (.ListComp elt [⟨tg,iter,ifs,0⟩] scope pos) spos) (a0g (W8 n idx wi g tc te) (K7 i)):=by
 intro pins s σ H D I h
 rw [exec_Assign_Name_used _ _ _ _ hsw]
 refine wpAny_bind (wpAny_standAt (wpAny_bind ?_))
 show wpAny _ X.A (do let _ ← comprehension (.ListComp elt [⟨tg,iter,ifs,0⟩] scope pos) scope X.env _ (newList []) false (eval iter X.env) (some (assign (.Name y py) X.env))) _ _ s
 refine wpAny_bind (wpAny_mono (a6h (use:=some (assign (.Name y py) X.env)) (Q':=fun _ s'=>SP X pins D .next s') hc k hi hg ht he hs I h ?_) (fun _ s' hq=>wpAny_pure (wpAny_pure hq)) fun _ _ e=>e)
 intro C D' s' H' m IX fC hn q
 show wpAny _ X.A (assign (.Name y py) X.env (.ref D')) _ _ _
 obtain ⟨o,es,ep,ho,hd,hr⟩:=hn
 have IP:=IX.pinned (fp:=[C]) (fun b hb=>by rw [List.mem_singleton.mp hb]; exact fC) (fun b hb=>by rw [List.mem_singleton.mp hb]; exact ⟨o,ho,fun v z=>by rw [hd] at z; cases z⟩)
 refine wpAny_mono (F8 hN hi' hx hf _ s' σ H' (.ref D') (.ref D') D.nx IP rfl q) (fun _ s'' ⟨σ2,H2,I2,q2⟩=>?_) fun _ _ e=>e
 have pn:=I2.pin (C,o) (List.mem_append_right _ (List.mem_append_right _ (Y4 (List.mem_singleton.mpr rfl) ho)))
 refine ⟨m,⟨o,es,ep,pn.1,hd,hr⟩,fun h' hsb=>⟨σ2,H2,?_,q2⟩⟩
 have It:=I2.unpinned.turned (t':=s''.toks) (it:=C) (h':=h') (fun b o nb e=>(hsb.2 b nb).trans e) pn.2.1 fC.2.1 fC.2.2.2.1 fC.2.2.2.2.1 fC.2.2.2.2.2
 exact It
end
end L2
namespace DL
open PySem PySem.Spec L2
theorem t9 {α β γ:Type} {o:Option (α × β)} {f:α × β → Option γ} {r:γ} {G:Prop} (h:o.bind f = some r) (k:∀ x y,o = some (x,y) → f (x,y) = some r → G):G:=by
 obtain ⟨⟨x,y⟩,a,b⟩:=Option.bind_eq_some_iff.mp h
 exact k x y a b
theorem J6 {α γ:Type} {o:Option α} {f:α → Option γ} {r:γ} {G:Prop} (h:o.bind f = some r) (k:∀ x,o = some x → f x = some r → G):G:=by
 obtain ⟨x,a,b⟩:=Option.bind_eq_some_iff.mp h
 exact k x a b
theorem mapP {α β γ:Type} {o:Option (α × β)} {f:α × β → γ} {r:γ} {G:Prop} (h:o.map f = some r) (k:∀ x y,o = some (x,y) → f (x,y) = r → G):G:=by
 obtain ⟨⟨x,y⟩,a,b⟩:=Option.map_eq_some_iff.mp h
 exact k x y a b
theorem E7 {α γ:Type} {o:Option α} {f:α → γ} {r:γ} {G:Prop} (h:o.map f = some r) (k:∀ x,o = some x → f x = r → G):G:=by
 obtain ⟨x,a,b⟩:=Option.map_eq_some_iff.mp h
 exact k x a b
inductive D where
 | non | bl (b:Bool) | int (i:Int) | str (x:Str) | tup (ds:List D) | lst (ds:List D)
 | feed | scr (ns:List Int) | fn (x:Str)
mutual
noncomputable def D.py:D → PyData
 | .non=>.none
 | .bl b=>.bool b
 | .int i=>.int i
 | .str x=>.str x
 | .tup ds=>.tuple (D.pys ds)
 | .lst ds=>.list (D.pys ds)
 | .feed=>.none
 | .scr _=>.none
 | .fn _=>.none
noncomputable def D.pys:List D → List PyData
 | []=>[]
 | d :: r=>D.py d :: D.pys r
end
mutual
noncomputable def D.plain:D → Bool
 | .non=>true
 | .bl _=>true
 | .int _=>true
 | .str _=>true
 | .tup ds=>D.plains ds
 | .lst ds=>D.plains ds
 | .feed=>false
 | .scr _=>false
 | .fn _=>false
noncomputable def D.plains:List D → Bool
 | []=>true
 | d :: r=>D.plain d && D.plains r
end
structure FS where
 cells:List Int
 pos:Int
 left:Int
 turn:Int
 kind:Nat
noncomputable def B9 (c:Addr) (f:FS):List V:=if f.kind = 1 then [V.ref c,V.int f.pos,V.int f.left] else [V.ref c,V.int f.pos,V.int f.left,V.int f.turn]
noncomputable def fho (c:Addr) (f:FS):HO:=if f.kind = 0 then .dK [(Sum.inr ("cells" : Str),V.ref c),(Sum.inr ("at" : Str),V.int f.pos),(Sum.inr ("left" : Str),V.int f.left),(Sum.inr ("turn" : Str),V.int f.turn)] else .lst (B9 c f)
theorem a1E {c:Addr} {f:FS} (h:¬ f.kind = 0):fho c f = .lst (B9 c f):=if_neg h
theorem b4l {c:Addr} {f:FS} {xs:List V} (h:fho c f = .tup xs):False:=by unfold fho at h; split at h <;> cases h
theorem b6U {c:Addr} {f:FS} {o:Obj} {u:HO} (h:fho c f = .frz o u):False:=by unfold fho at h; split at h <;> cases h
noncomputable def FeedR (N:Addr → Prop) (H:Hp):Option Addr → Option FS → Prop
 | none,none=>True
 | some a,some f=>f.cells.length ≤ 63 ∧ ∃ c,H a = some (fho c f) ∧ ¬ N c ∧ H c = some (.lst (f.cells.map V.int))
 | _,_=>False
noncomputable def SqF (K:PySem.W.Frag) (H:Hp) (a:Addr) (xs:List V):Prop:=
 (∃ o,H a = some (.frz o (.lst xs))) ∨
  ∃ (o:Obj) (its:Array Value) (n:Nat),K.lookup a = some o ∧ o.cls = .type "list" ∧ o.dict = none ∧ o.data = .seq its n ∧ its.size ≤ sizeLine ∧ Vals xs its.toList
theorem SqF.sq {K:PySem.W.Frag} {H:Hp} {a:Addr} {xs:List V} (h:SqF K H a xs):SqL K H a xs:=by
 rcases h with ⟨o,h⟩ | h
 ·exact .inl (.inr ⟨o,h⟩)
 ·exact .inr h
mutual
noncomputable def Rep (K:PySem.W.Frag) (N:Addr → Prop) (fa:Option Addr) (H:Hp):D → V → Prop
 | .non,v=>v = .non
 | .bl b,v=>v = .bl b
 | .int i,v=>v = .int i
 | .str x,v=>v = .str x ∧ x.length ≤ sizeLine
 | .tup ds,v=>∃ a xs,v = .ref a ∧ SqT K H a xs ∧ Reps K N fa H ds xs
 | .lst ds,v=>∃ a xs,v = .ref a ∧ ¬ N a ∧ H a = some (.lst xs) ∧ Reps K N fa H ds xs
 | .feed,v=>∃ a,fa = some a ∧ v = .ref a
 | .scr ns,v=>ns.length ≤ 63 ∧ ∃ a,v = .ref a ∧ SqF K H a (ns.map V.int)
 | .fn x,v=>∃ a,v = .ref a ∧ PySem.W.nsIn K mainGlobals x = some (some (.ref a))
noncomputable def Reps (K:PySem.W.Frag) (N:Addr → Prop) (fa:Option Addr) (H:Hp):List D → List V → Prop
 | [],xs=>xs = []
 | d :: r,xs=>∃ x ys,xs = x :: ys ∧ Rep K N fa H d x ∧ Reps K N fa H r ys
end
noncomputable def RepB (K:PySem.W.Frag) (N:Addr → Prop) (fa:Option Addr) (H:Hp):D → V → Prop
 | .lst ds,v=>∃ a xs,v = .ref a ∧ fa ≠ some a ∧ H a = some (.lst xs) ∧ Reps K N fa H ds xs
 | d,v=>Rep K N fa H d v
noncomputable def O5 (K:PySem.W.Frag) (N:Addr → Prop) (fa:Option Addr) (H:Hp):List D → List V → Prop
 | [],xs=>xs = []
 | d :: r,xs=>∃ x ys,xs = x :: ys ∧ RepB K N fa H d x ∧ O5 K N fa H r ys
structure Car (K:PySem.W.Frag) (N:Addr → Prop) (fa:Option Addr) (H:Hp) (N':Addr → Prop) (fa':Option Addr) (H':Hp):Prop where
 ls:∀ b xs,¬ N b → H b = some (.lst xs) → H' b = some (.lst xs) ∧ ¬ N' b
 tp:∀ b xs,SqT K H b xs → SqT K H' b xs
 fz:∀ b xs,SqF K H b xs → SqF K H' b xs
 fe:∀ a,fa = some a → fa' = some a
section
variable {K:PySem.W.Frag} {N N':Addr → Prop} {fa fa':Option Addr} {H H':Hp}
mutual
theorem Rep.go (c:Car K N fa H N' fa' H'):∀ (d:D) (v:V),Rep K N fa H d v → Rep K N' fa' H' d v
 | .non,v,h=>by simpa only [Rep] using h
 | .bl b,v,h=>by simpa only [Rep] using h
 | .int i,v,h=>by simpa only [Rep] using h
 | .str x,v,h=>by simpa only [Rep] using h
 | .tup ds,v,h=>by
  simp only [Rep] at h ⊢
  obtain ⟨a,xs,e,q,r⟩:=h
  exact ⟨a,xs,e,c.tp a xs q,Reps.go c ds xs r⟩
 | .lst ds,v,h=>by
  simp only [Rep] at h ⊢
  obtain ⟨a,xs,e,n,q,r⟩:=h
  obtain ⟨q',n'⟩:=c.ls a xs n q
  exact ⟨a,xs,e,n',q',Reps.go c ds xs r⟩
 | .feed,v,h=>by
  simp only [Rep] at h ⊢
  obtain ⟨a,e,q⟩:=h
  exact ⟨a,c.fe a e,q⟩
 | .scr ns,v,h=>by
  simp only [Rep] at h ⊢
  obtain ⟨l,a,e,q⟩:=h
  exact ⟨l,a,e,c.fz a _ q⟩
 | .fn x,v,h=>by simpa only [Rep] using h
theorem Reps.go (c:Car K N fa H N' fa' H'):∀ (ds:List D) (xs:List V),Reps K N fa H ds xs → Reps K N' fa' H' ds xs
 | [],xs,h=>by simpa only [Reps] using h
 | d :: r,xs,h=>by
  simp only [Reps] at h ⊢
  obtain ⟨x,ys,e,h1,h2⟩:=h
  exact ⟨x,ys,e,Rep.go c d x h1,Reps.go c r ys h2⟩
end
theorem Rep.b (hN:∀ a,fa = some a → N a) {d:D} {v:V} (h:Rep K N fa H d v):RepB K N fa H d v:=by
 cases d with
 | lst ds=>
  simp only [Rep] at h
  obtain ⟨a,xs,e,n,q,r⟩:=h
  exact ⟨a,xs,e,fun z=>n (hN a z),q,r⟩
 | _=>simpa only [RepB] using h
noncomputable def K8 (K:PySem.W.Frag) (N:Addr → Prop) (fa:Option Addr) (H:Hp):D → V → Prop
 | .lst ds,v=>∃ a xs,v = .ref a ∧ H a = some (.lst xs) ∧ Reps K N fa H ds xs
 | d,v=>Rep K N fa H d v
theorem Rep.o {d:D} {v:V} (h:Rep K N fa H d v):K8 K N fa H d v:=by
 cases d with
 | lst ds=>
  simp only [Rep] at h
  obtain ⟨a,xs,e,_,q,r⟩:=h
  exact ⟨a,xs,e,q,r⟩
 | _=>simpa only [K8] using h
theorem RepB.o {d:D} {v:V} (h:RepB K N fa H d v):K8 K N fa H d v:=by
 cases d with
 | lst ds=>
  obtain ⟨a,xs,e,_,q,r⟩:=h
  exact ⟨a,xs,e,q,r⟩
 | _=>simpa only [K8,RepB] using h
theorem Reps.length:∀ {ds:List D} {xs:List V},Reps K N fa H ds xs → xs.length = ds.length
 | [],xs,h=>by simp only [Reps] at h; subst h; rfl
 | d :: r,xs,h=>by
  simp only [Reps] at h
  obtain ⟨x,ys,e,h1,h2⟩:=h
  subst e
  simp [Reps.length h2]
theorem Reps.get:∀ {ds:List D} {xs:List V} {i:Nat} {d:D},Reps K N fa H ds xs → ds[i]? = some d → ∃ x,xs[i]? = some x ∧ Rep K N fa H d x
 | [],xs,i,d,h,e=>by simp at e
 | d :: r,xs,0,d',h,e=>by
  simp only [Reps] at h
  obtain ⟨x,ys,e1,h1,h2⟩:=h
  simp at e
  subst e1; subst e
  exact ⟨x,rfl,h1⟩
 | d :: r,xs,i + 1,d',h,e=>by
  simp only [Reps] at h
  obtain ⟨x,ys,e1,h1,h2⟩:=h
  subst e1
  obtain ⟨y,e2,h3⟩:=Reps.get h2 (by simpa using e)
  exact ⟨y,by simpa using e2,h3⟩
theorem Reps.get':∀ {ds:List D} {xs:List V} {i:Nat} {x:V},Reps K N fa H ds xs → xs[i]? = some x → ∃ d,ds[i]? = some d ∧ Rep K N fa H d x:=fun {ds xs i x} h e=>by
 have hl:=h.length
 have hi:i < xs.length:=(List.getElem?_eq_some_iff.mp e).1
 obtain ⟨y,e2,h3⟩:=Reps.get h (List.getElem?_eq_getElem (show i < ds.length by omega))
 rw [e] at e2; cases e2
 exact ⟨_,List.getElem?_eq_getElem (show i < ds.length by omega),h3⟩
theorem Reps.append:∀ {ds es:List D} {xs ys:List V},Reps K N fa H ds xs → Reps K N fa H es ys → Reps K N fa H (ds ++ es) (xs ++ ys)
 | [],es,xs,ys,h,q=>by simp only [Reps] at h; subst h; simpa using q
 | d :: r,es,xs,ys,h,q=>by
  simp only [Reps] at h
  obtain ⟨x,zs,e1,h1,h2⟩:=h
  subst e1
  simp only [List.cons_append,Reps]
  exact ⟨x,_,rfl,h1,Reps.append h2 q⟩
theorem Reps.one {d:D} {x:V} (h:Rep K N fa H d x):Reps K N fa H [d] [x]:=by
 simp only [Reps]
 exact ⟨x,[],rfl,h,rfl⟩
theorem Reps.nil:Reps K N fa H [] []:=by simp only [Reps]
theorem Reps.take:∀ {ds:List D} {xs:List V} (n:Nat),Reps K N fa H ds xs → Reps K N fa H (ds.take n) (xs.take n)
 | _,_,0,_=>by simp only [List.take_zero,Reps]
 | [],xs,n + 1,h=>by simp only [Reps] at h; subst h; simp only [List.take_nil,Reps]
 | d :: r,xs,n + 1,h=>by
  simp only [Reps] at h
  obtain ⟨x,zs,e1,h1,h2⟩:=h
  subst e1
  simp only [List.take_succ_cons,Reps]
  exact ⟨x,_,rfl,h1,Reps.take n h2⟩
theorem Reps.drop:∀ {ds:List D} {xs:List V} (n:Nat),Reps K N fa H ds xs → Reps K N fa H (ds.drop n) (xs.drop n)
 | _,_,0,h=>by simpa using h
 | [],xs,n + 1,h=>by simp only [Reps] at h; subst h; simp only [List.drop_nil,Reps]
 | d :: r,xs,n + 1,h=>by
  simp only [Reps] at h
  obtain ⟨x,zs,e1,h1,h2⟩:=h
  subst e1
  simpa using Reps.drop n h2
theorem Reps.ints:∀ {ns:List Int},Reps K N fa H (ns.map D.int) (ns.map V.int)
 | []=>by simp only [List.map_nil,Reps]
 | n :: r=>by
  simp only [List.map_cons,Reps,Rep]
  exact ⟨_,_,rfl,rfl,Reps.ints⟩
end
inductive Sl where
 | no | val (d:D) | own (ds:List D)
structure DS where
 sl:List Sl
 fs:Option FS
noncomputable def NN (F:Addr → Prop) (fa:Option Addr) (O:List Addr):Addr → Prop:=fun b=>F b ∨ b ∈ O ∨ fa = some b
noncomputable def SlR (K:PySem.W.Frag) (N:Addr → Prop) (fa:Option Addr) (H:Hp):List Sl → List (Option V) → List Addr → Prop
 | [],σ,O=>σ = [] ∧ O = []
 | .no :: r,σ,O=>∃ v τ,σ = v :: τ ∧ SlR K N fa H r τ O
 | .val d :: r,σ,O=>∃ u τ,σ = some u :: τ ∧ Rep K N fa H d u ∧ SlR K N fa H r τ O
 | .own ds :: r,σ,O=>∃ a xs τ P,σ = some (.ref a) :: τ ∧ O = a :: P ∧ H a = some (.lst xs) ∧ Reps K N fa H ds xs ∧ SlR K N fa H r τ P
structure Stp (fa:Option Addr) (O:List Addr) (H:Hp) (fa':Option Addr) (O':List Addr) (H':Hp):Prop where
 sub:∀ b ∈ O',b ∈ O ∨ H b = none
 fe:fa' = fa ∨ (fa = none ∧ ∀ a,fa' = some a → H a = none)
 same:∀ b u,H b = some u → b ∉ O → fa ≠ some b → H' b = some u
 mon:∀ b,H' b = none → H b = none
structure StE (fa:Option Addr) (O:List Addr) (H:Hp) (fa':Option Addr) (O':List Addr) (H':Hp):Prop where
 sub:∀ b ∈ O',b ∈ O
 fe:fa' = fa ∨ (fa = none ∧ ∀ a,fa' = some a → H a = none)
 same:∀ b u,H b = some u → fa ≠ some b → H' b = some u
 mon:∀ b,H' b = none → H b = none
structure DI (K:PySem.W.Frag) (F:Addr → Prop) (H0:Hp) (fa0:Option Addr) (σ:St) (H:Hp) (fa:Option Addr) (O:List Addr) (s:DS):Prop where
 nd:O.Nodup
 sl:SlR K (NN F fa O) fa H s.sl σ O
 fr:∀ b ∈ O,H0 b = none
 st:Stp fa0 [] H0 fa [] H
 tr:∀ b,F b → H0 b ≠ none
 ff:∀ a,fa0 = some a → F a
 fd:FeedR (NN F fa O) H fa s.fs
 nf:∀ a,fa = some a → a ∉ O
section
variable {fa fa' fa'':Option Addr} {O O' O'':List Addr} {H H' H'':Hp}
theorem StE.stp (h:StE fa O H fa' O' H'):Stp fa O H fa' O' H':=⟨fun b hb=>.inl (h.sub b hb),h.fe,fun b u e _ n=>h.same b u e n,h.mon⟩
theorem StE.refl:StE fa O H fa O H:=⟨fun _ h=>h,.inl rfl,fun _ _ e _=>e,fun _ h=>h⟩
theorem Stp.refl:Stp fa O H fa O H:=StE.refl.stp
theorem StE.trans (a:StE fa O H fa' O' H') (b:StE fa' O' H' fa'' O'' H''):StE fa O H fa'' O'' H'':=by
 refine ⟨fun c hc=>a.sub c (b.sub c hc),?_,fun c u e n=>?_,fun c h=>a.mon c (b.mon c h)⟩
 ·rcases a.fe with e | ⟨e,h⟩
  ·rcases b.fe with e' | ⟨e',h'⟩
   ·exact .inl (e'.trans e)
   ·exact .inr ⟨e ▸ e',fun c z=>a.mon c (h' c z)⟩
  ·rcases b.fe with e' | ⟨e',h'⟩
   ·exact .inr ⟨e,fun c z=>h c (e' ▸ z)⟩
   ·exact .inr ⟨e,fun c z=>a.mon c (h' c z)⟩
 ·refine b.same c u (a.same c u e n) fun z=>?_
  rcases a.fe with q | ⟨q,h⟩
  ·rw [q] at z; exact n z
  ·rw [h c z] at e; cases e
theorem Stp.trans (a:Stp fa O H fa' O' H') (b:Stp fa' O' H' fa'' O'' H''):Stp fa O H fa'' O'' H'':=by
 refine ⟨fun c hc=>?_,?_,fun c u e hc n=>?_,fun c h=>a.mon c (b.mon c h)⟩
 ·rcases b.sub c hc with q | q
  ·exact a.sub c q
  ·exact .inr (a.mon c q)
 ·rcases a.fe with e | ⟨e,h⟩
  ·rcases b.fe with e' | ⟨e',h'⟩
   ·exact .inl (e'.trans e)
   ·exact .inr ⟨e ▸ e',fun c z=>a.mon c (h' c z)⟩
  ·rcases b.fe with e' | ⟨e',h'⟩
   ·exact .inr ⟨e,fun c z=>h c (e' ▸ z)⟩
   ·exact .inr ⟨e,fun c z=>a.mon c (h' c z)⟩
 ·refine b.same c u (a.same c u e hc n) (fun z=>?_) fun z=>?_
  ·rcases a.sub c z with q | q
   ·exact hc q
   ·rw [q] at e; cases e
  ·rcases a.fe with q | ⟨q,h⟩
   ·rw [q] at z; exact n z
   ·rw [h c z] at e; cases e
theorem Stp.fa_keep (a:Stp fa O H fa' O' H') {x:Addr} (h:fa = some x):fa' = some x:=by
 rcases a.fe with e | ⟨e,_⟩
 ·rw [e,h]
 ·rw [h] at e; cases e
variable {K:PySem.W.Frag} {F:Addr → Prop} {H0:Hp} {fa0:Option Addr} {σ:St} {s:DS}
theorem FeedR.no_frz {N:Addr → Prop} {fs:Option FS} {a:Addr} {o:Obj} {u:HO} (h:FeedR N H fa fs) (e:fa = some a) (q:H a = some (.frz o u)):False:=by
 subst e
 cases fs with
 | none=>exact h
 | some f=>
  obtain ⟨_,c,h1,_⟩:=h
  rw [h1] at q; exact b6U (Option.some.inj q)
theorem FeedR.no_tup {N:Addr → Prop} {fs:Option FS} {a:Addr} {xs:List V} (h:FeedR N H fa fs) (e:fa = some a) (z:Rd H a (.tup xs)):False:=by
 rcases z with z | ⟨o,z⟩
 ·subst e
  cases fs with
  | none=>exact h
  | some f=>
   obtain ⟨_,c,h1,_⟩:=h
   rw [h1] at z; exact b4l (Option.some.inj z)
 ·exact h.no_frz e z
theorem FeedR.tracked {N:Addr → Prop} {fs:Option FS} {a:Addr} (h:FeedR N H fa fs) (e:fa = some a):H a ≠ none:=by
 subst e
 cases fs with
 | none=>exact h.elim
 | some f=>
  obtain ⟨_,c,h1,_⟩:=h
  rw [h1]; simp
theorem SqT.stp' (a:Stp fa O H fa' O' H') (hf:∀ x,fa = some x → ∀ xs,¬ Rd H x (.tup xs)) (hO:∀ x ∈ O,∀ xs,¬ Rd H x (.tup xs)) {b:Addr} {xs:List V} (h:SqT K H b xs):SqT K H' b xs:=by
 rcases h with h | h
 ·refine .inl ?_
  have n1:b ∉ O:=fun z=>hO b z xs h
  have n2:fa ≠ some b:=fun z=>hf b z xs h
  rcases h with h | ⟨o,h⟩
  ·exact .inl (a.same _ _ h n1 n2)
  ·exact .inr ⟨o,a.same _ _ h n1 n2⟩
 ·exact .inr h
theorem SlR.owned:∀ {sl:List Sl} {N:Addr → Prop} {σ:List (Option V)} {O:List Addr},SlR K N fa H sl σ O → ∀ b ∈ O,∃ xs,H b = some (.lst xs)
 | [],N,σ,O,h,b,hb=>by simp only [SlR] at h; rw [h.2] at hb; cases hb
 | .no :: r,N,σ,O,h,b,hb=>by
  simp only [SlR] at h
  obtain ⟨v,τ,_,h⟩:=h
  exact SlR.owned h b hb
 | .val d :: r,N,σ,O,h,b,hb=>by
  simp only [SlR] at h
  obtain ⟨v,τ,_,_,h⟩:=h
  exact SlR.owned h b hb
 | .own ds :: r,N,σ,O,h,b,hb=>by
  simp only [SlR] at h
  obtain ⟨a,xs,τ,P,_,rfl,e,_,h⟩:=h
  rcases List.mem_cons.mp hb with z | z
  ·subst z; exact ⟨xs,e⟩
  ·exact SlR.owned h b z
theorem DI.owned (I:DI K F H0 fa0 σ H fa O s) {b:Addr} (hb:b ∈ O):∃ xs,H b = some (.lst xs):=SlR.owned I.sl b hb
theorem DI.trF (I:DI K F H0 fa0 σ H fa O s) {b:Addr} (hb:F b):H b ≠ none:=fun z=>I.tr b hb (I.st.mon b z)
theorem DI.nn_tracked (I:DI K F H0 fa0 σ H fa O s) {b:Addr} (h:NN F fa O b):H b ≠ none:=by
 rcases h with h | h | h
 ·exact I.trF h
 ·obtain ⟨xs,e⟩:=I.owned h
  rw [e]; simp
 ·exact I.fd.tracked h
theorem DI.nf_step (I:DI K F H0 fa0 σ H fa O s) (h:fa' = fa ∨ (fa = none ∧ ∀ a,fa' = some a → H a = none)):∀ a,fa' = some a → a ∉ O:=fun a e m=>by
 rcases h with z | ⟨z,y⟩
 ·rw [z] at e; exact I.nf a e m
 ·obtain ⟨xs,q⟩:=I.owned m
  rw [y a e] at q; cases q
theorem DI.car (I:DI K F H0 fa0 σ H fa O s) (a:Stp fa O H fa' O' H'):Car K (NN F fa O) fa H (NN F fa' O') fa' H':=by
 have nt:∀ x xs,H x = some (.lst xs) → ∀ ys,¬ Rd H x (.tup ys):=fun x xs e ys z=>by
  rcases z with z | ⟨o,z⟩ <;> · rw [e] at z; cases z
 refine ⟨fun b xs n q=>?_,fun b xs q=>?_,fun b xs q=>?_,fun x e=>a.fa_keep e⟩
 ·have n1:b ∉ O:=fun z=>n (.inr (.inl z))
  have n2:fa ≠ some b:=fun z=>n (.inr (.inr z))
  have tr:H b ≠ none:=by rw [q]; simp
  refine ⟨a.same _ _ q n1 n2,fun z=>?_⟩
  ·rcases z with z | z | z
   ·exact n (.inl z)
   ·rcases a.sub b z with y | y
    ·exact n1 y
    ·exact tr y
   ·rcases a.fe with e | ⟨e,h⟩
    ·rw [e] at z; exact n2 z
    ·exact tr (h b z)
 ·refine SqT.stp' a (fun x e ys z=>?_) (fun x hx ys=>?_) q
  ·exact I.fd.no_tup e z
  ·obtain ⟨xs,e⟩:=I.owned hx
   exact nt x xs e ys
 ·rcases q with ⟨o,q⟩ | q
  ·refine .inl ⟨o,a.same _ _ q (fun z=>?_) fun z=>?_⟩
   ·obtain ⟨ys,e⟩:=I.owned z
    rw [e] at q; cases q
   ·exact I.fd.no_frz z q
  ·exact .inr q
end
structure Gh where
 F:Addr → Prop
 H0:Hp
 fa0:Option Addr
noncomputable abbrev GI (K:PySem.W.Frag) (g:Gh):=DI K g.F g.H0 g.fa0
section
variable {K:PySem.W.Frag} {N N':Addr → Prop} {fa fa':Option Addr} {H H':Hp} {g:Gh} {σ:L2.St} {O O':List Addr} {s:DS}
theorem SlR.go (c:Car K N fa H N' fa' H'):∀ {sl:List Sl} {σ:List (Option V)} {O:List Addr},(∀ a xs,a ∈ O → H a = some (.lst xs) → H' a = some (.lst xs)) → SlR K N fa H sl σ O → SlR K N' fa' H' sl σ O
 | [],σ,O,_,h=>by simpa only [SlR] using h
 | .no :: r,σ,O,ho,h=>by
  simp only [SlR] at h ⊢
  obtain ⟨v,τ,e,h⟩:=h
  exact ⟨v,τ,e,SlR.go c ho h⟩
 | .val d :: r,σ,O,ho,h=>by
  simp only [SlR] at h ⊢
  obtain ⟨u,τ,e,q,h⟩:=h
  exact ⟨u,τ,e,Rep.go c d u q,SlR.go c ho h⟩
 | .own ds :: r,σ,O,ho,h=>by
  simp only [SlR] at h ⊢
  obtain ⟨a,xs,τ,P,e,rfl,ha,q,h⟩:=h
  exact ⟨a,xs,τ,P,e,rfl,ho a xs (List.mem_cons_self ..) ha,Reps.go c ds xs q,SlR.go c (fun b ys hb=>ho b ys (List.mem_cons_of_mem _ hb)) h⟩
theorem SlR.val:∀ {sl:List Sl} {σ:List (Option V)} {O:List Addr} {i:Nat} {d:D},SlR K N fa H sl σ O → sl[i]? = some (.val d) → ∃ u,σ[i]? = some (some u) ∧ Rep K N fa H d u
 | [],σ,O,i,d,h,e=>by simp at e
 | .no :: r,σ,O,i,d,h,e=>by
  simp only [SlR] at h
  obtain ⟨v,τ,rfl,h⟩:=h
  cases i with
  | zero=>simp at e
  | succ i=>simpa using SlR.val h (by simpa using e)
 | .val d' :: r,σ,O,i,d,h,e=>by
  simp only [SlR] at h
  obtain ⟨u,τ,rfl,q,h⟩:=h
  cases i with
  | zero=>simp at e; subst e; exact ⟨u,rfl,q⟩
  | succ i=>simpa using SlR.val h (by simpa using e)
 | .own ds :: r,σ,O,i,d,h,e=>by
  simp only [SlR] at h
  obtain ⟨a,xs,τ,P,rfl,rfl,ha,q,h⟩:=h
  cases i with
  | zero=>simp at e
  | succ i=>simpa using SlR.val h (by simpa using e)
theorem SlR.own:∀ {sl:List Sl} {σ:List (Option V)} {O:List Addr} {i:Nat} {ds:List D},SlR K N fa H sl σ O → sl[i]? = some (.own ds) → ∃ a xs,σ[i]? = some (some (.ref a)) ∧ a ∈ O ∧ H a = some (.lst xs) ∧ Reps K N fa H ds xs
 | [],σ,O,i,d,h,e=>by simp at e
 | .no :: r,σ,O,i,d,h,e=>by
  simp only [SlR] at h
  obtain ⟨v,τ,rfl,h⟩:=h
  cases i with
  | zero=>simp at e
  | succ i=>simpa using SlR.own h (by simpa using e)
 | .val d' :: r,σ,O,i,d,h,e=>by
  simp only [SlR] at h
  obtain ⟨u,τ,rfl,q,h⟩:=h
  cases i with
  | zero=>simp at e
  | succ i=>simpa using SlR.own h (by simpa using e)
 | .own ds :: r,σ,O,i,d,h,e=>by
  simp only [SlR] at h
  obtain ⟨a,xs,τ,P,rfl,rfl,ha,q,h⟩:=h
  cases i with
  | zero=>simp at e; subst e; exact ⟨a,xs,rfl,List.mem_cons_self ..,ha,q⟩
  | succ i=>
   obtain ⟨b,ys,e1,m,e2,q2⟩:=SlR.own h (by simpa using e)
   exact ⟨b,ys,by simpa using e1,List.mem_cons_of_mem _ m,e2,q2⟩
theorem SlR.put:∀ {sl:List Sl} {σ:List (Option V)} {O:List Addr} (i:Nat) {d:D} {u:V},SlR K N fa H sl σ O → Rep K N fa H d u →
  ∃ P,P.Sublist O ∧ SlR K N fa H (sl.set i (.val d)) (σ.set i (some u)) P ∧ (O.Nodup → ∀ a,sl[i]?.isSome = true → (∃ ds,sl[i]? = some (.own ds)) → σ[i]? = some (some (.ref a)) → a ∉ P)
 | [],σ,O,i,d,u,h,q=>by
  simp only [SlR] at h
  refine ⟨O,List.Sublist.refl _,?_,fun _ a z=>by simp at z⟩
  rw [h.1,h.2]
  simp [SlR]
 | .no :: r,σ,O,i,d,u,h,q=>by
  simp only [SlR] at h
  obtain ⟨v,τ,rfl,h⟩:=h
  cases i with
  | zero=>exact ⟨O,List.Sublist.refl _,by simp only [List.set_cons_zero,SlR]; exact ⟨u,τ,rfl,q,h⟩,fun _ a _ z=>by obtain ⟨ds,z⟩:=z; simp at z⟩
  | succ i=>
   obtain ⟨P,hs,h1,h2⟩:=SlR.put i h q
   exact ⟨P,hs,by simp only [List.set_cons_succ,SlR]; exact ⟨v,_,rfl,h1⟩,by simpa using h2⟩
 | .val d' :: r,σ,O,i,d,u,h,q=>by
  simp only [SlR] at h
  obtain ⟨v,τ,rfl,qv,h⟩:=h
  cases i with
  | zero=>exact ⟨O,List.Sublist.refl _,by simp only [List.set_cons_zero,SlR]; exact ⟨u,τ,rfl,q,h⟩,fun _ a _ z=>by obtain ⟨ds,z⟩:=z; simp at z⟩
  | succ i=>
   obtain ⟨P,hs,h1,h2⟩:=SlR.put i h q
   exact ⟨P,hs,by simp only [List.set_cons_succ,SlR]; exact ⟨v,_,rfl,qv,h1⟩,by simpa using h2⟩
 | .own ds :: r,σ,O,i,d,u,h,q=>by
  simp only [SlR] at h
  obtain ⟨a,xs,τ,P,rfl,rfl,ha,qv,h⟩:=h
  cases i with
  | zero=>
   refine ⟨P,List.sublist_cons_self ..,by simp only [List.set_cons_zero,SlR]; exact ⟨u,τ,rfl,q,h⟩,fun nd b _ _ e=>?_⟩
   simp at e; subst e
   exact (List.nodup_cons.mp nd).1
  | succ i=>
   obtain ⟨P',hs,h1,h2⟩:=SlR.put i h q
   refine ⟨a :: P',hs.cons_cons a,by simp only [List.set_cons_succ,SlR]; exact ⟨a,xs,_,P',rfl,rfl,ha,qv,h1⟩,fun nd b e1 e2 e3=>?_⟩
   have nd':=List.nodup_cons.mp nd
   have n1:=h2 nd'.2 b (by simpa using e1) (by simpa using e2) (by simpa using e3)
   intro z
   rcases List.mem_cons.mp z with z | z
   ·subst z
    obtain ⟨dz,e2⟩:=e2
    obtain ⟨b',_,e4,m,_⟩:=SlR.own h (i:=i) (by simpa using e2)
    rw [List.getElem?_cons_succ] at e3
    rw [e3] at e4
    cases e4
    exact nd'.1 m
   ·exact n1 z
theorem SlR.putN:∀ {sl:List Sl} {σ:List (Option V)} {O:List Addr} (i:Nat) {ds:List D} {p:Addr} {xs:List V},SlR K N fa H sl σ O → i < sl.length → p ∉ O → O.Nodup → H p = some (.lst xs) → Reps K N fa H ds xs →
  ∃ P,(∀ b ∈ P,b = p ∨ b ∈ O) ∧ P.Nodup ∧ SlR K N fa H (sl.set i (.own ds)) (σ.set i (some (.ref p))) P
 | [],σ,O,i,ds,p,xs,h,hi,hp,nd,e,q=>by simp at hi
 | .no :: r,σ,O,i,ds,p,xs,h,hi,hp,nd,e,q=>by
  simp only [SlR] at h
  obtain ⟨v,τ,rfl,h⟩:=h
  cases i with
  | zero=>exact ⟨p :: O,fun b hb=>List.mem_cons.mp hb,List.nodup_cons.mpr ⟨hp,nd⟩,by simp only [List.set_cons_zero,SlR]; exact ⟨p,xs,τ,O,rfl,rfl,e,q,h⟩⟩
  | succ i=>
   obtain ⟨P,h1,h2,h3⟩:=SlR.putN i h (by simpa using hi) hp nd e q
   exact ⟨P,h1,h2,by simp only [List.set_cons_succ,SlR]; exact ⟨v,_,rfl,h3⟩⟩
 | .val d' :: r,σ,O,i,ds,p,xs,h,hi,hp,nd,e,q=>by
  simp only [SlR] at h
  obtain ⟨v,τ,rfl,qv,h⟩:=h
  cases i with
  | zero=>exact ⟨p :: O,fun b hb=>List.mem_cons.mp hb,List.nodup_cons.mpr ⟨hp,nd⟩,by simp only [List.set_cons_zero,SlR]; exact ⟨p,xs,τ,O,rfl,rfl,e,q,h⟩⟩
  | succ i=>
   obtain ⟨P,h1,h2,h3⟩:=SlR.putN i h (by simpa using hi) hp nd e q
   exact ⟨P,h1,h2,by simp only [List.set_cons_succ,SlR]; exact ⟨v,_,rfl,qv,h3⟩⟩
 | .own ds' :: r,σ,O,i,ds,p,xs,h,hi,hp,nd,e,q=>by
  simp only [SlR] at h
  obtain ⟨a,ys,τ,P,rfl,rfl,ha,qv,h⟩:=h
  have nd':=List.nodup_cons.mp nd
  cases i with
  | zero=>
   refine ⟨p :: P,fun b hb=>(List.mem_cons.mp hb).imp id fun z=>List.mem_cons_of_mem _ z,List.nodup_cons.mpr ⟨fun z=>hp (List.mem_cons_of_mem _ z),nd'.2⟩,?_⟩
   simp only [List.set_cons_zero,SlR]
   exact ⟨p,xs,τ,P,rfl,rfl,e,q,h⟩
  | succ i=>
   obtain ⟨P',h1,h2,h3⟩:=SlR.putN i h (by simpa using hi) (fun z=>hp (List.mem_cons_of_mem _ z)) nd'.2 e q
   refine ⟨a :: P',fun b hb=>?_,List.nodup_cons.mpr ⟨fun z=>?_,h2⟩,by simp only [List.set_cons_succ,SlR]; exact ⟨a,ys,_,P',rfl,rfl,ha,qv,h3⟩⟩
   ·rcases List.mem_cons.mp hb with z | z
    ·exact .inr (by rw [z]; exact List.mem_cons_self ..)
    ·exact (h1 b z).imp id fun y=>List.mem_cons_of_mem _ y
   ·rcases h1 a z with y | y
    ·exact hp (by rw [y]; exact List.mem_cons_self ..)
    ·exact nd'.1 y
theorem SlR.rew:∀ {sl:List Sl} {σ:List (Option V)} {O:List Addr} {i:Nat} {ds es:List D} {a:Addr} {ys:List V},SlR K N fa H sl σ O → O.Nodup → (∀ b ∈ O,N b) → sl[i]? = some (.own ds) → σ[i]? = some (some (.ref a)) → H' a = some (.lst ys) →
  Car K N fa H N fa H' → (∀ b u,b ≠ a → H b = some u → H' b = some u) → Reps K N fa H' es ys → SlR K N fa H' (sl.set i (.own es)) σ O
 | [],σ,O,i,ds,es,a,ys,h,nd,hN,e1,e2,e3,c,k,q=>by simp at e1
 | .no :: r,σ,O,i,ds,es,a,ys,h,nd,hN,e1,e2,e3,c,k,q=>by
  simp only [SlR] at h
  obtain ⟨v,τ,rfl,h⟩:=h
  cases i with
  | zero=>simp at e1
  | succ i=>simp only [List.set_cons_succ,SlR]; exact ⟨v,τ,rfl,SlR.rew h nd hN (by simpa using e1) (by simpa using e2) e3 c k q⟩
 | .val d' :: r,σ,O,i,ds,es,a,ys,h,nd,hN,e1,e2,e3,c,k,q=>by
  simp only [SlR] at h
  obtain ⟨v,τ,rfl,qv,h⟩:=h
  cases i with
  | zero=>simp at e1
  | succ i=>simp only [List.set_cons_succ,SlR]; exact ⟨v,τ,rfl,Rep.go c _ _ qv,SlR.rew h nd hN (by simpa using e1) (by simpa using e2) e3 c k q⟩
 | .own ds' :: r,σ,O,i,ds,es,a,ys,h,nd,hN,e1,e2,e3,c,k,q=>by
  simp only [SlR] at h
  obtain ⟨b,zs,τ,P,rfl,rfl,ha,qv,h⟩:=h
  have nd':=List.nodup_cons.mp nd
  cases i with
  | zero=>
   simp at e2
   subst e2
   simp only [List.set_cons_zero,SlR]
   exact ⟨b,ys,τ,P,rfl,rfl,e3,q,SlR.go c (fun x xs hx z=>k x _ (fun y=>nd'.1 (y ▸ hx)) z) h⟩
  | succ i=>
   have nb:b ≠ a:=fun z=>by
    obtain ⟨a',_,e4,m,_⟩:=SlR.own h (i:=i) (by simpa using e1)
    rw [List.getElem?_cons_succ] at e2
    rw [e2] at e4
    cases e4
    exact nd'.1 (z ▸ m)
   simp only [List.set_cons_succ,SlR]
   exact ⟨b,zs,τ,P,rfl,rfl,k b _ nb ha,Reps.go c _ _ qv,SlR.rew h nd'.2 (fun x hx=>hN x (List.mem_cons_of_mem _ hx)) (by simpa using e1) (by simpa using e2) e3 c k q⟩
theorem RepB.stp {d:D} {v:V} (I:GI K g σ H fa O s) (a:StE fa O H fa' O' H') (h:RepB K (NN g.F fa O) fa H d v):RepB K (NN g.F fa' O') fa' H' d v:=by
 have c:=I.car a.stp
 cases d with
 | lst ds=>
  obtain ⟨x,xs,e,nf,q,r⟩:=h
  refine ⟨x,xs,e,fun z=>?_,a.same _ _ q nf,Reps.go c ds xs r⟩
  rcases a.fe with y | ⟨_,y⟩
  ·rw [y] at z; exact nf z
  ·rw [y x z] at q; cases q
 | _=>
  simp only [RepB] at h ⊢
  exact Rep.go c _ _ h
theorem Rep.stp {d:D} {v:V} (I:GI K g σ H fa O s) (a:Stp fa O H fa' O' H') (h:Rep K (NN g.F fa O) fa H d v):Rep K (NN g.F fa' O') fa' H' d v:=Rep.go (I.car a) d v h
theorem Reps.stp {ds:List D} {xs:List V} (I:GI K g σ H fa O s) (a:Stp fa O H fa' O' H') (h:Reps K (NN g.F fa O) fa H ds xs):Reps K (NN g.F fa' O') fa' H' ds xs:=Reps.go (I.car a) ds xs h
theorem A3 {p:Addr} {o:HO} (h:H p = none):StE fa O H fa O (upd H p o):=
 ⟨fun _ h=>h,.inl rfl,fun b u e _=>by rw [m9 (J2 e h)]; exact e,fun b z=>by
  by_cases hb:b = p
  ·subst hb; exact h
  ·rw [m9 hb] at z; exact z⟩
theorem FeedR.car {fs:Option FS} (c:Car K N fa H N' fa H') (h:∀ a,fa = some a → H' a = H a) (f:FeedR N H fa fs):FeedR N' H' fa fs:=by
 cases fa with
 | none=>cases fs <;> simpa only [FeedR] using f
 | some a=>
  cases fs with
  | none=>simpa only [FeedR] using f
  | some x=>
   simp only [FeedR] at f ⊢
   obtain ⟨l,b,h1,h2,h3⟩:=f
   obtain ⟨q,n⟩:=c.ls b _ h2 h3
   exact ⟨l,b,by rw [h a rfl]; exact h1,n,q⟩
theorem FeedR.same_new {fs:Option FS} {p:Addr} {o:HO} (f:FeedR N H fa fs) (h:H p = none):∀ a,fa = some a → upd H p o a = H a:=fun a e=>m9 fun z=>f.tracked e (z ▸ h)
theorem DI.new {p:Addr} {o:HO} (I:GI K g σ H fa O s) (h:H p = none):GI K g σ (upd H p o) fa O s:=by
 have a:StE fa O H fa O (upd H p o):=A3 h
 refine ⟨I.nd,SlR.go (I.car a.stp) (fun b xs hb e=>?_) I.sl,I.fr,I.st.trans ((A3 (O:=[]) h).stp),I.tr,I.ff,I.fd.car (I.car a.stp) (I.fd.same_new h),I.nf⟩
 rw [m9 (J2 e h)]; exact e
end
noncomputable abbrev DE:=DS → Option (D × DS)
noncomputable abbrev DT:=DS → Option (Bool × DS)
noncomputable abbrev DA:=DS → Option (List D × DS)
inductive Fl where
 | next | brk | cont | ret (d:D)
noncomputable abbrev DM:=DS → Option (Fl × DS)
structure NewL (K:PySem.W.Frag) (g:Gh) (σ:L2.St) (H:Hp) (fa:Option Addr) (O:List Addr) (s:DS) (p:Addr) (xs:List V) (ds:List D):Prop where
 gi:GI K g σ H fa O s
 ls:H p = some (.lst xs)
 sl:SlR K (fun b=>NN g.F fa O b ∨ b = p) fa H s.sl σ O
 fd:FeedR (fun b=>NN g.F fa O b ∨ b = p) H fa s.fs
 rs:Reps K (fun b=>NN g.F fa O b ∨ b = p) fa H ds xs
 nf:fa ≠ some p
section
variable (K:PySem.W.Frag) (g:Gh)
noncomputable def liftE (f:DE):TE:=fun σ H Q=>∃ fa O s d s',GI K g σ H fa O s ∧ f s = some (d,s') ∧
 ∀ v H' fa' O',StE fa O H fa' O' H' → GI K g σ H' fa' O' s' → Rep K (NN g.F fa' O') fa' H' d v → Q v H'
noncomputable def liftB (f:DE):TE:=fun σ H Q=>∃ fa O s d s',GI K g σ H fa O s ∧ f s = some (d,s') ∧
 ∀ v H' fa' O',StE fa O H fa' O' H' → GI K g σ H' fa' O' s' → RepB K (NN g.F fa' O') fa' H' d v → Q v H'
noncomputable def liftF (f:DA):TE:=fun σ H Q=>∃ fa O s ds s',GI K g σ H fa O s ∧ f s = some (ds,s') ∧
 ∀ p xs H' fa' O',StE fa O H fa' O' H' → NewL K g σ H' fa' O' s' p xs ds → H p = none → Q (.ref p) H'
noncomputable def liftT (f:DT):TT:=fun σ H Q=>∃ fa O s d s',GI K g σ H fa O s ∧ f s = some (d,s') ∧
 ∀ H' fa' O',StE fa O H fa' O' H' → GI K g σ H' fa' O' s' → Q d H'
noncomputable def liftA (f:DA):TA:=fun σ H Q=>∃ fa O s ds s',GI K g σ H fa O s ∧ f s = some (ds,s') ∧
 ∀ vs H' fa' O',StE fa O H fa' O' H' → GI K g σ H' fa' O' s' → Reps K (NN g.F fa' O') fa' H' ds vs → Q vs H'
noncomputable def liftBA (f:DA):TA:=fun σ H Q=>∃ fa O s ds s',GI K g σ H fa O s ∧ f s = some (ds,s') ∧
 ∀ vs H' fa' O',StE fa O H fa' O' H' → GI K g σ H' fa' O' s' → O5 K (NN g.F fa' O') fa' H' ds vs → Q vs H'
noncomputable def FlK (E:Ends) (fa:Option Addr) (O:List Addr) (H:Hp) (fl:Fl) (s':DS):Prop:=
 match fl with
 | .next=>∀ σ' H' fa' O',Stp fa O H fa' O' H' → GI K g σ' H' fa' O' s' → E.nx σ' H'
 | .brk=>∀ σ' H' fa' O',Stp fa O H fa' O' H' → GI K g σ' H' fa' O' s' → E.bk σ' H'
 | .cont=>∀ σ' H' fa' O',Stp fa O H fa' O' H' → GI K g σ' H' fa' O' s' → E.ct σ' H'
 | .ret d=>∀ σ' v H' fa' O',Stp fa O H fa' O' H' → GI K g σ' H' fa' O' s' → Rep K (NN g.F fa' O') fa' H' d v → E.rt v H'
noncomputable def liftS (f:DM):TS:=fun E σ H=>∃ fa O s fl s',GI K g σ H fa O s ∧ f s = some (fl,s') ∧ FlK K g E fa O H fl s'
end
section
variable {K:PySem.W.Frag} {g:Gh} {σ:L2.St} {H:Hp} {G:Prop}
theorem liftE.elim {f:DE} {Q:VK} (h:liftE K g f σ H Q) (k:∀ fa O s d s',GI K g σ H fa O s → f s = some (d,s') → (∀ v H' fa' O',StE fa O H fa' O' H' → GI K g σ H' fa' O' s' → Rep K (NN g.F fa' O') fa' H' d v → Q v H') → G):G:=by
 obtain ⟨fa,O,s,d,s',a,b,c⟩:=h
 exact k fa O s d s' a b c
theorem liftB.elim {f:DE} {Q:VK} (h:liftB K g f σ H Q) (k:∀ fa O s d s',GI K g σ H fa O s → f s = some (d,s') → (∀ v H' fa' O',StE fa O H fa' O' H' → GI K g σ H' fa' O' s' → RepB K (NN g.F fa' O') fa' H' d v → Q v H') → G):G:=by
 obtain ⟨fa,O,s,d,s',a,b,c⟩:=h
 exact k fa O s d s' a b c
theorem liftF.elim {f:DA} {Q:VK} (h:liftF K g f σ H Q) (k:∀ fa O s d s',GI K g σ H fa O s → f s = some (d,s') → (∀ p xs H' fa' O',StE fa O H fa' O' H' → NewL K g σ H' fa' O' s' p xs d → H p = none → Q (.ref p) H') → G):G:=by
 obtain ⟨fa,O,s,d,s',a,b,c⟩:=h
 exact k fa O s d s' a b c
theorem liftT.elim {f:DT} {Q:Bool → Hp → Prop} (h:liftT K g f σ H Q) (k:∀ fa O s d s',GI K g σ H fa O s → f s = some (d,s') → (∀ H' fa' O',StE fa O H fa' O' H' → GI K g σ H' fa' O' s' → Q d H') → G):G:=by
 obtain ⟨fa,O,s,d,s',a,b,c⟩:=h
 exact k fa O s d s' a b c
theorem liftA.elim {f:DA} {Q:List V → Hp → Prop} (h:liftA K g f σ H Q) (k:∀ fa O s d s',GI K g σ H fa O s → f s = some (d,s') → (∀ vs H' fa' O',StE fa O H fa' O' H' → GI K g σ H' fa' O' s' → Reps K (NN g.F fa' O') fa' H' d vs → Q vs H') → G):G:=by
 obtain ⟨fa,O,s,d,s',a,b,c⟩:=h
 exact k fa O s d s' a b c
theorem liftBA.elim {f:DA} {Q:List V → Hp → Prop} (h:liftBA K g f σ H Q) (k:∀ fa O s d s',GI K g σ H fa O s → f s = some (d,s') → (∀ vs H' fa' O',StE fa O H fa' O' H' → GI K g σ H' fa' O' s' → O5 K (NN g.F fa' O') fa' H' d vs → Q vs H') → G):G:=by
 obtain ⟨fa,O,s,d,s',a,b,c⟩:=h
 exact k fa O s d s' a b c
theorem liftS.elim {f:DM} {E:Ends} (h:liftS K g f E σ H) (k:∀ fa O s d s',GI K g σ H fa O s → f s = some (d,s') → (FlK K g E fa O H d s') → G):G:=by
 obtain ⟨fa,O,s,d,s',a,b,c⟩:=h
 exact k fa O s d s' a b c
end
structure EO (X:Cx) (g:Gh) (e:Expr) (f:DE):Prop where
 pe:PE X e (liftE X.K g f)
structure BO (X:Cx) (g:Gh) (e:Expr) (f:DE):Prop where
 pe:PE X e (liftB X.K g f)
structure FO (X:Cx) (g:Gh) (e:Expr) (f:DA):Prop where
 pe:PE X e (liftF X.K g f)
structure TO (X:Cx) (g:Gh) (e:Expr) (f:DT):Prop where
 pe:PT X e (liftT X.K g f)
structure WO (X:Cx) (g:Gh) (e:Expr) (f:DT):Prop where
 pe:PW X e (liftT X.K g f)
structure AO (X:Cx) (g:Gh) (es:List Expr) (f:DA):Prop where
 pe:PA X es (liftA X.K g f)
structure BAO (X:Cx) (g:Gh) (es:List Expr) (f:DA):Prop where
 pe:PA X es (liftBA X.K g f)
structure SO (X:Cx) (g:Gh) (st:Stmt) (f:DM):Prop where
 pe:PS X st (liftS X.K g f)
structure SSO (X:Cx) (g:Gh) (st:List Stmt) (f:DM):Prop where
 pe:PSs X st (liftS X.K g f)
section
variable {X:Cx} {g:Gh} {e:Expr} {f:DE}
theorem PEw {t t':TE} (h:PE X e t) (w:∀ σ H Q,t' σ H Q → t σ H Q):PE X e t':=fun pins s σ H Q I q=>h pins s σ H Q I (w σ H Q q)
theorem PTw {t t':TT} (h:PT X e t) (w:∀ σ H Q,t' σ H Q → t σ H Q):PT X e t':=fun pins s σ H Q I q=>h pins s σ H Q I (w σ H Q q)
theorem PWw {t t':TT} (h:PW X e t) (w:∀ σ H Q,t' σ H Q → t σ H Q):PW X e t':=fun wh pins s σ H Q I q=>h wh pins s σ H Q I (w σ H Q q)
theorem PAw {es:List Expr} {t t':TA} (h:PA X es t) (w:∀ σ H Q,t' σ H Q → t σ H Q):PA X es t':=fun pos pins s σ H Q I q=>h pos pins s σ H Q I (w σ H Q q)
theorem PSw {st:Stmt} {t t':TS} (h:PS X st t) (w:∀ E σ H,t' E σ H → t E σ H):PS X st t':=fun pins s σ H E I q=>h pins s σ H E I (w E σ H q)
theorem a9Z {st:List Stmt} {t t':TS} (h:PSs X st t) (w:∀ E σ H,t' E σ H → t E σ H):PSs X st t':=fun pins s σ H E I q=>h pins s σ H E I (w E σ H q)
theorem EO.w {f:DE} {t:TE} (h:PE X e t) (w:∀ σ H Q,liftE X.K g f σ H Q → t σ H Q):EO X g e f:=⟨PEw h w⟩
theorem BO.w {f:DE} {t:TE} (h:PE X e t) (w:∀ σ H Q,liftB X.K g f σ H Q → t σ H Q):BO X g e f:=⟨PEw h w⟩
theorem FO.w {f:DA} {t:TE} (h:PE X e t) (w:∀ σ H Q,liftF X.K g f σ H Q → t σ H Q):FO X g e f:=⟨PEw h w⟩
theorem TO.w {f:DT} {t:TT} (h:PT X e t) (w:∀ σ H Q,liftT X.K g f σ H Q → t σ H Q):TO X g e f:=⟨PTw h w⟩
theorem WO.w {f:DT} {t:TT} (h:PW X e t) (w:∀ σ H Q,liftT X.K g f σ H Q → t σ H Q):WO X g e f:=⟨PWw h w⟩
theorem AO.w {es:List Expr} {f:DA} {t:TA} (h:PA X es t) (w:∀ σ H Q,liftA X.K g f σ H Q → t σ H Q):AO X g es f:=⟨PAw h w⟩
theorem BAO.w {es:List Expr} {f:DA} {t:TA} (h:PA X es t) (w:∀ σ H Q,liftBA X.K g f σ H Q → t σ H Q):BAO X g es f:=⟨PAw h w⟩
theorem SO.w {st:Stmt} {f:DM} {t:TS} (h:PS X st t) (w:∀ E σ H,liftS X.K g f E σ H → t E σ H):SO X g st f:=⟨PSw h w⟩
theorem SSO.w {st:List Stmt} {f:DM} {t:TS} (h:PSs X st t) (w:∀ E σ H,liftS X.K g f E σ H → t E σ H):SSO X g st f:=⟨a9Z h w⟩
theorem EO.b (h:EO X g e f):BO X g e f:=BO.w h.pe fun σ H Q ⟨fa,O,s,d,s',I,e,k⟩=>⟨fa,O,s,d,s',I,e,fun v H' fa' O' a I' r=>k v H' fa' O' a I' (r.b fun _ z=>.inr (.inr z))⟩
noncomputable def j8 (f:DA):DE:=fun s=>(f s).map fun p=>(.lst p.1,p.2)
theorem a0s {K:PySem.W.Frag} {σ:L2.St} {H H':Hp} {fa fa':Option Addr} {O O':List Addr} {s s':DS} {p:Addr} (I:GI K g σ H fa O s) (a:StE fa O H fa' O' H') (I':GI K g σ H' fa' O' s') (e:H p = none) (e':fa' ≠ some p):¬ NN g.F fa' O' p:=by
 rintro (z | z | z)
 ·exact I.trF z e
 ·obtain ⟨ys,q⟩:=I.owned (a.sub p z)
  rw [e] at q; cases q
 ·exact e' z
theorem FO.v {f:DA} (h:FO X g e f):EO X g e (j8 f):=EO.w h.pe fun σ H Q hQ=>by
 refine hQ.elim fun fa O s d s' I e k=>?_
 simp only [j8] at e
 cases q:f s with
 | none=>rw [q] at e; cases e
 | some p=>
  obtain ⟨ds,s1⟩:=p
  rw [q] at e
  simp only [Option.map_some,Option.some.injEq,Prod.mk.injEq] at e
  obtain ⟨e1,e2⟩:=e
  subst e1; subst e2
  refine ⟨fa,O,s,ds,s1,I,q,fun p xs H' fa' O' a L e1=>k _ H' fa' O' a L.gi ?_⟩
  simp only [Rep]
  exact ⟨p,xs,rfl,a0s I a L.gi e1 L.nf,L.ls,Reps.go ⟨fun b ys n q=>⟨q,fun z=>n (.inl z)⟩,fun _ _ q=>q,fun _ _ q=>q,fun _ q=>q⟩ ds xs L.rs⟩
end
theorem a1r {g:Gh} {K:PySem.W.Frag} {σ:L2.St} {H:Hp} {fa:Option Addr} {O:List Addr} {s:DS} {p:Addr} {o:HO} (I:GI K g σ H fa O s) (hp:H p = none):Car K (NN g.F fa O) fa H (fun b=>NN g.F fa O b ∨ b = p) fa (upd H p o):=by
 have c:=I.car (A3 (fa:=fa) (O:=O) (o:=o) hp).stp
 refine ⟨fun b xs n q=>?_,c.tp,c.fz,c.fe⟩
 obtain ⟨q',n'⟩:=c.ls b xs n q
 refine ⟨q',?_⟩
 rintro (z | z)
 ·exact n' z
 ·subst z
  rw [hp] at q; cases q
theorem R5 {g:Gh} {K:PySem.W.Frag} {σ:L2.St} {H:Hp} {fa:Option Addr} {O:List Addr} {s:DS} {p:Addr} {ds:List D} {xs:List V} (I:GI K g σ H fa O s) (hp:H p = none) (r:Reps K (NN g.F fa O) fa H ds xs):NewL K g σ (upd H p (.lst xs)) fa O s p xs ds:=
 ⟨I.new hp,u8,SlR.go (a1r I hp) (fun b ys _ e=>by rw [m9 (J2 e hp)]; exact e) I.sl,I.fd.car (a1r I hp) (I.fd.same_new hp),Reps.go (a1r I hp) ds xs r,fun z=>I.fd.tracked z hp⟩
noncomputable def dC (d:D):DE:=fun s=>some (d,s)
noncomputable def dV (i:Nat):DE:=fun s=>match s.sl[i]? with
 | some (.val d)=>some (d,s)
 | some (.own ds)=>some (.lst ds,{ s with sl:=s.sl.set i (.val (.lst ds)) })
 | _=>none
noncomputable def dL (i:Nat):DE:=fun s=>match s.sl[i]? with
 | some (.val d)=>some (d,s)
 | some (.own ds)=>some (.lst ds,s)
 | _=>none
section
variable {X:Cx} {g:Gh}
theorem F3 {i:Nat} {x:Str} {pos:Pos} (h:PE X (.Name x pos) (N5 i)):BO X g (.Name x pos) (dL i):=BO.w h fun σ H Q hQ=>by
 refine hQ.elim fun fa O s d s' I e k=>?_
 simp only [dL] at e
 cases q:s.sl[i]? with
 | none=>rw [q] at e; cases e
 | some z=>
  rw [q] at e
  cases z with
  | no=>cases e
  | val d'=>
   cases e
   obtain ⟨u,e1,r⟩:=SlR.val I.sl q
   exact ⟨u,e1,k u H fa O StE.refl I (r.b fun _ z=>.inr (.inr z))⟩
  | own ds=>
   cases e
   obtain ⟨a,xs,e1,m,e2,r⟩:=SlR.own I.sl q
   exact ⟨_,e1,k _ H fa O StE.refl I ⟨a,xs,rfl,fun z=>I.nf a z m,e2,r⟩⟩
theorem T3 {i:Nat} {x:Str} {pos:Pos} (h:PE X (.Name x pos) (N5 i)):EO X g (.Name x pos) (dV i):=EO.w h fun σ H Q hQ=>by
 refine hQ.elim fun fa O s d s' I e k=>?_
 simp only [dV] at e
 cases q:s.sl[i]? with
 | none=>rw [q] at e; cases e
 | some z=>
  rw [q] at e
  cases z with
  | no=>cases e
  | val d'=>
   cases e
   obtain ⟨u,e1,r⟩:=SlR.val I.sl q
   exact ⟨u,e1,k u H fa O StE.refl I r⟩
  | own ds=>
   cases e
   obtain ⟨a,xs,e1,m,e2,r⟩:=SlR.own I.sl q
   have i':i < s.sl.length:=(List.getElem?_eq_some_iff.mp q).1
   let N1:Addr → Prop:=fun b=>NN g.F fa O b ∧ b ≠ a
   have c1:Car X.K (NN g.F fa O) fa H N1 fa H:=⟨fun b ys n z=>⟨z,fun y=>n y.1⟩,fun _ _ z=>z,fun _ _ z=>z,fun _ z=>z⟩
   have S1:=SlR.go c1 (fun _ _ _ z=>z) I.sl
   have R1:Rep X.K N1 fa H (.lst ds) (.ref a):=by
    simp only [Rep]
    exact ⟨a,xs,rfl,fun z=>z.2 rfl,e2,Reps.go c1 ds xs r⟩
   obtain ⟨P,hs,S2,hn⟩:=SlR.put i S1 R1
   have na:a ∉ P:=hn I.nd a (by rw [q]; rfl) ⟨ds,q⟩ e1
   have eσ:σ.set i (some (V.ref a)) = σ:=by
    apply List.ext_getElem?
    intro j
    by_cases hj:j = i
    ·subst hj
     rw [e1,List.getElem?_set_self (List.getElem?_eq_some_iff.mp e1).1]
    ·rw [List.getElem?_set_ne (Ne.symm hj)]
   rw [eσ] at S2
   have sub:∀ b ∈ P,b ∈ O:=fun b hb=>hs.subset hb
   have a1:StE fa O H fa P H:=⟨sub,.inl rfl,fun _ _ z _=>z,fun _ z=>z⟩
   have c2:Car X.K N1 fa H (NN g.F fa P) fa H:=⟨fun b ys n z=>⟨z,fun y=>n ⟨by
     rcases y with y | y | y
     ·exact .inl y
     ·exact .inr (.inl (sub b y))
     ·exact .inr (.inr y),fun w=>by
     subst w
     rcases y with y | y | y
     ·exact I.tr b y (I.fr b m)
     ·exact na y
     ·exact I.nf b y m⟩⟩,fun _ _ z=>z,fun _ _ z=>z,fun _ z=>z⟩
   refine ⟨_,e1,k _ H fa P a1 ⟨hs.nodup I.nd,SlR.go c2 (fun _ _ _ z=>z) S2,fun b hb=>I.fr b (sub b hb),I.st,I.tr,I.ff,(I.fd.car c1 fun _ _=>rfl).car c2 fun _ _=>rfl,fun b z y=>I.nf b z (sub b y)⟩ (Rep.go c2 _ _ R1)⟩
theorem a0r {e:Expr} {v:V} {d:D} (h:PE X e (tC v)) (r:∀ K N fa H,Rep K N fa H d v):EO X g e (dC d):=EO.w h fun σ H Q hQ=>by
 refine hQ.elim fun fa O s d' s' I q k=>?_
 simp only [dC,Option.some.injEq,Prod.mk.injEq] at q
 obtain ⟨q1,q2⟩:=q
 subst q1; subst q2
 exact k v H fa O StE.refl I (r _ _ _ _)
theorem X6 {i j pos}:EO X g (.Constant (.int i) j pos) (dC (.int i)):=a0r P6 fun _ _ _ _=>by simp only [Rep]
theorem F6 {i j pos}:EO X g (.Constant (.bool i) j pos) (dC (.bl i)):=a0r b13 fun _ _ _ _=>by simp only [Rep]
theorem b0q {j pos}:EO X g (.Constant .none j pos) (dC .non):=a0r b25 fun _ _ _ _=>by simp only [Rep]
theorem b4Q {x j pos} (hx:x.length ≤ sizeLine):EO X g (.Constant (.str x) j pos) (dC (.str x)):=a0r b1N fun _ _ _ _=>by simp only [Rep]; exact ⟨trivial,hx⟩
end
noncomputable def R2D (K:PySem.W.Frag) (r:R2) (p:D → D → Option D):Prop:=
 ∀ (g:Gh) (σ:L2.St) (H:Hp) (fa:Option Addr) (O:List Addr) (s:DS) (x y:V) (d1 d2 d:D) (Q:VK),GI K g σ H fa O s → RepB K (NN g.F fa O) fa H d1 x → RepB K (NN g.F fa O) fa H d2 y → p d1 d2 = some d →
  (∀ v H',StE fa O H fa O H' → GI K g σ H' fa O s → Rep K (NN g.F fa O) fa H' d v → Q v H') → r x y H Q
noncomputable def R1D (K:PySem.W.Frag) (r:V → Hp → VK → Prop) (p:D → Option D):Prop:=
 ∀ (g:Gh) (σ:L2.St) (H:Hp) (fa:Option Addr) (O:List Addr) (s:DS) (x:V) (d1 d:D) (Q:VK),GI K g σ H fa O s → RepB K (NN g.F fa O) fa H d1 x → p d1 = some d →
  (∀ v H',StE fa O H fa O H' → GI K g σ H' fa O s → Rep K (NN g.F fa O) fa H' d v → Q v H') → r x H Q
noncomputable def R2F (K:PySem.W.Frag) (r:R2) (p:D → D → Option (List D)):Prop:=
 ∀ (g:Gh) (σ:L2.St) (H:Hp) (fa:Option Addr) (O:List Addr) (s:DS) (x y:V) (d1 d2:D) (ds:List D) (Q:VK),GI K g σ H fa O s → RepB K (NN g.F fa O) fa H d1 x → RepB K (NN g.F fa O) fa H d2 y → p d1 d2 = some ds →
  (∀ q xs H',StE fa O H fa O H' → NewL K g σ H' fa O s q xs ds → H q = none → Q (.ref q) H') → r x y H Q
noncomputable def RCD (K:PySem.W.Frag) (r:List V → Hp → VK → Prop) (p:List D → Option D):Prop:=
 ∀ (g:Gh) (σ:L2.St) (H:Hp) (fa:Option Addr) (O:List Addr) (s:DS) (xs:List V) (ds:List D) (d:D) (Q:VK),GI K g σ H fa O s → O5 K (NN g.F fa O) fa H ds xs → p ds = some d →
  (∀ v H',StE fa O H fa O H' → GI K g σ H' fa O s → Rep K (NN g.F fa O) fa H' d v → Q v H') → r xs H Q
noncomputable def RCF (K:PySem.W.Frag) (r:List V → Hp → VK → Prop) (p:List D → Option (List D)):Prop:=
 ∀ (g:Gh) (σ:L2.St) (H:Hp) (fa:Option Addr) (O:List Addr) (s:DS) (xs:List V) (ds es:List D) (Q:VK),GI K g σ H fa O s → O5 K (NN g.F fa O) fa H ds xs → p ds = some es →
  (∀ q ys H',StE fa O H fa O H' → NewL K g σ H' fa O s q ys es → H q = none → Q (.ref q) H') → r xs H Q
noncomputable def dOp (p:D → D → Option D) (a b:DE):DE:=fun s=>(a s).bind fun x=>(b x.2).bind fun y=>(p x.1 y.1).map fun d=>(d,y.2)
noncomputable def Y7 (p:D → D → Option (List D)) (a b:DE):DA:=fun s=>(a s).bind fun x=>(b x.2).bind fun y=>(p x.1 y.1).map fun d=>(d,y.2)
noncomputable def dUn (p:D → Option D) (a:DE):DE:=fun s=>(a s).bind fun x=>(p x.1).map fun d=>(d,x.2)
theorem a4J {α:Type} {p:D → D → Option α} {a b:DE} {s s':DS} {d:α} (h:((a s).bind fun x=>(b x.2).bind fun y=>(p x.1 y.1).map fun d=>(d,y.2)) = some (d,s')):∃ x s1 y,a s = some (x,s1) ∧ b s1 = some (y,s') ∧ p x y = some d:=by
 refine t9 h fun x s1 h1 h=>?_
 refine t9 h fun y s2 h2 h=>?_
 refine E7 h fun d' h3 h=>?_
 simp only [Prod.mk.injEq] at h
 obtain ⟨e1,e2⟩:=h
 subst e1; subst e2
 exact ⟨x,s1,y,h1,h2,h3⟩
section
variable {X:Cx} {g:Gh} {a b:Expr} {fa fb:DE} {pos:Pos} {r:R2} {p:D → D → Option D}
theorem a1P {r:R2} {p:D → D → Option D} (hr:R2D X.K r p) (σ:L2.St) (H:Hp) (Q:VK) (h:liftE X.K g (dOp p fa fb) σ H Q):tOp r (liftB X.K g fa) (liftB X.K g fb) σ H Q:=by
 obtain ⟨f0,O,s,d,s',I,e,k⟩:=h
 obtain ⟨x,s1,y,h1,h2,h3⟩:=a4J e
 refine ⟨f0,O,s,x,s1,I,h1,fun v H1 f1 O1 a1 I1 r1=>⟨f1,O1,s1,y,s',I1,h2,fun u H2 f2 O2 a2 I2 r2=>?_⟩⟩
 exact hr g σ H2 f2 O2 s' v u x y d Q I2 (RepB.stp I1 a2 r1) r2 h3 fun z H3 a3 I3 r3=>k z H3 f2 O2 (a1.trans (a2.trans a3)) I3 r3
theorem b5D {r:R2} {p:D → D → Option (List D)} (hr:R2F X.K r p) (σ:L2.St) (H:Hp) (Q:VK) (h:liftF X.K g (Y7 p fa fb) σ H Q):tOp r (liftB X.K g fa) (liftB X.K g fb) σ H Q:=by
 obtain ⟨f0,O,s,d,s',I,e,k⟩:=h
 obtain ⟨x,s1,y,h1,h2,h3⟩:=a4J e
 refine ⟨f0,O,s,x,s1,I,h1,fun v H1 f1 O1 a1 I1 r1=>⟨f1,O1,s1,y,s',I1,h2,fun u H2 f2 O2 a2 I2 r2=>?_⟩⟩
 exact hr g σ H2 f2 O2 s' v u x y d Q I2 (RepB.stp I1 a2 r1) r2 h3 fun q xs H3 a3 L e1=>k q xs H3 f2 O2 (a1.trans (a2.trans a3)) L (a1.mon _ (a2.mon _ e1))
theorem b6Y {op:Operator} (ho:OpR X (binaryOp op) r) (hr:R2D X.K r p) (ha:BO X g a fa) (hb:BO X g b fb):EO X g (.BinOp a op b pos) (dOp p fa fb):=EO.w (a1B ho ha.pe hb.pe) (a1P hr)
theorem b5e {op:Operator} {p:D → D → Option (List D)} (ho:OpR X (binaryOp op) r) (hr:R2F X.K r p) (ha:BO X g a fa) (hb:BO X g b fb):FO X g (.BinOp a op b pos) (Y7 p fa fb):=FO.w (a1B ho ha.pe hb.pe) (b5D hr)
theorem a0z {op:CmpOp} (ho:OpR X (compareOp op) r) (hr:R2D X.K r p) (ha:BO X g a fa) (hb:BO X g b fb) (hm:behindInMarks op b = false):EO X g (.Compare a [op] [b] pos) (dOp p fa fb):=EO.w (a7B ho ha.pe hb.pe hm) (a1P hr)
theorem b2g {r:R2} (ho:IxR X r) (hr:R2D X.K r p) (ha:BO X g a fa) (hb:BO X g b fb) (hs:a64 b):EO X g (.Subscript a b pos) (dOp p fa fb):=EO.w (a5l ho ha.pe hb.pe hs) (a1P hr)
theorem b3v {op:UnaryOp} {r:V → Hp → VK → Prop} {p:D → Option D} (ho:UnR X (unaryOp op) r) (hr:R1D X.K r p) (ha:BO X g a fa):EO X g (.UnaryOp op a pos) (dUn p fa):=EO.w (b6I ho ha.pe) fun σ H Q hQ=>by
 refine hQ.elim fun f0 O s d s' I e k=>?_
 refine t9 e fun x s1 h1 h=>?_
 refine E7 h fun d' h3 h=>?_
 simp only [Prod.mk.injEq] at h
 obtain ⟨e1,e2⟩:=h
 subst e1; subst e2
 exact ⟨f0,O,s,x,s1,I,h1,fun v H1 f1 O1 a1 I1 r1=>hr g σ H1 f1 O1 s1 v x d' Q I1 r1 h3 fun z H3 a3 I3 r3=>k z H3 f1 O1 (a1.trans a3) I3 r3⟩
noncomputable def dB (f:DE):DT:=fun s=>(f s).bind fun x=>match x.1 with | .bl b=>some (b,x.2) | _=>none
theorem Y8 {f:DE} {s s':DS} {b:Bool} (h:dB f s = some (b,s')):f s = some (.bl b,s'):=by
 refine t9 h fun x s1 h1 h=>?_
 cases x with
 | bl c=>simp only [Option.some.injEq,Prod.mk.injEq] at h; rw [h1,h.1,h.2]
 | _=>cases h
theorem a4C {op:CmpOp} (ho:OpR X (compareOp op) r) (hr:R2D X.K r p) (ha:BO X g a fa) (hb:BO X g b fb) (hm:behindInMarks op b = false):TO X g (.Compare a [op] [b] pos) (dB (dOp p fa fb)):=
 TO.w (b59 ho ha.pe hb.pe hm) fun σ H Q ⟨f0,O,s,d,s',I,e,k⟩=>a1P hr σ H _ ⟨f0,O,s,.bl d,s',I,Y8 e,fun v H' f1 O1 a I1 r=>by
  simp only [Rep] at r
  exact ⟨d,r,k H' f1 O1 a I1⟩⟩
noncomputable def p8:D → Option Bool
 | .non=>some false
 | .bl b=>some b
 | .int i=>some (i != 0)
 | .str x=>some ((x.length:Int) != 0)
 | .tup ds=>some (!ds.isEmpty)
 | .lst ds=>some (!ds.isEmpty)
 | _=>none
noncomputable def dTr (f:DE):DT:=fun s=>(f s).bind fun x=>(p8 x.1).map fun b=>(b,x.2)
theorem a7J {α β:Type} {xs:List α} {ys:List β} (h:xs.length = ys.length):xs.isEmpty = ys.isEmpty:=by cases xs <;> cases ys <;> simp_all
theorem C7 {e:Expr} {f:DE} (h:BO X g e f) (he:∀ whole,isTrue e X.env whole = (do let v ← whole; standAt e.pos; holding [v] (truthy v)):=by intro _; rfl):TO X g e (dTr f):=
 TO.w (b6e h.pe he) fun σ H Q hQ=>by
  refine hQ.elim fun f0 O s d s' I e k=>?_
  obtain ⟨⟨x,s1⟩,h1,h.pe⟩:=Option.bind_eq_some_iff.mp e
  obtain ⟨d',h3,h.pe⟩:=Option.map_eq_some_iff.mp h.pe
  simp only [Prod.mk.injEq] at h.pe
  obtain ⟨e1,e2⟩:=h.pe
  subst e1; subst e2
  refine ⟨f0,O,s,x,s1,I,h1,fun v H' f1 O1 a I1 r=>⟨d',?_,k H' f1 O1 a I1⟩⟩
  cases x with
  | non=>simp only [RepB,Rep] at r; subst r; cases h3; rfl
  | bl b=>simp only [RepB,Rep] at r; subst r; cases h3; rfl
  | int i=>simp only [RepB,Rep] at r; subst r; cases h3; rfl
  | str x=>simp only [RepB,Rep] at r; obtain ⟨r,l⟩:=r; subst r; cases h3; exact ⟨l,rfl⟩
  | tup ds=>
   simp only [RepB,Rep] at r
   obtain ⟨c,xs,r,q,w⟩:=r
   subst r; cases h3
   exact .inr (.inl ⟨xs,q,by rw [a7J w.length]⟩)
  | lst ds=>
   obtain ⟨c,xs,r,_,q,w⟩:=r
   subst r; cases h3
   exact .inl ⟨xs,SqL.of q,by rw [a7J w.length]⟩
  | feed=>cases h3
  | scr _=>cases h3
  | fn _=>cases h3
noncomputable def n8 (a b:DT):DT:=fun s=>(a s).bind fun x=>if x.1 = true then b x.2 else some (false,x.2)
noncomputable def dOr (a b:DT):DT:=fun s=>(a s).bind fun x=>if x.1 = true then some (true,x.2) else b x.2
noncomputable def j7 (a:DT):DT:=fun s=>(a s).map fun x=>(!x.1,x.2)
noncomputable def o8 (a b:DE):DE:=fun s=>(dB a s).bind fun x=>if x.1 = true then b x.2 else some (.bl false,x.2)
noncomputable def p9 (a b:DE):DE:=fun s=>(dB a s).bind fun x=>if x.1 = true then some (.bl true,x.2) else b x.2
noncomputable def r8 (a:DE):DE:=fun s=>(dB a s).map fun x=>(.bl (!x.1),x.2)
variable {ta tb:DT} {rest:List Expr}
theorem b1n (h:TO X g a ta):WO X g (.BoolOp .And [a] pos) ta:=⟨b0D h.pe⟩
theorem V7 (h:TO X g a ta):WO X g (.BoolOp .Or [a] pos) ta:=⟨b2C h.pe⟩
theorem b1f (ha:TO X g a ta) (hb:WO X g (.BoolOp .And (b :: rest) pos) tb):WO X g (.BoolOp .And (a :: b :: rest) pos) (n8 ta tb):=WO.w (a9f ha.pe hb.pe) fun σ H Q hQ=>by
 refine hQ.elim fun f0 O s d s' I e k=>?_
 refine t9 e fun x s1 h1 h=>?_
 refine ⟨f0,O,s,x,s1,I,h1,fun H1 f1 O1 a1 I1=>?_⟩
 cases x with
 | true=>rw [if_pos rfl] at h ⊢; exact ⟨f1,O1,s1,d,s',I1,h,fun H2 f2 O2 a2 I2=>k H2 f2 O2 (a1.trans a2) I2⟩
 | false=>
  rw [if_neg Bool.false_ne_true] at h ⊢
  simp only [Option.some.injEq,Prod.mk.injEq] at h
  obtain ⟨e1,e2⟩:=h
  subst e1; subst e2
  exact k H1 f1 O1 a1 I1
theorem E5 (ha:TO X g a ta) (hb:WO X g (.BoolOp .Or (b :: rest) pos) tb):WO X g (.BoolOp .Or (a :: b :: rest) pos) (dOr ta tb):=WO.w (b5i ha.pe hb.pe) fun σ H Q hQ=>by
 refine hQ.elim fun f0 O s d s' I e k=>?_
 refine t9 e fun x s1 h1 h=>?_
 refine ⟨f0,O,s,x,s1,I,h1,fun H1 f1 O1 a1 I1=>?_⟩
 cases x with
 | false=>rw [if_neg Bool.false_ne_true] at h ⊢; exact ⟨f1,O1,s1,d,s',I1,h,fun H2 f2 O2 a2 I2=>k H2 f2 O2 (a1.trans a2) I2⟩
 | true=>
  rw [if_pos rfl] at h ⊢
  simp only [Option.some.injEq,Prod.mk.injEq] at h
  obtain ⟨e1,e2⟩:=h
  subst e1; subst e2
  exact k H1 f1 O1 a1 I1
theorem WO.t {e:Expr} {f:DT} (h:WO X g e f):TO X g e f:=⟨h.pe.pt⟩
theorem D2 (ha:TO X g a ta):TO X g (.UnaryOp .Not a pos) (j7 ta):=TO.w (b58 ha.pe) fun σ H Q hQ=>by
 refine hQ.elim fun f0 O s d s' I e k=>?_
 refine mapP e fun x s1 h1 h=>?_
 simp only [Prod.mk.injEq] at h
 obtain ⟨e1,e2⟩:=h
 subst e1; subst e2
 exact ⟨f0,O,s,x,s1,I,h1,fun H1 f1 O1 a1 I1=>k H1 f1 O1 a1 I1⟩
theorem a1w {op} {f:DE} (h:EO X g a f):EO X g (.BoolOp op [a] pos) f:=⟨b17 h.pe⟩
theorem a1N (ha:EO X g a fa) (hb:EO X g (.BoolOp .And (b :: rest) pos) fb):EO X g (.BoolOp .And (a :: b :: rest) pos) (o8 fa fb):=EO.w (a9R ha.pe hb.pe) fun σ H Q hQ=>by
 refine hQ.elim fun f0 O s d s' I e k=>?_
 refine t9 e fun x s1 h1 h=>?_
 refine ⟨f0,O,s,_,s1,I,Y8 h1,fun v H1 f1 O1 a1 I1 r=>⟨x,by simpa only [Rep] using r,?_⟩⟩
 cases x with
 | true=>rw [if_pos rfl] at h ⊢; exact ⟨f1,O1,s1,d,s',I1,h,fun v H2 f2 O2 a2 I2=>k v H2 f2 O2 (a1.trans a2) I2⟩
 | false=>
  rw [if_neg Bool.false_ne_true] at h ⊢
  simp only [Option.some.injEq,Prod.mk.injEq] at h
  obtain ⟨e1,e2⟩:=h
  subst e1; subst e2
  exact k _ H1 f1 O1 a1 I1 (by simp only [Rep])
theorem b2S (ha:EO X g a fa) (hb:EO X g (.BoolOp .Or (b :: rest) pos) fb):EO X g (.BoolOp .Or (a :: b :: rest) pos) (p9 fa fb):=EO.w (b2o ha.pe hb.pe) fun σ H Q hQ=>by
 refine hQ.elim fun f0 O s d s' I e k=>?_
 refine t9 e fun x s1 h1 h=>?_
 refine ⟨f0,O,s,_,s1,I,Y8 h1,fun v H1 f1 O1 a1 I1 r=>⟨x,by simpa only [Rep] using r,?_⟩⟩
 cases x with
 | false=>rw [if_neg Bool.false_ne_true] at h ⊢; exact ⟨f1,O1,s1,d,s',I1,h,fun v H2 f2 O2 a2 I2=>k v H2 f2 O2 (a1.trans a2) I2⟩
 | true=>
  rw [if_pos rfl] at h ⊢
  simp only [Option.some.injEq,Prod.mk.injEq] at h
  obtain ⟨e1,e2⟩:=h
  subst e1; subst e2
  exact k _ H1 f1 O1 a1 I1 (by simp only [Rep])
theorem a8y (ha:EO X g a fa):EO X g (.UnaryOp .Not a pos) (r8 fa):=EO.w (b4r ha.pe) fun σ H Q hQ=>by
 refine hQ.elim fun f0 O s d s' I e k=>?_
 refine mapP e fun x s1 h1 h=>?_
 simp only [Prod.mk.injEq] at h
 obtain ⟨e1,e2⟩:=h
 subst e1; subst e2
 exact ⟨f0,O,s,_,s1,I,Y8 h1,fun v H1 f1 O1 a1 I1 r=>⟨x,by simpa only [Rep] using r,k _ H1 f1 O1 a1 I1 (by simp only [Rep])⟩⟩
noncomputable def dIf (c:DT) (a b:DE):DE:=fun s=>(c s).bind fun x=>if x.1 = true then a x.2 else b x.2
theorem b5S {c:Expr} {fc:DT} (hc:TO X g c fc) (ha:EO X g a fa) (hb:EO X g b fb):EO X g (.IfExp c a b pos) (dIf fc fa fb):=EO.w (b2H hc.pe ha.pe hb.pe) fun σ H Q hQ=>by
 refine hQ.elim fun f0 O s d s' I e k=>?_
 refine t9 e fun x s1 h1 h=>?_
 refine ⟨f0,O,s,x,s1,I,h1,fun H1 f1 O1 a1 I1=>?_⟩
 cases x with
 | false=>rw [if_neg Bool.false_ne_true] at h ⊢; exact ⟨f1,O1,s1,d,s',I1,h,fun v H2 f2 O2 a2 I2=>k v H2 f2 O2 (a1.trans a2) I2⟩
 | true=>rw [if_pos rfl] at h ⊢; exact ⟨f1,O1,s1,d,s',I1,h,fun v H2 f2 O2 a2 I2=>k v H2 f2 O2 (a1.trans a2) I2⟩
noncomputable def a9:DA:=fun s=>some ([],s)
noncomputable def a7 (a:DE) (r:DA):DA:=fun s=>(a s).bind fun x=>(r x.2).map fun y=>(x.1 :: y.1,y.2)
theorem a0j {a:DE} {r:DA} {s s':DS} {ds:List D} (h:a7 a r s = some (ds,s')):∃ d s1 es,a s = some (d,s1) ∧ r s1 = some (es,s') ∧ ds = d :: es:=by
 refine t9 h fun x s1 h1 h=>?_
 refine mapP h fun y s2 h2 h=>?_
 simp only [Prod.mk.injEq] at h
 exact ⟨x,s1,y,h1,by rw [h2,h.2],h.1.symm⟩
variable {es:List Expr} {fr:DA}
theorem a19:AO X g [] a9:=AO.w N9 fun σ H Q hQ=>by
 refine hQ.elim fun f0 O s d s' I e k=>?_
 simp only [a9,Option.some.injEq,Prod.mk.injEq] at e
 obtain ⟨e1,e2⟩:=e
 subst e1; subst e2
 exact k [] H f0 O StE.refl I (by simp only [Reps])
theorem a4r (ha:EO X g a fa) (hr:AO X g es fr) (hs:starEach (a :: es) X.env = (false,eval a X.env) :: starEach es X.env:=by rfl):AO X g (a :: es) (a7 fa fr):=AO.w (G9 ha.pe hr.pe hs) fun σ H Q hQ=>by
 refine hQ.elim fun f0 O s ds s' I e k=>?_
 obtain ⟨d,s1,es,h1,h2,h3⟩:=a0j e
 subst h3
 refine ⟨f0,O,s,d,s1,I,h1,fun v H1 f1 O1 a1 I1 r1=>⟨f1,O1,s1,es,s',I1,h2,fun vs H2 f2 O2 a2 I2 r2=>?_⟩⟩
 refine k (v :: vs) H2 f2 O2 (a1.trans a2) I2 ?_
 simp only [Reps]
 exact ⟨v,vs,rfl,Rep.stp I1 a2.stp r1,r2⟩
theorem Z6:BAO X g [] a9:=BAO.w N9 fun σ H Q hQ=>by
 refine hQ.elim fun f0 O s d s' I e k=>?_
 simp only [a9,Option.some.injEq,Prod.mk.injEq] at e
 obtain ⟨e1,e2⟩:=e
 subst e1; subst e2
 exact k [] H f0 O StE.refl I (by simp only [O5])
theorem b4Y (ha:BO X g a fa) (hr:BAO X g es fr) (hs:starEach (a :: es) X.env = (false,eval a X.env) :: starEach es X.env:=by rfl):BAO X g (a :: es) (a7 fa fr):=BAO.w (G9 ha.pe hr.pe hs) fun σ H Q hQ=>by
 refine hQ.elim fun f0 O s ds s' I e k=>?_
 obtain ⟨d,s1,es,h1,h2,h3⟩:=a0j e
 subst h3
 refine ⟨f0,O,s,d,s1,I,h1,fun v H1 f1 O1 a1 I1 r1=>⟨f1,O1,s1,es,s',I1,h2,fun vs H2 f2 O2 a2 I2 r2=>?_⟩⟩
 exact k (v :: vs) H2 f2 O2 (a1.trans a2) I2 ⟨v,vs,rfl,RepB.stp I1 a2 r1,r2⟩
noncomputable def e6 (f:DA):DE:=fun s=>(f s).bind fun x=>if x.1.length ≤ sizeLine then some (.tup x.1,x.2) else none
noncomputable def m6 (f:DA):DA:=fun s=>(f s).bind fun x=>if x.1.length ≤ sizeLine then some (x.1,x.2) else none
theorem b43 {x1} (h:AO X g es fr):EO X g (.Tuple es x1 pos) (e6 fr):=EO.w (b2d h.pe) fun σ H Q hQ=>by
 refine hQ.elim fun f0 O s d s' I e k=>?_
 obtain ⟨⟨ds,s1⟩,h1,h.pe⟩:=Option.bind_eq_some_iff.mp e
 by_cases hl:ds.length ≤ sizeLine
 ·rw [if_pos hl] at h.pe
  simp only [Option.some.injEq,Prod.mk.injEq] at h.pe
  obtain ⟨e1,e2⟩:=h.pe
  subst e1; subst e2
  refine ⟨f0,O,s,ds,s1,I,h1,fun vs H1 f1 O1 a1 I1 r1=>⟨by rw [r1.length]; exact hl,fun p hp=>?_⟩⟩
  have a2:StE f1 O1 H1 f1 O1 (upd H1 p (.tup vs)):=A3 hp
  refine k _ _ f1 O1 (a1.trans a2) (I1.new hp) ?_
  simp only [Rep]
  exact ⟨p,vs,rfl,SqT.of u8,Reps.stp I1 a2.stp r1⟩
 ·rw [if_neg hl] at h.pe; cases h.pe
theorem b4c (h:AO X g es fr):FO X g (.List es pos) (m6 fr):=FO.w (a0P h.pe) fun σ H Q hQ=>by
 refine hQ.elim fun f0 O s d s' I e k=>?_
 obtain ⟨⟨ds,s1⟩,h1,h.pe⟩:=Option.bind_eq_some_iff.mp e
 by_cases hl:ds.length ≤ sizeLine
 ·rw [if_pos hl] at h.pe
  simp only [Option.some.injEq,Prod.mk.injEq] at h.pe
  obtain ⟨e1,e2⟩:=h.pe
  subst e1; subst e2
  refine ⟨f0,O,s,ds,s1,I,h1,fun vs H1 f1 O1 a1 I1 r1=>⟨by rw [r1.length]; exact hl,fun p hp=>?_⟩⟩
  have a2:StE f1 O1 H1 f1 O1 (upd H1 p (.lst vs)):=A3 hp
  exact k p vs _ f1 O1 (a1.trans a2) (R5 I1 hp r1) (a1.mon _ hp)
 ·rw [if_neg hl] at h.pe; cases h.pe
end
section
variable {K:PySem.W.Frag} {g:Gh} {σ:L2.St} {H H':Hp} {fa fa':Option Addr} {O O':List Addr} {s s':DS}
theorem NN.mono {F:Addr → Prop} {P:List Addr} (h:∀ b ∈ P,b ∈ O) {b:Addr} (z:NN F fa P b):NN F fa O b:=by
 rcases z with z | z | z
 ·exact .inl z
 ·exact .inr (.inl (h b z))
 ·exact .inr (.inr z)
theorem a4U {F:Addr → Prop} {N:Addr → Prop} (h:∀ b,NN F fa O b → N b):Car K N fa H (NN F fa O) fa H:=⟨fun b xs n q=>⟨q,fun z=>n (h b z)⟩,fun _ _ q=>q,fun _ _ q=>q,fun _ q=>q⟩
theorem DI.put (I:GI K g σ H fa O s) (i:Nat) {d:D} {v:V} (r:Rep K (NN g.F fa O) fa H d v):∃ P,(∀ b ∈ P,b ∈ O) ∧ GI K g (σ.set i (some v)) H fa P { s with sl:=s.sl.set i (.val d) }:=by
 obtain ⟨P,hs,S,_⟩:=SlR.put i I.sl r
 have sub:∀ b ∈ P,b ∈ O:=fun b hb=>hs.subset hb
 have c:Car K (NN g.F fa O) fa H (NN g.F fa P) fa H:=a4U fun b=>NN.mono sub
 exact ⟨P,sub,hs.nodup I.nd,SlR.go c (fun _ _ _ z=>z) S,fun b hb=>I.fr b (sub b hb),I.st,I.tr,I.ff,I.fd.car c fun _ _=>rfl,fun b z y=>I.nf b z (sub b y)⟩
theorem a0J {P:List Addr} (h:∀ b ∈ P,b ∈ O):StE fa O H fa P H:=⟨h,.inl rfl,fun _ _ e _=>e,fun _ e=>e⟩
theorem NewL.put {p:Addr} {xs:List V} {ds:List D} (L:NewL K g σ H fa O s p xs ds) (i:Nat) (hi:i < s.sl.length) (h0:g.H0 p = none) (hp:p ∉ O):∃ P,(∀ b ∈ P,b = p ∨ b ∈ O) ∧ GI K g (σ.set i (some (.ref p))) H fa P { s with sl:=s.sl.set i (.own ds) }:=by
 obtain ⟨P,h1,h2,S⟩:=SlR.putN i L.sl hi hp L.gi.nd L.ls L.rs
 have c:Car K (fun b=>NN g.F fa O b ∨ b = p) fa H (NN g.F fa P) fa H:=a4U fun b z=>by
  rcases z with z | z | z
  ·exact .inl (.inl z)
  ·rcases h1 b z with y | y
   ·exact .inr y
   ·exact .inl (.inr (.inl y))
  ·exact .inl (.inr (.inr z))
 refine ⟨P,h1,h2,SlR.go c (fun _ _ _ z=>z) S,fun b hb=>?_,L.gi.st,L.gi.tr,L.gi.ff,L.fd.car c fun _ _=>rfl,fun b z hb=>?_⟩
 ·rcases h1 b hb with y | y
  ·rw [y]; exact h0
  ·exact L.gi.fr b y
 ·rcases h1 b hb with y | y
  ·rw [y] at z; exact L.nf z
  ·exact L.gi.nf b z y
theorem DI.rew (I:GI K g σ H fa O s) {i:Nat} {ds es:List D} {a:Addr} {xs ys:List V} (e1:s.sl[i]? = some (.own ds)) (e2:σ[i]? = some (some (.ref a))) (m:a ∈ O) (e3:H a = some (.lst xs)) (r:Reps K (NN g.F fa O) fa H es ys) :
  GI K g σ (upd H a (.lst ys)) fa O { s with sl:=s.sl.set i (.own es) } ∧ Stp fa O H fa O (upd H a (.lst ys)):=by
 have a1:Stp fa O H fa O (upd H a (.lst ys)):=⟨fun b hb=>.inl hb,.inl rfl,fun b u e n _=>by
  rw [m9 (show b ≠ a from fun z=>n (by rw [z]; exact m))]; exact e,fun b z=>by
  by_cases hb:b = a
  ·subst hb; rw [u8] at z; cases z
  ·rw [m9 hb] at z; exact z⟩
 have c:=I.car a1
 have k:∀ b u,b ≠ a → H b = some u → upd H a (.lst ys) b = some u:=fun b u n e=>by rw [m9 n]; exact e
 refine ⟨⟨I.nd,SlR.rew I.sl I.nd (fun b hb=>.inr (.inl hb)) e1 e2 u8 c k (Reps.go c es ys r),I.fr,?_,I.tr,I.ff,I.fd.car c fun b hb=>?_,I.nf⟩,a1⟩
 ·refine ⟨fun b hb=>(by cases hb),I.st.fe,fun b u e n f=>?_,fun b z=>I.st.mon b (a1.mon b z)⟩
  refine k b u (fun z=>?_) (I.st.same b u e n f)
  rw [z,I.fr a m] at e; cases e
 ·refine m9 fun z=>?_
  subst z
  exact I.nf _ hb m
end
theorem FlK.shift {K:PySem.W.Frag} {g:Gh} {E:Ends} {fa fa':Option Addr} {O O':List Addr} {H H':Hp} {fl:Fl} {s:DS} (a:Stp fa O H fa' O' H') (h:FlK K g E fa O H fl s):FlK K g E fa' O' H' fl s:=by
 cases fl with
 | next=>exact fun σ' H2 f2 O2 a2 I2=>h σ' H2 f2 O2 (a.trans a2) I2
 | brk=>exact fun σ' H2 f2 O2 a2 I2=>h σ' H2 f2 O2 (a.trans a2) I2
 | cont=>exact fun σ' H2 f2 O2 a2 I2=>h σ' H2 f2 O2 (a.trans a2) I2
 | ret d=>exact fun σ' v H2 f2 O2 a2 I2=>h σ' v H2 f2 O2 (a.trans a2) I2
noncomputable def i8:DM:=fun s=>some (.next,s)
noncomputable def p7 (b:DM) (x:Fl × DS):Option (Fl × DS):=match x.1 with
 | .next=>b x.2
 | .brk=>some (.brk,x.2)
 | .cont=>some (.cont,x.2)
 | .ret d=>some (.ret d,x.2)
noncomputable def c7 (a b:DM):DM:=fun s=>(a s).bind (p7 b)
section
variable {X:Cx} {g:Gh} {st:Stmt} {rest:List Stmt} {e:Expr} {pos:Pos} {a b:DM} {f:DE}
theorem D9:SSO X g [] i8:=SSO.w b2E fun E σ H hQ=>by
 refine hQ.elim fun fa O s fl s' I e k=>?_
 cases e
 exact k σ H fa O Stp.refl I
theorem A2 (h:SO X g st a):SSO X g [st] a:=⟨a9K h.pe⟩
theorem v3 (h:SO X g st a) (hr:SSO X g rest b):SSO X g (st :: rest) (c7 a b):=SSO.w (a94 h.pe hr.pe) fun E σ H hQ=>by
 refine hQ.elim fun fa O s fl s' I e k=>?_
 refine t9 e fun f1 s1 h1 h2=>?_
 refine ⟨fa,O,s,f1,s1,I,h1,?_⟩
 cases f1 with
 | next=>exact fun σ' H' f1 O1 a1 I1=>⟨f1,O1,s1,fl,s',I1,h2,k.shift a1⟩
 | brk=>cases h2; exact k
 | cont=>cases h2; exact k
 | ret d=>cases h2; exact k
noncomputable def e7 (f:DE):DM:=fun s=>(f s).map fun x=>(.ret x.1,x.2)
theorem A9 (he:EO X g e f):SO X g (.Return (some e) pos) (e7 f):=SO.w (b2n he.pe) fun E σ H hQ=>by
 refine hQ.elim fun fa O s fl s' I q k=>?_
 refine mapP q fun d s1 h1 h2=>?_
 cases h2
 exact ⟨fa,O,s,d,s1,I,h1,fun v H' f1 O1 a1 I1 r=>k σ v H' f1 O1 a1.stp I1 r⟩
noncomputable def i7 (c:DT) (a b:DM):DM:=fun s=>(c s).bind fun x=>if x.1 = true then a x.2 else b x.2
theorem D4 {c:Expr} {fc:DT} {la lb:List Stmt} (hc:TO X g c fc) (ha:SSO X g la a) (hb:SSO X g lb b):SO X g (.If c la lb pos) (i7 fc a b):=SO.w (b2h hc.pe ha.pe hb.pe) fun E σ H hQ=>by
 refine hQ.elim fun fa O s fl s' I e k=>?_
 refine t9 e fun x s1 h1 h=>?_
 refine ⟨fa,O,s,x,s1,I,h1,fun H1 f1 O1 a1 I1=>?_⟩
 cases x with
 | false=>rw [if_neg Bool.false_ne_true] at h ⊢; exact ⟨f1,O1,s1,fl,s',I1,h,k.shift a1.stp⟩
 | true=>rw [if_pos rfl] at h ⊢; exact ⟨f1,O1,s1,fl,s',I1,h,k.shift a1.stp⟩
noncomputable def liftG (K:PySem.W.Frag) (g:Gh) (t:D → DS → Option DS):TG:=fun v σ H Q=>∃ fa O s d s',GI K g σ H fa O s ∧ Rep K (NN g.F fa O) fa H d v ∧ t d s = some s' ∧ ∀ σ' H' fa' O',Stp fa O H fa' O' H' → GI K g σ' H' fa' O' s' → Q σ' H'
noncomputable def liftGs (K:PySem.W.Frag) (g:Gh) (t:List D → DS → Option DS):TGs:=fun vs σ H Q=>∃ fa O s ds s',GI K g σ H fa O s ∧ Reps K (NN g.F fa O) fa H ds vs ∧ t ds s = some s' ∧ ∀ σ' H' fa' O',Stp fa O H fa' O' H' → GI K g σ' H' fa' O' s' → Q σ' H'
section
variable {K:PySem.W.Frag} {g:Gh} {σ:L2.St} {Q:L2.St → Hp → Prop} {H:Hp} {G:Prop}
theorem liftG.elim {t:D → DS → Option DS} {v:V} (h:liftG K g t v σ H Q) (k:∀ fa O s d s',GI K g σ H fa O s → Rep K (NN g.F fa O) fa H d v → t d s = some s' → (∀ σ' H' fa' O',Stp fa O H fa' O' H' → GI K g σ' H' fa' O' s' → Q σ' H') → G):G:=by
 obtain ⟨fa,O,s,d,s',a,r,b,c⟩:=h
 exact k fa O s d s' a r b c
theorem liftGs.elim {t:List D → DS → Option DS} {v:List V} (h:liftGs K g t v σ H Q) (k:∀ fa O s d s',GI K g σ H fa O s → Reps K (NN g.F fa O) fa H d v → t d s = some s' → (∀ σ' H' fa' O',Stp fa O H fa' O' H' → GI K g σ' H' fa' O' s' → Q σ' H') → G):G:=by
 obtain ⟨fa,O,s,d,s',a,r,b,c⟩:=h
 exact k fa O s d s' a r b c
end
structure GO (X:Cx) (g:Gh) (e:Expr) (t:D → DS → Option DS):Prop where
 pe:PG X e (liftG X.K g t)
structure GsO (X:Cx) (g:Gh) (es:List Expr) (t:List D → DS → Option DS):Prop where
 pe:PGs X es (liftGs X.K g t)
noncomputable def c8 (i:Nat) (d:D):DS → Option DS:=fun s=>some { s with sl:=s.sl.set i (.val d) }
theorem PGw {t t':TG} (h:PG X e t) (w:∀ v σ H Q,t' v σ H Q → t v σ H Q):PG X e t':=fun pins s σ H v u Q I r q=>h pins s σ H v u Q I r (w v σ H Q q)
theorem b2p {es:List Expr} {t t':TGs} (h:PGs X es t) (w:∀ v σ H Q,t' v σ H Q → t v σ H Q):PGs X es t':=fun pins s σ H v u Q I r q=>h pins s σ H v u Q I r (w v σ H Q q)
theorem GO.w {f:D → DS → Option DS} {t:TG} (h:PG X e t) (w:∀ v σ H Q,liftG X.K g f v σ H Q → t v σ H Q):GO X g e f:=⟨PGw h w⟩
theorem GsO.w {es:List Expr} {f:List D → DS → Option DS} {t:TGs} (h:PGs X es t) (w:∀ v σ H Q,liftGs X.K g f v σ H Q → t v σ H Q):GsO X g es f:=⟨b2p h w⟩
theorem b1C {i:Nat} {x:Str} (h:PG X (.Name x pos) (K7 i)):GO X g (.Name x pos) (c8 i):=GO.w h fun v σ H Q hQ=>by
 refine hQ.elim fun fa O s d s' I r e k=>?_
 cases e
 obtain ⟨P,sub,I'⟩:=I.put i r
 exact k _ H fa P (a0J sub).stp I'
noncomputable def l3:List D → DS → Option DS
 | [],s=>some s
 | _ :: _,_=>none
noncomputable def j5 (t:D → DS → Option DS) (u:List D → DS → Option DS):List D → DS → Option DS
 | [],_=>none
 | d :: r,s=>(t d s).bind (u r)
theorem b6D:GsO X g [] l3:=GsO.w a3e fun v σ H Q hQ=>by
 refine hQ.elim fun fa O s ds s' I r e k=>?_
 cases ds with
 | nil=>cases e; simp only [Reps] at r; exact ⟨r,k σ H fa O Stp.refl I⟩
 | cons d r'=>cases e
theorem b3T {es:List Expr} {t:D → DS → Option DS} {u:List D → DS → Option DS} (h:GO X g e t) (hr:GsO X g es u) (hs:(assignEach (e :: es) X.env).map (·.2) = assign e X.env :: (assignEach es X.env).map (·.2):=by rfl):GsO X g (e :: es) (j5 t u):=
 GsO.w (a0h h.pe hr.pe hs) fun v σ H Q hQ=>by
  refine hQ.elim fun fa O s ds s' I r e k=>?_
  cases ds with
  | nil=>cases e
  | cons d r'=>
   refine J6 e fun s1 h1 h2=>?_
   simp only [Reps] at r
   obtain ⟨x,ys,rfl,rx,ry⟩:=r
   exact ⟨x,ys,rfl,fa,O,s,d,s1,I,rx,h1,fun σ1 H1 f1 O1 a1 I1=>⟨f1,O1,s1,r',s',I1,Reps.stp I a1 ry,h2,fun σ2 H2 f2 O2 a2 I2=>k σ2 H2 f2 O2 (a1.trans a2) I2⟩⟩
noncomputable def k6 (n:Nat) (u:List D → DS → Option DS) (d:D) (s:DS):Option DS:=match d with
 | .tup ds=>if ds.length = n then u ds s else none
 | _=>none
theorem b07 {es:List Expr} {k:Nat} {n:Nat} {u:List D → DS → Option DS} (hc:X.calm = true) (h:GsO X g es u) (hn:(assignEach es X.env).length = n:=by rfl) (hst:(assignEach es X.env).findIdx? (·.1) = none:=by rfl):GO X g (.Tuple es k pos) (k6 n u):=
 GO.w (a3S hc h.pe hn hst) fun v σ H Q hQ=>by
  refine hQ.elim fun fa O s d s' I r e k=>?_
  cases d with
  | tup ds=>
   simp only [k6] at e
   by_cases hl:ds.length = n
   ·rw [if_pos hl] at e
    simp only [Rep] at r
    obtain ⟨a,xs,rfl,q,w⟩:=r
    exact ⟨a,xs,rfl,q,by rw [w.length]; exact hl,fa,O,s,ds,s',I,w,e,k⟩
   ·rw [if_neg hl] at e; cases e
  | _=>cases e
noncomputable def e8 (f:DE) (t:D → DS → Option DS):DM:=fun s=>(f s).bind fun x=>(t x.1 x.2).map fun s'=>(.next,s')
theorem a7e {f:DE} {t:D → DS → Option DS} (E:Ends) (σ:L2.St) (H:Hp) (h:liftS X.K g (e8 f t) E σ H):a0g (liftE X.K g f) (liftG X.K g t) E σ H:=by
 obtain ⟨fa,O,s,fl,s',I,q,k⟩:=h
 refine t9 q fun d s1 h1 h2=>?_
 refine E7 h2 fun s2 h3 h4=>?_
 cases h4
 exact ⟨fa,O,s,d,s1,I,h1,fun v H1 f1 O1 a1 I1 r=>⟨f1,O1,s1,d,_,I1,r,h3,fun σ2 H2 f2 O2 a2 I2=>k σ2 H2 f2 O2 (a1.stp.trans a2) I2⟩⟩
theorem b3w {tg:Expr} {t:D → DS → Option DS} (he:EO X g e f) (hg:GO X g tg t) (hs:swapsWithSole [tg] e pos.line X.env = pure false:=by rfl) (hw:swappedStores [tg] e X.env = pure none:=by rfl)
  (h1:(assignEach [tg] X.env).map (·.2) = [assign tg X.env]:=by rfl):SO X g (.Assign [tg] e pos) (e8 f t):=SO.w (a6C he.pe hg.pe hs hw h1) a7e
theorem b0s {i:Nat} {x:Str} {pos':Pos} (hN:X.N.Nodup) (hi:X.N[i]? = some x) (hx:Loc X.env.scope x) (he:EO X g e f) (hs:swapsWith e (some (.Name x pos')) pos.line X.env = pure false:=by rfl) (hf:X.fn x = true ∨ X.env.scope.names.lookup x = some .local:=by first | exact .inl rfl | exact .inr rfl | assumption) :
  SO X g (.Assign [.Name x pos'] e pos) (e8 f (c8 i)):=SO.w (a8O hN hi hx he.pe hs hf) fun E σ H h=>by
 obtain ⟨fa,O,s,d,s1,I,h1,k⟩:=a7e E σ H h
 refine ⟨fa,O,s,d,s1,I,h1,fun v H1 f1 O1 a1 I1 r=>?_⟩
 obtain ⟨f2,O2,s2,d2,s3,I2,r2,e2,k2⟩:=k v H1 f1 O1 a1 I1 r
 cases e2
 obtain ⟨P,sub,I'⟩:=I2.put i r2
 exact k2 _ H1 f2 P (a0J sub).stp I'
noncomputable def F5 (i:Nat) (f:DA):DM:=fun s=>(f s).bind fun x=>if i < x.2.sl.length then some (.next,{ x.2 with sl:=x.2.sl.set i (.own x.1) }) else none
theorem a5U {i:Nat} {x:Str} {f:DA} {pos':Pos} (hN:X.N.Nodup) (hi:X.N[i]? = some x) (hx:Loc X.env.scope x) (he:FO X g e f) (hs:swapsWith e (some (.Name x pos')) pos.line X.env = pure false:=by rfl) (hf:X.fn x = true ∨ X.env.scope.names.lookup x = some .local:=by first | exact .inl rfl | exact .inr rfl | assumption) :
  SO X g (.Assign [.Name x pos'] e pos) (F5 i f):=SO.w (a8O hN hi hx he.pe hs hf) fun E σ H hQ=>by
 refine hQ.elim fun fa O s fl s' I q k=>?_
 refine t9 q fun ds s1 h1 h2=>?_
 by_cases hl:i < s1.sl.length
 ·simp only [] at h2
  rw [if_pos hl] at h2
  cases h2
  refine ⟨fa,O,s,ds,s1,I,h1,fun p xs H1 f1 O1 a1 L hp=>?_⟩
  have np:p ∉ O1:=fun z=>by
   obtain ⟨ys,e⟩:=I.owned (a1.sub p z)
   rw [hp] at e; cases e
  obtain ⟨P,sub,I'⟩:=L.put i hl (I.st.mon p hp) np
  refine k _ H1 f1 P ⟨fun b hb=>?_,a1.fe,fun b u e _ n=>a1.same b u e n,a1.mon⟩ I'
  rcases sub b hb with y | y
  ·exact .inr (by rw [y]; exact hp)
  ·exact .inl (a1.sub b y)
 ·simp only [] at h2
  rw [if_neg hl] at h2; cases h2
noncomputable def C5 (i:Nat) (f:DE):DM:=fun s=>match s.sl[i]? with
 | some (.own _)=>(f s).bind fun x=>match x.2.sl[i]? with
  | some (.own ds)=>if ds.length < sizeLine then some (.next,{ x.2 with sl:=x.2.sl.set i (.own (ds ++ [x.1])) }) else none
  | _=>none
 | _=>none
theorem b1T {i:Nat} {x:Str} {p1 p2 p3 p4:Pos} (hv:PE X (.Name x p1) (N5 i)) (he:EO X g e f) (hbase:attributeBase (.Name x p1) ("append" : Str) X.env (eval (.Name x p1) X.env) = eval (.Name x p1) X.env:=by rfl)
  (hfew:((backTo p3 (starEach [e] X.env)).all (fun x=>!x.1) && (backToKw p3 (keywordEach [] X.env)).all (fun x=>x.1.isSome)
   && decide ([e].length + ([]:List Keyword).length + (if ([]:List Keyword).isEmpty then 0 else 1) < 30)) = true:=by rfl)
  (hline:(p2.endLine == p3.line) = true:=by rfl) (hs:starEach [e] X.env = (false,eval e X.env) :: starEach [] X.env:=by rfl) (hplain:(backTo p3 (starEach [] X.env)).any (·.1) = false:=by rfl)
  (hsw:swapsWith (.Call (.Attribute (.Name x p1) ("append" : Str) p2) [e] [] p3) none p4.line X.env = pure false:=by rfl) :
  SO X g (.Expr (.Call (.Attribute (.Name x p1) ("append" : Str) p2) [e] [] p3) p4) (C5 i f):=
 SO.w (b21 (b12 PySem.F.plainAttrs_list PySem.F.slot_list_append PySem.F.type_list_append a5C hv (G9 he.pe N9 hs) hbase hfew hline hs hplain) hsw) fun E σ H hQ=>by
  refine hQ.elim fun fa O s fl s' I q k=>?_
  cases q0:s.sl[i]? with
  | none=>simp only [C5,q0] at q; cases q
  | some z=>
  cases z with
  | no=>simp only [C5,q0] at q; cases q
  | val _=>simp only [C5,q0] at q; cases q
  | own ds0=>
  simp only [C5,q0] at q
  obtain ⟨a,xs0,e1,m,e2,_⟩:=SlR.own I.sl q0
  refine t9 q fun d s1 h1 h2=>?_
  cases q2:s1.sl[i]? with
  | none=>simp only [q2] at h2; cases h2
  | some z=>
   cases z with
   | no=>simp only [q2] at h2; cases h2
   | val _=>simp only [q2] at h2; cases h2
   | own ds=>
    simp only [q2] at h2
    by_cases hl:ds.length < sizeLine
    ·rw [if_pos hl] at h2
     cases h2
     refine ⟨_,e1,.inl ⟨rfl,xs0,SqL.of e2⟩,fa,O,s,d,s1,I,h1,fun v H1 f1 O1 a1 I1 r=>?_⟩
     obtain ⟨b,xs,e3,m1,e4,r1⟩:=SlR.own I1.sl q2
     rw [e1] at e3; cases e3
     obtain ⟨I2,a2⟩:=I1.rew q2 e1 m1 e4 (Reps.append r1 (Reps.one r))
     exact ⟨a,xs,v,rfl,rfl,e4,by rw [r1.length]; exact hl,k σ _ f1 O1 (a1.stp.trans a2) I2⟩
    ·rw [if_neg hl] at h2; cases h2
end
noncomputable def u9 (t:D → DS → Option DS) (b:DM):List D → DS → Option (Fl × DS)
 | [],s=>some (.next,s)
 | d :: r,s=>(t d s).bind fun s1=>(b s1).bind fun x=>match x.1 with
  | .next=>u9 t b r x.2
  | .cont=>u9 t b r x.2
  | .brk=>some (.next,x.2)
  | .ret v=>some (.ret v,x.2)
noncomputable def PvD (K:PySem.W.Frag) (g:Gh) (f1:Option Addr) (O1:List Addr) (H1:Hp) (t:D → DS → Option DS) (b:DM) (ds:List D) (fl:Fl) (sf:DS) (i:Nat):L2.St → Hp → Prop:=fun σ' H'=>
 ∃ fa' O' s',Stp f1 O1 H1 fa' O' H' ∧ GI K g σ' H' fa' O' s' ∧ u9 t b (ds.drop i) s' = some (fl,sf)
section
variable {K:PySem.W.Frag} {g:Gh} {f1:Option Addr} {O1:List Addr} {H1 H':Hp} {t:D → DS → Option DS} {b:DM} {ds:List D} {fl:Fl} {sf:DS} {i:Nat} {E:Ends} {σ':L2.St}
theorem a7z {α:Type} {l:List α} {i:Nat} {d:α} (h:l[i]? = some d):l.drop i = d :: l.drop (i + 1):=by
 obtain ⟨hi,e⟩:=List.getElem?_eq_some_iff.mp h
 rw [List.drop_eq_getElem_cons hi,e]
theorem Y9 (hk:FlK K g E f1 O1 H1 fl sf) {d:D} {x:V} (hd:ds[i]? = some d) (hr:∀ fa' O',Stp f1 O1 H1 fa' O' H' → Rep K (NN g.F fa' O') fa' H' d x) (h:PvD K g f1 O1 H1 t b ds fl sf i σ' H') :
  liftG K g t x σ' H' fun σ2 H2=>liftS K g b { E with nx:=PvD K g f1 O1 H1 t b ds fl sf (i + 1),ct:=PvD K g f1 O1 H1 t b ds fl sf (i + 1),bk:=E.nx } σ2 H2:=by
 obtain ⟨fa',O',s',st,I,e⟩:=h
 rw [a7z hd,u9] at e
 refine J6 e fun s1 h1 h2=>?_
 refine t9 h2 fun fb s2 h3 h4=>?_
 refine ⟨fa',O',s',d,s1,I,hr fa' O' st,h1,fun σ2 H2 f2 O2 a2 I2=>⟨f2,O2,s1,fb,s2,I2,h3,?_⟩⟩
 cases fb with
 | next=>exact fun σ3 H3 f3 O3 a3 I3=>⟨f3,O3,s2,st.trans (a2.trans a3),I3,h4⟩
 | cont=>exact fun σ3 H3 f3 O3 a3 I3=>⟨f3,O3,s2,st.trans (a2.trans a3),I3,h4⟩
 | brk=>cases h4; exact fun σ3 H3 f3 O3 a3 I3=>hk σ3 H3 f3 O3 (st.trans (a2.trans a3)) I3
 | ret v=>cases h4; exact fun σ3 v H3 f3 O3 a3 I3 r=>hk σ3 v H3 f3 O3 (st.trans (a2.trans a3)) I3 r
theorem X4 (hk:FlK K g E f1 O1 H1 fl sf) {n:Nat} (hn:ds.length ≤ n) (h:PvD K g f1 O1 H1 t b ds fl sf n σ' H'):E.nx σ' H':=by
 obtain ⟨fa',O',s',st,I,e⟩:=h
 rw [List.drop_eq_nil_of_le hn,u9] at e
 cases e
 exact hk σ' H' fa' O' st I
end
noncomputable def C0 (f:DE) (t:D → DS → Option DS) (b:DM):DM:=fun s=>(f s).bind fun x=>match x.1 with
 | .lst ds=>u9 t b ds x.2
 | .tup ds=>u9 t b ds x.2
 | _=>none
section
variable {X:Cx} {g:Gh} {tg iter:Expr} {body:List Stmt} {f:DE} {t:D → DS → Option DS} {b:DM} {pos:Pos}
noncomputable def a9h (K:PySem.W.Frag) (tl:TE):TI:=fun σ H R=>tl σ H fun x H1=>∃ a,x = .ref a ∧ (((∃ xs,SqL K H1 a xs) ∧ R (Itl K a) H1) ∨ ((∃ xs,SqT K H1 a xs) ∧ R (Itt K a) H1))
theorem a7s {l:Expr} {tl:TE} (hl:PE X l tl):PI X tg l (a9h X.K tl):=by
 intro pins s σ H R I h
 refine thn (hl pins s σ H _ I h) fun v s1 ⟨x,H1,I1,r1,q1⟩=>?_
 obtain ⟨a,e,q⟩:=q1
 subst e
 cases r1
 rcases q with ⟨⟨xs,hq⟩,q⟩ | ⟨⟨xs,hq⟩,q⟩
 ·obtain ⟨its,rv,p,hz⟩:=I1.list hq
  refine wpAny_pyIter_list p.isList ?_
  refine ⟨s1.heap.objs.size,[s1.heap.objs.size],_,_,H1,rfl,I1.kept (t':=s1.toks) fun b o e=>Heap.get?_push_of_some _ e,b2M a _,⟨_,Heap.get?_push_size _ rfl,rfl,rfl⟩,fun b hb=>?_,q⟩
  have e:b = s1.heap.objs.size:=by simpa using hb
  subst e
  exact I1.fpOk (Nat.le_refl _) (I1.hok.fresh (Nat.le_refl _))
 ·obtain ⟨its,rv,p,hz⟩:=I1.tuple hq
  refine wpAny_pyIter_tuple (show s1.heap.IsTuple a its.toArray from p) ?_
  refine ⟨s1.heap.objs.size,[s1.heap.objs.size],_,_,H1,rfl,I1.kept (t':=s1.toks) fun b o e=>Heap.get?_push_of_some _ e,b3R a _,⟨_,Heap.get?_push_size _ rfl,rfl,rfl⟩,fun b hb=>?_,q⟩
  have e:b = s1.heap.objs.size:=by simpa using hb
  subst e
  exact I1.fpOk (Nat.le_refl _) (I1.hok.fresh (Nat.le_refl _))
theorem b55 (hp:PassesOwn (model X.prog X.w) X.A X.env X.xe) (hc:X.calm = true) (he:EO X g iter f) (hg:GO X g tg t) (hb:SSO X g body b) (hs:∀ x,foldedSetIterable iter X.env x = pure x:=by intro _; rfl) :
  SO X g (.For tg iter body [] pos) (C0 f t b):=SO.w (a00 hp hc (a7s he.pe) hg.pe hb.pe hs) fun E σ H hQ=>by
 refine hQ.elim fun fa O s fl sf I q k=>?_
 refine t9 q fun d s1 h1 h2=>?_
 refine ⟨fa,O,s,d,s1,I,h1,fun v H1 f1 O1 a1 I1 r=>?_⟩
 have k1:=k.shift a1.stp
 cases d with
 | lst ds=>
  simp only [Rep] at r
  obtain ⟨a,xs,rfl,na,q,w⟩:=r
  refine ⟨a,rfl,.inl ⟨⟨xs,SqL.of q⟩,b3r (xs:=xs) (PvD X.K g f1 O1 H1 t b ds fl sf) ⟨f1,O1,s1,Stp.refl,I1,h2⟩ ?_ ?_ ?_⟩⟩
  ·rintro i σ' H' _ ⟨fa',O',s',st,I',e⟩
   exact SqL.of ((I1.car st).ls a xs na q).1
  ·intro i x σ' H' hx h
   obtain ⟨d,hd,rd⟩:=Reps.get' w hx
   exact Y9 k1 hd (fun fa' O' st=>Rep.stp I1 st rd) h
  ·intro σ' H' h
   exact X4 k1 (Nat.le_of_eq w.length.symm) h
 | tup ds=>
  simp only [Rep] at r
  obtain ⟨a,xs,rfl,q,w⟩:=r
  refine ⟨a,rfl,.inr ⟨⟨xs,q⟩,S8 (xs:=xs) (PvD X.K g f1 O1 H1 t b ds fl sf) ⟨f1,O1,s1,Stp.refl,I1,h2⟩ ?_ ?_ ?_⟩⟩
  ·rintro i σ' H' _ ⟨fa',O',s',st,I',e⟩
   exact (I1.car st).tp a xs q
  ·intro i x σ' H' hx h
   obtain ⟨d,hd,rd⟩:=Reps.get' w hx
   exact Y9 k1 hd (fun fa' O' st=>Rep.stp I1 st rd) h
  ·intro σ' H' h
   exact X4 k1 (Nat.le_of_eq w.length.symm) h
 | _=>cases h2
noncomputable def ups (lo:Int) (n:Nat):List D:=(List.range n).map fun (i:Nat)=>D.int (lo + (i:Int))
theorem a1R {lo:Int} {n i:Nat} (h:i < n):(ups lo n)[i]? = some (.int (lo + (i:Int))):=by simp [ups,h]
theorem X0 (lo:Int) (n:Nat):(ups lo n).length = n:=by simp [ups]
noncomputable def G2:List D → Option (List D)
 | [.int j]=>if -(2 ^ 62) ≤ j ∧ j < 2 ^ 62 then some (ups 0 j.toNat) else none
 | [.int i,.int j]=>if -(2 ^ 62) ≤ i ∧ i < 2 ^ 62 ∧ -(2 ^ 62) ≤ j ∧ j < 2 ^ 62 then some (ups i (j - i).toNat) else none
 | _=>none
noncomputable def P1 (f:DA) (t:D → DS → Option DS) (b:DM):DM:=fun s=>(f s).bind fun x=>(G2 x.1).bind fun ds=>u9 t b ds x.2
theorem a7c {ds es:List D} {a:D} (h:G2 ds = some es) (l:ds = [a]):∃ j:Int,a = .int j ∧ -(2 ^ 62) ≤ j ∧ j < 2 ^ 62 ∧ es = ups 0 j.toNat:=by
 subst l
 cases a with
 | int j=>
  have h:(if -(2 ^ 62) ≤ j ∧ j < 2 ^ 62 then some (ups 0 j.toNat) else none) = some es:=h
  by_cases hj:-(2 ^ 62) ≤ j ∧ j < 2 ^ 62
  ·rw [if_pos hj] at h; cases h; exact ⟨j,rfl,hj.1,hj.2,rfl⟩
  ·rw [if_neg hj] at h; cases h
 | _=>cases h
theorem a3s {a:Expr} {fa:DE} {p cpos:Pos} (hp:PassesOwn (model X.prog X.w) X.A X.env X.xe) (hc:X.calm = true) (hgl:Gl X "range") (hm:X.mg "range" = none) (ha:EO X g a fa) (hg:GO X g tg t) (hb:SSO X g body b)
  (hs1:starEach [a] X.env = [(false,eval a X.env)]:=by rfl) (hs:∀ x,foldedSetIterable (.Call (.Name "range" p) [a] [] cpos) X.env x = pure x:=by intro _; rfl) :
  SO X g (.For tg (.Call (.Name "range" p) [a] [] cpos) body [] pos) (P1 (a7 fa a9) t b):=
 SO.w (a00 hp hc (a6Y hgl hm (a4r ha a19 hs1).pe hs1) hg.pe hb.pe hs) fun E σ H hQ=>by
  refine hQ.elim fun fa O s fl sf I q k=>?_
  refine t9 q fun ds s1 h1 h2=>?_
  refine J6 h2 fun es h3 h4=>?_
  obtain ⟨d,s2,rs,e1,e2,e3⟩:=a0j h1
  cases e2
  obtain ⟨j,rfl,j1,j2,rfl⟩:=a7c h3 e3
  refine ⟨fa,O,s,ds,s1,I,h1,fun vs H1 f1 O1 a1 I1 r=>?_⟩
  have k1:=k.shift a1.stp
  rw [e3] at r
  simp only [Reps,Rep] at r
  obtain ⟨x,ys,rfl,rfl,rfl⟩:=r
  refine ⟨j,rfl,j1,j2,a9t (lo:=0) (n:=j.toNat) (PvD X.K g f1 O1 H1 t b (ups 0 j.toNat) fl sf) ⟨f1,O1,s1,Stp.refl,I1,h4⟩ ?_ ?_⟩
  ·intro i σ' H' hi h
   exact Y9 k1 (a1R hi) (fun fa' O' st=>by simp only [Rep]) h
  ·intro σ' H' h
   exact X4 k1 (by rw [X0]; exact Nat.le_refl _) h
noncomputable def whN (c:DT) (b:DM):Nat → DS → Option (Fl × DS)
 | 0,_=>none
 | n + 1,s=>(c s).bind fun x=>if x.1 = true then (b x.2).bind fun y=>match y.1 with
   | .next=>whN c b n y.2
   | .cont=>whN c b n y.2
   | .brk=>some (.next,y.2)
   | .ret v=>some (.ret v,y.2)
  else some (.next,x.2)
open Classical in
noncomputable def F9 (c:DT) (b:DM):DM:=fun s=>if h:∃ n r,whN c b n s = some r then whN c b h.choose s else none
theorem a2A {c:DT} {b:DM}:∀ (n:Nat) {s:DS} {r:Fl × DS},whN c b n s = some r → whN c b (n + 1) s = some r
 | 0,s,r,h=>by cases h
 | n + 1,s,r,h=>by
  rw [whN] at h ⊢
  refine t9 h fun x s1 h1 h2=>?_
  refine Option.bind_eq_some_iff.mpr ⟨(x,s1),h1,?_⟩
  cases x with
  | false=>exact h2
  | true=>
   simp only [if_true] at h2 ⊢
   refine t9 h2 fun y s2 h3 h4=>?_
   refine Option.bind_eq_some_iff.mpr ⟨(y,s2),h3,?_⟩
   cases y with
   | next=>exact a2A n h4
   | cont=>exact a2A n h4
   | brk=>exact h4
   | ret v=>exact h4
theorem a62 {c:DT} {b:DM} {n m:Nat} (hnm:n ≤ m) {s:DS} {r:Fl × DS} (h:whN c b n s = some r):whN c b m s = some r:=by
 induction hnm with
 | refl=>exact h
 | step _ ih=>exact a2A _ ih
theorem a6d {c:DT} {b:DM} {n:Nat} {s:DS} {r:Fl × DS} (h:whN c b n s = some r):F9 c b s = some r:=by
 have hx:∃ n r,whN c b n s = some r:=⟨n,r,h⟩
 unfold F9
 rw [dif_pos hx]
 obtain ⟨r',h'⟩:=hx.choose_spec
 have e1:=a62 (Nat.le_max_left n hx.choose) h
 have e2:=a62 (Nat.le_max_right n hx.choose) h'
 rw [e1] at e2
 rw [h',e2]
theorem a8L {c:DT} {b:DM} {s:DS} {r:Fl × DS} (h:F9 c b s = some r):∃ n,whN c b n s = some r:=by
 unfold F9 at h
 by_cases hx:∃ n r,whN c b n s = some r
 ·rw [dif_pos hx] at h; exact ⟨_,h⟩
 ·rw [dif_neg hx] at h; cases h
theorem a7g {c:DT} {b:DM} {s s1 s2:DS} {r:Fl × DS} (h1:c s = some (true,s1)) (h2:b s1 = some (.next,s2)) (h3:F9 c b s2 = some r):F9 c b s = some r:=by
 obtain ⟨n,h⟩:=a8L h3
 refine a6d (n:=n + 1) ?_
 rw [whN,h1]
 simp only [Option.bind_some,if_true,h2]
 exact h
theorem a7f {c:DT} {b:DM} {s s1:DS} (h1:c s = some (false,s1)):F9 c b s = some (.next,s1):=by
 refine a6d (n:=1) ?_
 rw [whN,h1]
 simp
theorem b3f {c:Expr} {fc:DT} (hp:PassesOwn (model X.prog X.w) X.A X.env X.xe) (hc:TO X g c fc) (hb:SSO X g body b):SO X g (.While c body [] pos) (F9 fc b):=SO.w (b2O hp hc.pe hb.pe) fun E σ H hQ=>by
 refine hQ.elim fun fa O s fl sf I q k=>?_
 obtain ⟨n,h⟩:=a8L q
 refine ⟨fun m σ' H'=>∃ fa' O' s',Stp fa O H fa' O' H' ∧ GI X.K g σ' H' fa' O' s' ∧ whN fc b m s' = some (fl,sf),⟨n,fa,O,s,Stp.refl,I,h⟩,?_⟩
 rintro m σ1 H1 ⟨f1,O1,s1,a1,I1,h1⟩
 cases m with
 | zero=>cases h1
 | succ m=>
  rw [whN] at h1
  refine t9 h1 fun x s2 h2 h3=>?_
  refine ⟨f1,O1,s1,x,s2,I1,h2,fun H2 f2 O2 a2 I2=>?_⟩
  cases x with
  | false=>rw [if_neg Bool.false_ne_true] at h3 ⊢; cases h3; exact k σ1 H2 f2 O2 (a1.trans a2.stp) I2
  | true=>
   rw [if_pos rfl] at h3 ⊢
   refine t9 h3 fun y s3 h4 h5=>?_
   refine ⟨fun σ' H'=>∃ fa' O' s',Stp fa O H fa' O' H' ∧ GI X.K g σ' H' fa' O' s' ∧ whN fc b m s' = some (fl,sf),fun σ' H' z=>⟨m,Nat.lt_succ_self m,z⟩,f2,O2,s2,y,s3,I2,h4,?_⟩
   have a12:=a1.trans a2.stp
   cases y with
   | next=>exact fun σ3 H3 f3 O3 a3 I3=>⟨f3,O3,s3,a12.trans a3,I3,h5⟩
   | cont=>exact fun σ3 H3 f3 O3 a3 I3=>⟨f3,O3,s3,a12.trans a3,I3,h5⟩
   | brk=>cases h5; exact fun σ3 H3 f3 O3 a3 I3=>k σ3 H3 f3 O3 (a12.trans a3) I3
   | ret v=>cases h5; exact fun σ3 v H3 f3 O3 a3 I3 r=>k σ3 v H3 f3 O3 (a12.trans a3) I3 r
end
noncomputable abbrev DFn:=List D → Option FS → Option (D × Option FS)
noncomputable def spD (K:PySem.W.Frag) (n:Nat) (m:DFn):Sp:=fun vs H Q _=>∃ (F:Addr → Prop) (fa:Option Addr) (ds:List D) (fs:Option FS) (d:D) (fs':Option FS),
 (∀ b,F b → H b ≠ none) ∧ (∀ a,fa = some a → F a) ∧ Reps K F fa H ds vs ∧ FeedR F H fa fs ∧ m ds fs = some (d,fs') ∧ ds.length = n ∧
  ∀ v H' fa',Stp fa [] H fa' [] H' → FeedR (fun b=>F b ∨ fa' = some b) H' fa' fs' → Rep K (fun b=>F b ∨ fa' = some b) fa' H' d v → Q v H'
noncomputable abbrev FnD (P:Program) (w:World) (K:PySem.W.Frag) (mg:Str → Option Value) (base:Heap) (k:Nat) (f:Addr) (fd:FuncData) (ps:List Str) (m:DFn):Prop:=FnOk P w K mg base CX0 k f fd ps (spD K ps.length m)
noncomputable def mFn (n:Nat) (b:DM):DFn:=fun ds fs=>(b ⟨ds.map .val ++ List.replicate (n - ds.length) .no,fs⟩).bind fun x=>match x.1 with
 | .ret d=>some (d,x.2.fs)
 | .next=>some (.non,x.2.fs)
 | _=>none
theorem a44 {K:PySem.W.Frag} {N:Addr → Prop} {fa:Option Addr} {H:Hp}:∀ n:Nat,SlR K N fa H (List.replicate n .no) (List.replicate n none) []
 | 0=>by simp [SlR]
 | n + 1=>by
  simp only [List.replicate_succ,SlR]
  exact ⟨_,_,rfl,a44 n⟩
theorem a6N {K:PySem.W.Frag} {N:Addr → Prop} {fa:Option Addr} {H:Hp} {n:Nat}:∀ {ds:List D} {vs:List V},Reps K N fa H ds vs → SlR K N fa H (ds.map .val ++ List.replicate n .no) (vs.map some ++ List.replicate n none) []
 | [],vs,h=>by simp only [Reps] at h; subst h; simpa using a44 n
 | d :: r,vs,h=>by
  simp only [Reps] at h
  obtain ⟨x,ys,rfl,h1,h2⟩:=h
  simp only [List.map_cons,List.cons_append,SlR]
  exact ⟨x,_,rfl,h1,a6N h2⟩
section
variable {P:Program} {w:World} {K:PySem.W.Frag} {mg:Str → Option Value} {base:Heap}
theorem a7v {x qual:Str} {st:Stmt} {f:Addr} {fd:FuncData} {N ps:List Str} {k:Nat} {b:DM} (F:Fun K x qual st f fd) (S:FnScope N ps (k9 st))
  (hbody:∀ (cdv:Value) (A:Around) (outer:List Env) (s:Shared) (H:Hp) (E:XK) (g:Gh),Room k (A.deeper (PyProof.Rows.envOfC qual (k9 st) s.heap.objs.size f cdv)) → SSO (N7 CX0 P w K mg base N qual (k9 st) f cdv A outer s H E).nox g (J3 st) b) :
  FnD P w K mg base (k + 1) f fd ps (mFn N.length b):=by
 refine F.ok S (fun vs H Q E h=>?_) (fun cdv A outer s H vs Q E hr h=>?_)
 ·obtain ⟨F,fa,ds,fs,d,fs',_,_,r,_,_,hl,_⟩:=h
  rw [r.length]; exact hl
 obtain ⟨F,fa,ds,fs,d,fs',tr,ff,r,fd,e,hl,q⟩:=h
 refine ⟨_,(hbody cdv A outer s H E ⟨F,H,fa⟩ hr).pe,?_⟩
 refine t9 e fun fl s' h1 h2=>?_
 have hN:∀ b,NN F fa [] b → F b:=fun b z=>by
  rcases z with z | z | z
  ·exact z
  ·cases z
  ·exact ff b z
 have c:Car K F fa H (NN F fa []) fa H:=⟨fun b xs n q=>⟨q,fun z=>n (hN b z)⟩,fun _ _ q=>q,fun _ _ q=>q,fun _ q=>q⟩
 have el:(L2.start N vs) = vs.map some ++ List.replicate (N.length - ds.length) none:=by rw [L2.start,r.length]
 have I:GI K ⟨F,H,fa⟩ (L2.start N vs) H fa [] ⟨ds.map .val ++ List.replicate (N.length - ds.length) .no,fs⟩:=by
  refine ⟨List.nodup_nil,?_,fun b hb=>(by cases hb),Stp.refl,tr,ff,fd.car c fun _ _=>rfl,fun _ _ z=>(by cases z)⟩
  rw [el]
  exact a6N (Reps.go c ds vs r)
 have fin:∀ {fa':Option Addr} {O':List Addr} {H':Hp} {σ':L2.St} {v:V} {dd:D},Stp fa [] H fa' O' H' → GI K ⟨F,H,fa⟩ σ' H' fa' O' s' → Rep K (NN F fa' O') fa' H' dd v → dd = d → s'.fs = fs' → Q v H':=by
  intro fa' O' H' σ' v dd a1 I1 r1 e1 e2
  subst e1; subst e2
  have c1:Car K (NN F fa' O') fa' H' (fun b=>F b ∨ fa' = some b) fa' H':=⟨fun b xs n q=>⟨q,fun z=>n (by
   rcases z with z | z
   ·exact .inl z
   ·exact .inr (.inr z))⟩,fun _ _ q=>q,fun _ _ q=>q,fun _ q=>q⟩
  exact q v H' fa' ⟨fun b hb=>(by cases hb),a1.fe,a1.same,a1.mon⟩ (I1.fd.car c1 fun _ _=>rfl) (Rep.go c1 _ _ r1)
 refine ⟨fa,[],_,fl,s',I,h1,?_⟩
 cases fl with
 | next=>
  simp only [Option.some.injEq,Prod.mk.injEq] at h2
  exact fun σ' H' fa' O' a1 I1=>fin a1 I1 (v:=.non) (dd:=.non) (by simp only [Rep]) h2.1 h2.2
 | ret dd=>
  simp only [Option.some.injEq,Prod.mk.injEq] at h2
  exact fun σ' v H' fa' O' a1 I1 r1=>fin a1 I1 r1 h2.1 h2.2
 | brk=>cases h2
 | cont=>cases h2
end
noncomputable def e5 (m:DFn) (f:DA):DE:=fun s=>(f s).bind fun x=>(m x.1 x.2.fs).map fun y=>(y.1,{ x.2 with fs:=y.2 })
section
variable {X:Cx} {g:Gh} {k:Nat} {f:Addr} {fd:FuncData} {ps:List Str} {m:DFn} {x:Str} {p pos:Pos} {e:Expr} {es:List Expr} {t:DA}
theorem a9L {n:Nat} (hn:∀ s ds s',t s = some (ds,s') → ds.length = n) (σ:L2.St) (H:Hp) (Q:VK) (h:liftE X.K g (e5 m t) σ H Q):a7q (spD X.K n m) [] E0 (liftA X.K g t) σ H Q:=by
 obtain ⟨fa,O,s,d,s',I,q,k⟩:=h
 refine t9 q fun ds s1 h1 h2=>?_
 refine mapP h2 fun d1 fs1 h3 h4=>?_
 simp only [Prod.mk.injEq] at h4
 obtain ⟨e1,e2⟩:=h4
 subst e1; subst e2
 refine ⟨fa,O,s,ds,s1,I,h1,fun vs H1 f1 O1 a1 I1 r=>?_⟩
 show spD X.K n m (vs ++ []) H1 Q E0
 rw [List.append_nil]
 refine ⟨NN g.F f1 O1,f1,ds,s1.fs,d1,fs1,fun b hb=>I1.nn_tracked hb,fun a ha=>.inr (.inr ha),r,I1.fd,h3,hn s ds s1 h1,fun v H2 f2 a2 fd2 r2=>?_⟩
 have a3:StE f1 O1 H1 f2 O1 H2:=⟨fun b hb=>hb,a2.fe,fun b u e n=>a2.same b u e (by simp) n,a2.mon⟩
 have c:=I1.car a3.stp
 have c2:Car X.K (fun b=>NN g.F f1 O1 b ∨ f2 = some b) f2 H2 (NN g.F f2 O1) f2 H2:=⟨fun b xs n q=>⟨q,fun z=>n (by
   rcases z with z | z | z
   ·exact .inl (.inl z)
   ·exact .inl (.inr (.inl z))
   ·exact .inr z)⟩,fun _ _ q=>q,fun _ _ q=>q,fun _ q=>q⟩
 refine k v H2 f2 O1 (a1.trans a3) ⟨I1.nd,SlR.go c (fun b xs hb e=>?_) I1.sl,I1.fr,I1.st.trans ⟨fun b hb=>(by cases hb),a2.fe,fun b u e n z=>a2.same b u e n z,a2.mon⟩,I1.tr,I1.ff,fd2.car c2 fun _ _=>rfl,I1.nf_step a3.fe⟩ (Rep.go c2 _ _ r2)
 exact a3.same b _ e fun z=>I1.nf b z hb
theorem b04 (F:FnD X.prog X.w X.K X.mg X.base k f fd ps m) (hr:Room k X.A) (hg:Gl X x) (hm:X.mg x = some (.ref f)) (hk:PySem.W.keepIn X.K (.ref f) = true) (hb:Binds X.K fd ps [])
  (ha:AO X g (e :: es) t) (hn:∀ s ds s',t s = some (ds,s') → ds.length = ps.length) (hdb:(x == ("__debug__" : Str)) = false:=by decide) (he:starEach (e :: es) X.env = (false,eval e X.env) :: starEach es X.env:=by rfl) (hpl:(backTo pos (starEach es X.env)).any (·.1) = false:=by rfl) :
  EO X g (.Call (.Name x p) (e :: es) [] pos) (e5 m t):=EO.w (a96 F hr hg hm hk hb .nil b1K ha.pe hdb he hpl) (a9L hn)
theorem b5l:∀ s ds s',a9 s = some (ds,s') → ds.length = 0:=fun s ds s' h=>by cases h; rfl
theorem b5I {a:DE} {r:DA} {n:Nat} (h:∀ s ds s',r s = some (ds,s') → ds.length = n):∀ s ds s',a7 a r s = some (ds,s') → ds.length = n + 1:=fun s ds s' q=>by
 obtain ⟨d,s1,es,h1,h2,h3⟩:=a0j q
 subst h3
 simp [h _ _ _ h2]
end
noncomputable def ItD (K:PySem.W.Frag) (N:Addr → Prop) (fa:Option Addr) (H1:Hp) (J:It) (ds:List D):Prop:=∀ N' fa' H',Car K N fa H1 N' fa' H' → (∀ b u,H1 b = some u → fa ≠ some b → H' b = some u) → ∀ i:Nat,
 (∀ d,ds[i]? = some d → J.go i H' ∧ ∀ x H'',J.yld i H' x H'' → H'' = H' ∧ Rep K N' fa' H' d x) ∧ (ds.length ≤ i → J.stop i H')
noncomputable def liftI (K:PySem.W.Frag) (g:Gh) (f:DA):TI:=fun σ H R=>∃ fa O s ds s',GI K g σ H fa O s ∧ f s = some (ds,s') ∧ ds.length ≤ sizeLine ∧
 ∀ J H' fa' O',StE fa O H fa' O' H' → GI K g σ H' fa' O' s' → ItD K (NN g.F fa' O') fa' H' J ds → R J H'
section
variable {K:PySem.W.Frag} {g:Gh} {σ:L2.St} {H:Hp} {G:Prop}
theorem liftI.elim {f:DA} {R:It → Hp → Prop} (h:liftI K g f σ H R) (k:∀ fa O s ds s',GI K g σ H fa O s → f s = some (ds,s') → ds.length ≤ sizeLine → (∀ J H' fa' O',StE fa O H fa' O' H' → GI K g σ H' fa' O' s' → ItD K (NN g.F fa' O') fa' H' J ds → R J H') → G):G:=by
 obtain ⟨fa,O,s,d,s',a,r,b,c⟩:=h
 exact k fa O s d s' a r b c
end
structure IO (X:Cx) (g:Gh) (tg iter:Expr) (f:DA):Prop where
 pe:PI X tg iter (liftI X.K g f)
noncomputable def B1 (f:DE):DA:=fun s=>(f s).bind fun x=>match x.1 with
 | .lst ds=>some (ds,x.2)
 | .tup ds=>some (ds,x.2)
 | _=>none
noncomputable def N8 (f:DA):DA:=fun s=>(f s).bind fun x=>(G2 x.1).map fun ds=>(ds,x.2)
section
variable {X:Cx} {g:Gh} {tg iter:Expr} {f:DE}
theorem PIw {t t':TI} (h:PI X tg iter t) (w:∀ σ H R,t' σ H R → t σ H R):PI X tg iter t':=fun pins s σ H R I q=>h pins s σ H R I (w σ H R q)
theorem IO.w {f:DA} {t:TI} (h:PI X tg iter t) (w:∀ σ H R,liftI X.K g f σ H R → t σ H R):IO X g tg iter f:=⟨PIw h w⟩
theorem T9 (h:EO X g iter f):IO X g tg iter (B1 f):=IO.w (a7s h.pe) fun σ H R hQ=>by
 refine hQ.elim fun fa O s ds s' I e hz k=>?_
 refine t9 e fun d s1 h1 h2=>?_
 refine ⟨fa,O,s,d,s1,I,h1,fun v H1 f1 O1 a1 I1 r=>?_⟩
 cases d with
 | lst es=>
  cases h2
  simp only [Rep] at r
  obtain ⟨a,xs,rfl,na,q,w⟩:=r
  refine ⟨a,rfl,.inl ⟨⟨xs,SqL.of q⟩,k _ H1 f1 O1 a1 I1 fun N' fa' H' c _ i=>⟨fun d hd=>?_,fun hl=>?_⟩⟩⟩
  ·obtain ⟨x,hx,rx⟩:=Reps.get w hd
   have q':=(c.ls a xs na q).1
   refine ⟨⟨xs,x,SqL.of q',hx⟩,fun y H'' hy=>?_⟩
   obtain ⟨e1,e2⟩:=hy
   have:=e2 xs (SqL.of q')
   rw [hx] at this; cases this
   exact ⟨e1,Rep.go c d x rx⟩
  ·exact ⟨xs,SqL.of (c.ls a xs na q).1,by rw [w.length]; exact hl⟩
 | tup es=>
  cases h2
  simp only [Rep] at r
  obtain ⟨a,xs,rfl,q,w⟩:=r
  refine ⟨a,rfl,.inr ⟨⟨xs,q⟩,k _ H1 f1 O1 a1 I1 fun N' fa' H' c _ i=>⟨fun d hd=>?_,fun hl=>?_⟩⟩⟩
  ·obtain ⟨x,hx,rx⟩:=Reps.get w hd
   have q':=c.tp a xs q
   refine ⟨⟨xs,x,q',hx⟩,fun y H'' hy=>?_⟩
   obtain ⟨e1,e2⟩:=hy
   have:=e2 xs q'
   rw [hx] at this; cases this
   exact ⟨e1,Rep.go c d x rx⟩
  ·exact ⟨xs,c.tp a xs q,by rw [w.length]; exact hl⟩
 | _=>cases h2
theorem b0B {K:PySem.W.Frag} {N:Addr → Prop} {fa:Option Addr} {H1:Hp} (lo:Int) (n:Nat):ItD K N fa H1 (Itr lo n) (ups lo n):=fun N' fa' H' c _ i=>⟨fun d hd=>by
 have hi:i < n:=by have:=(List.getElem?_eq_some_iff.mp hd).1; rwa [X0] at this
 rw [a1R hi] at hd
 cases hd
 refine ⟨hi,fun x H'' hy=>?_⟩
 obtain ⟨e1,e2⟩:=hy
 subst e2
 exact ⟨e1,by simp only [Rep]⟩,fun hl=>by rw [X0] at hl; exact hl⟩
theorem a4L {a:Expr} {fa:DE} {p cpos:Pos} (hgl:Gl X "range") (hm:X.mg "range" = none) (ha:EO X g a fa) (hs1:starEach [a] X.env = [(false,eval a X.env)]:=by rfl) :
  IO X g tg (.Call (.Name "range" p) [a] [] cpos) (N8 (a7 fa a9)):=IO.w (a6Y hgl hm (a4r ha a19 hs1).pe hs1) fun σ H R hQ=>by
 refine hQ.elim fun fa O s es s' I q hz k=>?_
 refine t9 q fun ds s1 h1 h2=>?_
 refine E7 h2 fun es' h3 h4=>?_
 cases h4
 obtain ⟨d,s2,rs,e1,e2,e3⟩:=a0j h1
 cases e2
 obtain ⟨j,rfl,j1,j2,rfl⟩:=a7c h3 e3
 refine ⟨fa,O,s,ds,_,I,h1,fun vs H1 f1 O1 a1 I1 r=>?_⟩
 rw [e3] at r
 simp only [Reps,Rep] at r
 obtain ⟨x,ys,rfl,rfl,rfl⟩:=r
 exact ⟨j,rfl,j1,j2,k _ H1 f1 O1 a1 I1 (b0B 0 j.toNat)⟩
end
noncomputable def V8 (sl:List Sl) (i:Nat):Sl:=match sl[i]? with
 | some (Sl.val d)=>Sl.val d
 | _=>Sl.no
noncomputable def E4 (idx:List Nat) (sl:List Sl):List Sl:=idx.map (V8 sl)
noncomputable def v8 (mk:D → Option (List Sl)) (fc:DT) (fe:DE):List D → Option FS → Option (List D × Option FS)
 | [],fs=>some ([],fs)
 | d :: r,fs=>(mk d).bind fun sl=>(fc ⟨sl,fs⟩).bind fun c=>if c.1 = true then (fe c.2).bind fun y=>(v8 mk fc fe r y.2.fs).map fun z=>(y.1 :: z.1,z.2) else v8 mk fc fe r c.2.fs
noncomputable def A6 (idx:List Nat) (fi:DA) (fc:DT) (fe:DE):DA:=fun s=>(fi s).bind fun x=>if x.1.length ≤ sizeLine then (v8 (fun d=>some (.val d :: E4 idx x.2.sl)) fc fe x.1 x.2.fs).map fun y=>(y.1,{ x.2 with fs:=y.2 }) else none
noncomputable def FF (g:Gh) (fa:Option Addr) (O:List Addr) (p:Addr):Addr → Prop:=fun b=>NN g.F fa O b ∨ b = p
structure CI (K:PySem.W.Frag) (g:Gh) (f1:Option Addr) (O1:List Addr) (Hd:Hp) (p:Addr) (fa:Option Addr) (H:Hp) (ys:List V) (res:List D) (fs:Option FS):Prop where
 st:Stp f1 [p] Hd fa [p] H
 ls:H p = some (.lst ys)
 rs:Reps K (FF g fa O1 p) fa H res ys
 fd:FeedR (FF g fa O1 p) H fa fs
 nf:fa ≠ some p
section
variable {K:PySem.W.Frag} {g:Gh} {f1 fa fa':Option Addr} {O1:List Addr} {Hd H H':Hp} {p:Addr} {ys:List V} {res:List D} {fs:Option FS}
theorem CI.nofa (c:CI K g f1 O1 Hd p fa H ys res fs):fa ≠ some p:=c.nf
theorem b0F (h0:∀ xs,fa ≠ none → ∀ a,fa = some a → ¬ Rd H a (.tup xs)) (hfz:∀ a,fa = some a → ∀ o u,¬ H a = some (.frz o u)) (a:StE fa [] H fa' [] H'):Car K (FF g fa O1 p) fa H (FF g fa' O1 p) fa' H':=by
 refine ⟨fun b xs n q=>⟨a.same b _ q fun z=>n (.inl (.inr (.inr z))),fun z=>?_⟩,fun b xs q=>?_,fun b xs q=>?_,fun x e=>a.stp.fa_keep e⟩
 ·rcases z with (z | z | z) | z
  ·exact n (.inl (.inl z))
  ·exact n (.inl (.inr (.inl z)))
  ·rcases a.fe with e | ⟨e,h⟩
   ·exact n (.inl (.inr (.inr (e ▸ z))))
   ·rw [h b z] at q; cases q
  ·exact n (.inr z)
 ·refine SqT.stp' a.stp (fun x e ys=>h0 ys (by rw [e]; simp) x e) (fun x hx=>by cases hx) q
 ·rcases q with ⟨o,q⟩ | q
  ·exact .inl ⟨o,a.same _ _ q fun z=>hfz b z _ _ q⟩
  ·exact .inr q
theorem b3U {N:Addr → Prop} (h:FeedR N H fa fs):∀ xs,fa ≠ none → ∀ a,fa = some a → ¬ Rd H a (.tup xs):=fun xs _ a e z=>h.no_tup e z
theorem CI.step (c:CI K g f1 O1 Hd p fa H ys res fs) (a:StE fa [] H fa' [] H') {g':Gh} {σ:L2.St} {s':DS} (hF:∀ b,FF g fa' O1 p b → NN g'.F fa' [] b) (I:GI K g' σ H' fa' [] s'):CI K g f1 O1 Hd p fa' H' ys res s'.fs:=by
 have cr:Car K (FF g fa O1 p) fa H (FF g fa' O1 p) fa' H':=b0F (b3U c.fd) (fun x e o u=>c.fd.no_frz e) a
 refine ⟨c.st.trans ⟨fun b hb=>.inl hb,a.fe,fun b u e _ n=>a.same b u e n,a.mon⟩,a.same p _ c.ls c.nofa,Reps.go cr _ _ c.rs,I.fd.car (K:=K) ⟨fun b xs n q=>⟨q,fun z=>n (hF b z)⟩,fun _ _ q=>q,fun _ _ q=>q,fun _ q=>q⟩ fun _ _=>rfl,fun z=>?_⟩
 rcases a.fe with y | ⟨_,y⟩
 ·rw [y] at z; exact c.nf z
 ·have:=c.ls; rw [y p z] at this; cases this
theorem CI.app (c:CI K g f1 O1 Hd p fa H ys res fs) {N:Addr → Prop} {d:D} {v:V} (hF:∀ b,FF g fa O1 p b → N b) (r:Rep K N fa H d v):CI K g f1 O1 Hd p fa (upd H p (.lst (ys ++ [v]))) (ys ++ [v]) (res ++ [d]) fs:=by
 have cr:Car K (FF g fa O1 p) fa H (FF g fa O1 p) fa (upd H p (.lst (ys ++ [v]))):=by
  refine ⟨fun b xs n q=>⟨by rw [m9 (fun z=>n (.inr z))]; exact q,n⟩,fun b xs q=>?_,fun b xs q=>?_,fun _ q=>q⟩
  ·rcases q with (q | ⟨o,q⟩) | q
   ·exact .inl (.inl (by rw [m9 (fun z=>by rw [z,c.ls] at q; cases q)]; exact q))
   ·exact .inl (.inr ⟨o,by rw [m9 (fun z=>by rw [z,c.ls] at q; cases q)]; exact q⟩)
   ·exact .inr q
  ·rcases q with ⟨o,q⟩ | q
   ·exact .inl ⟨o,by rw [m9 (fun z=>by rw [z,c.ls] at q; cases q)]; exact q⟩
   ·exact .inr q
 have c0:Car K N fa H (FF g fa O1 p) fa H:=⟨fun b xs n q=>⟨q,fun z=>n (hF b z)⟩,fun _ _ q=>q,fun _ _ q=>q,fun _ q=>q⟩
 refine ⟨c.st.trans ⟨fun b hb=>.inl hb,.inl rfl,fun b u e n _=>by rw [m9 (fun z=>n (by simp [z]))]; exact e,fun b z=>?_⟩,u8,?_,c.fd.car cr fun a e=>m9 fun z=>c.nofa (z ▸ e),c.nf⟩
 ·by_cases hb:b = p
  ·subst hb; rw [u8] at z; cases z
  ·rw [m9 hb] at z; exact z
 ·exact Reps.append (Reps.go cr _ _ c.rs) (Reps.one (Rep.go cr _ _ (Rep.go c0 _ _ r)))
end
section
variable {X:Cx} {g:Gh} {scope:Scope} {cl:List (Str × Addr)} {N':List Str} {idx:List Nat} {iter elt tg:Expr} {ifs:List Expr} {pos:Pos} {fi:DA} {fc:DT} {fe:DE}
noncomputable def U2 (X:Cx) (g:Gh) (ifs:List Expr) (f:DT):Prop:=U8 X ifs (liftT X.K g f)
noncomputable def w8:DT:=fun s=>some (true,s)
theorem S0:U2 X g [] w8:=fun pins s σ H Q I ⟨fa,O,s0,d,s',G,e,k⟩=>b46 pins s σ H Q I (by cases e; exact k H fa O StE.refl G)
theorem b3k {c:Expr} {f:DT} (h:TO X g c f):U2 X g [c] f:=b0t h.pe
theorem a5D {K:PySem.W.Frag} {N:Addr → Prop} {fa:Option Addr} {H:Hp} {sl:List Sl} {σ:L2.St} {O:List Addr} (h:SlR K N fa H sl σ O):∀ idx:List Nat,SlR K N fa H (E4 idx sl) (idx.map fun i=>(σ[i]?).join) []
 | []=>by simp [E4,SlR]
 | i :: r=>by
  have ih:=a5D h r
  have go:∀ e:sl[i]? = none ∨ (∃ z,sl[i]? = some z ∧ ∀ d,z ≠ .val d),V8 sl i = .no:=fun e=>by
   unfold V8
   rcases e with e | ⟨z,e,n⟩
   ·rw [e]
   ·rw [e]
    cases z with
    | val d=>exact absurd rfl (n d)
    | no=>rfl
    | own ds=>rfl
  show SlR K N fa H (V8 sl i :: E4 r sl) ((σ[i]?).join :: r.map fun i=>(σ[i]?).join) []
  cases e:sl[i]? with
  | none=>
   rw [go (.inl e)]
   simp only [SlR]
   exact ⟨_,_,rfl,ih⟩
  | some z=>
   cases z with
   | no=>
    rw [go (.inr ⟨_,e,fun d z=>by cases z⟩)]
    simp only [SlR]
    exact ⟨_,_,rfl,ih⟩
   | own ds=>
    rw [go (.inr ⟨_,e,fun d z=>by cases z⟩)]
    simp only [SlR]
    exact ⟨_,_,rfl,ih⟩
   | val d=>
    obtain ⟨u,e1,q⟩:=SlR.val h e
    have ec:V8 sl i = .val d:=by unfold V8; rw [e]
    rw [ec]
    simp only [SlR]
    exact ⟨u,_,by rw [e1]; rfl,q,ih⟩
noncomputable def b0G (mk:List Sl → D → Option (List Sl)) (fi:DA) (fc:DT) (fe:DE):DA:=fun s=>(fi s).bind fun x=>if x.1.length ≤ sizeLine then (v8 (mk x.2.sl) fc fe x.1 x.2.fs).map fun y=>(y.1,{ x.2 with fs:=y.2 }) else none
theorem a8f {n:Nat} {G:TG} {mk:List Sl → D → Option (List Sl)} (hG:∀ (N:Addr → Prop) (fa:Option Addr) (sl:List Sl) (d:D) (sl0:List Sl) (x:V) (σ:L2.St) (H:Hp) (Q:L2.St → Hp → Prop),mk sl d = some sl0 → Rep X.K N fa H d x → SlR X.K N fa H (E4 idx sl) (idx.map fun i=>(σ[i]?).join) [] →
  (∀ σ':L2.St,(σ'.length = (A7 n idx σ).length ∧ ∀ (j:Nat) (v:V),(A7 n idx σ)[j]? = some (some v) → σ'[j]? = some (some v)) → SlR X.K N fa H sl0 σ' [] → Q σ' H) → G x (A7 n idx σ) H Q):∀ σ H Q,liftF X.K g (b0G mk fi fc fe) σ H Q → W8 n idx (liftI X.K g fi) G (fun σ H Q=>∃ g',liftT X.K g' fc σ H Q) (fun σ H Q=>∃ g',liftE X.K g' fe σ H Q) σ H Q:=by
 intro σ H Q ⟨fa,O,s,res,s',I,e,kk⟩
 refine t9 e fun ds s1 h1 h2=>?_
 by_cases hz:ds.length ≤ sizeLine
 ·simp only [if_pos hz] at h2
  refine mapP h2 fun out fsf h3 h4=>?_
  simp only [Prod.mk.injEq] at h4
  obtain ⟨e1,e2⟩:=h4
  subst e1; subst e2
  refine ⟨fa,O,s,ds,s1,I,h1,hz,fun J H1 f1 O1 a1 I1 J1 p hp=>?_⟩
  have stE:∀ {fa':Option Addr} {H':Hp},Stp f1 [p] (upd H1 p (.lst [])) fa' [p] H' → StE f1 O1 H1 fa' O1 H':=fun {fa' H'} a=>by
   refine ⟨fun _ h=>h,?_,fun b u e n=>?_,fun b z=>(A3 (fa:=f1) (O:=O1) hp).mon b (a.mon b z)⟩
   ·rcases a.fe with e | ⟨e,h⟩
    ·exact .inl e
    ·exact .inr ⟨e,fun x z=>(A3 (fa:=f1) (O:=O1) hp).mon x (h x z)⟩
   ·have nb:b ≠ p:=J2 e hp
    exact a.same b u (by rw [m9 nb]; exact e) (by simp [nb]) n
  have carP:∀ {fa':Option Addr} {H':Hp},Stp f1 [p] (upd H1 p (.lst [])) fa' [p] H' → Car X.K (NN g.F f1 O1) f1 H1 (FF g fa' O1 p) fa' H':=fun {fa' H'} a=>by
   have c:=I1.car (stE a).stp
   refine ⟨fun b xs n q=>?_,c.tp,c.fz,c.fe⟩
   obtain ⟨q',n'⟩:=c.ls b xs n q
   refine ⟨q',?_⟩
   rintro (z | z)
   ·exact n' z
   ·subst z; rw [hp] at q; cases q
  refine ⟨fun i m H'=>m = ds.length - i ∧ i ≤ ds.length ∧ ∃ fa' ys res' rest fs',CI X.K g f1 O1 (upd H1 p (.lst [])) p fa' H' ys res' fs' ∧ v8 (mk s1.sl) fc fe (ds.drop i) fs' = some (rest,fsf) ∧ res' ++ rest = out ∧ ys.length ≤ i,?_,?_⟩
  ·refine ⟨ds.length,by simp,Nat.zero_le _,f1,[],[],out,s1.fs,⟨Stp.refl,u8,Reps.nil,?_,fun z=>I1.fd.tracked z hp⟩,by simpa using h3,rfl,Nat.le_refl _⟩
   exact I1.fd.car (a1r I1 hp) (I1.fd.same_new hp)
  ·rintro i m H' ⟨rfl,hil,fa',ys,res',rest,fs',c,hd,ho,hy⟩
   have Hcar:=carP c.st
   obtain ⟨jgo,jstop⟩:=J1 _ _ _ Hcar (fun b u e n=>(stE c.st).same b u e n) i
   by_cases hlt:i < ds.length
   ·have hdi:ds[i]? = some ds[i]:=List.getElem?_eq_getElem hlt
    obtain ⟨go,yl⟩:=jgo _ hdi
    refine .inr ⟨go,fun x H'' hx=>?_⟩
    obtain ⟨e1,rx⟩:=yl x H'' hx
    subst e1
    rw [a7z hdi,v8] at hd
    refine J6 hd fun sl0 hm hd=>?_
    refine t9 hd fun b sb h5 h6=>?_
    have hNN:∀ b,NN (FF g fa' O1 p) fa' [] b → FF g fa' O1 p b:=fun b z=>by
     rcases z with z | z | z
     ·exact z
     ·cases z
     ·exact .inl (.inr (.inr z))
    have cN:Car X.K (FF g fa' O1 p) fa' H'' (NN (FF g fa' O1 p) fa' []) fa' H'':=⟨fun b xs n q=>⟨q,fun z=>n (hNN b z)⟩,fun _ _ q=>q,fun _ _ q=>q,fun _ q=>q⟩
    have trk:∀ b,FF g fa' O1 p b → H'' b ≠ none:=fun b z=>by
     rcases z with (z | z | z) | z
     ·exact fun w=>I1.trF z ((stE c.st).mon b w)
     ·obtain ⟨xs,e⟩:=I1.owned z
      exact fun w=>by have:=(stE c.st).mon b w; rw [e] at this; cases this
     ·exact c.fd.tracked z
     ·rw [z,c.ls]; simp
    refine hG (NN (FF g fa' O1 p) fa' []) fa' s1.sl ds[i] sl0 x σ H'' _ hm (Rep.go cN _ _ rx) (SlR.go cN (fun a xs ha=>by cases ha) (a5D (SlR.go Hcar (fun a xs ha e=>(stE c.st).same a _ e fun z=>I1.nf a z ha) I1.sl) idx)) fun σ1 hσ hsl=>⟨hσ,?_⟩
    have G0:GI X.K ⟨FF g fa' O1 p,H'',fa'⟩ σ1 H'' fa' [] ⟨sl0,fs'⟩:=⟨List.nodup_nil,hsl,fun b hb=>(by cases hb),Stp.refl,trk,fun a ha=>.inl (.inr (.inr ha)),c.fd.car cN fun _ _=>rfl,fun _ _ z=>(by cases z)⟩
    refine ⟨⟨FF g fa' O1 p,H'',fa'⟩,fa',[],_,b,sb,G0,h5,fun H3 f3 O3 a3 I3=>?_⟩
    have eO:O3 = []:=List.eq_nil_iff_forall_not_mem.mpr fun z hz=>by have:=a3.sub z hz; cases this
    subst eO
    have hF3:∀ b,FF g f3 O1 p b → NN (FF g fa' O1 p) f3 [] b:=fun b z=>by
     rcases z with (z | z | z) | z
     ·exact .inl (.inl (.inl z))
     ·exact .inl (.inl (.inr (.inl z)))
     ·exact .inr (.inr z)
     ·exact .inl (.inr z)
    have c3:=c.step a3 hF3 I3
    cases b with
    | false=>
     rw [if_neg Bool.false_ne_true] at h6
     refine a6D ?_
     exact ⟨ds.length - (i + 1),by omega,rfl,hlt,f3,ys,res',rest,sb.fs,c3,h6,ho,Nat.le_succ_of_le hy⟩
    | true=>
     rw [if_pos rfl] at h6
     refine a5M ?_
     refine t9 h6 fun dd sd h7 h8=>?_
     refine mapP h8 fun rest2 fs2 h9 h10=>?_
     simp only [Prod.mk.injEq] at h10
     refine ⟨⟨FF g fa' O1 p,H'',fa'⟩,f3,[],sb,dd,sd,I3,h7,fun v H4 f4 O4 a4 I4 r4=>?_⟩
     have eO:O4 = []:=List.eq_nil_iff_forall_not_mem.mpr fun z hz=>by have:=a4.sub z hz; cases this
     subst eO
     have hF4:∀ b,FF g f4 O1 p b → NN (FF g fa' O1 p) f4 [] b:=fun b z=>by
      rcases z with (z | z | z) | z
      ·exact .inl (.inl (.inl z))
      ·exact .inl (.inl (.inr (.inl z)))
      ·exact .inr (.inr z)
      ·exact .inl (.inr z)
     have c4:=c3.step a4 hF4 I4
     refine ⟨ys,c4.ls,by omega,ds.length - (i + 1),by omega,rfl,hlt,f4,ys ++ [v],res' ++ [dd],rest2,sd.fs,c4.app hF4 r4,by rw [h9,h10.2],?_,by simp; omega⟩
     rw [← ho,← h10.1]; simp
   ·refine .inl ⟨jstop (Nat.le_of_not_lt hlt),?_⟩
    rw [List.drop_eq_nil_of_le (Nat.le_of_not_lt hlt),v8] at hd
    simp only [Option.some.injEq,Prod.mk.injEq] at hd
    obtain ⟨hd1,hd2⟩:=hd
    subst hd1; subst hd2
    rw [List.append_nil] at ho
    subst ho
    have aE:=stE c.st
    have car1:=I1.car aE.stp
    have sameO:∀ a xs,a ∈ O1 → H1 a = some (.lst xs) → H' a = some (.lst xs):=fun a xs ha e=>aE.same a _ e fun z=>I1.nf a z ha
    refine kk p ys H' fa' O1 (a1.trans aE) ⟨⟨I1.nd,SlR.go car1 sameO I1.sl,I1.fr,I1.st.trans ⟨fun b hb=>(by cases hb),aE.fe,fun b u e _ n=>aE.same b u e n,aE.mon⟩,I1.tr,I1.ff,?_,I1.nf_step aE.fe⟩,c.ls,SlR.go Hcar sameO I1.sl,c.fd,c.rs,c.nf⟩ (a1.mon p hp)
    exact c.fd.car (K:=X.K) ⟨fun b xs n q=>⟨q,fun z=>n (.inl z)⟩,fun _ _ q=>q,fun _ _ q=>q,fun _ q=>q⟩ fun _ _=>rfl
 ·simp only [if_neg hz] at h2; cases h2
theorem b0E (k:CompOk X scope cl N' 1 idx):∀ σ H Q,liftF X.K g (A6 idx fi fc fe) σ H Q → W8 1 idx (liftI X.K g fi) (K7 0) (fun σ H Q=>∃ g',liftT X.K g' fc σ H Q) (fun σ H Q=>∃ g',liftE X.K g' fe σ H Q) σ H Q:=
 a8f (mk:=fun sl d=>some (.val d :: E4 idx sl)) fun N fa sl d sl0 x σ H Q hm rx hc kk=>by
  cases hm
  refine kk _ ⟨by simp,fun j v hj=>?_⟩ ?_
  ·cases j with
   | zero=>simp [A7] at hj
   | succ j=>rw [List.getElem?_set_ne (by simp)]; exact hj
  ·have eb:(A7 1 idx σ).set 0 (some x) = some x :: idx.map fun i=>(σ[i]?).join:=by simp [A7]
   rw [eb]
   simp only [SlR]
   exact ⟨x,_,rfl,rx,hc⟩
theorem T1 (hc:X.calm = true) (k:CompOk X scope cl N' 1 idx) (hi:IO X g tg iter fi) (hg:∀ C s0 H0 ex,PG (blk X N' scope cl C s0 H0 ex) tg (K7 0))
  (ht:∀ C s0 H0 ex g',U2 (blk X N' scope cl C s0 H0 ex) g' ifs fc) (he:∀ C s0 H0 ex g',EO (blk X N' scope cl C s0 H0 ex) g' elt fe) (hs:∀ x,foldedSetIterable iter X.env x = pure x:=by intro _; rfl) :
  FO X g (.ListComp elt [⟨tg,iter,ifs,0⟩] scope pos) (A6 idx fi fc fe):=by
 exact FO.w (a6m (tc:=fun σ H Q=>∃ g',liftT X.K g' fc σ H Q) (te:=fun σ H Q=>∃ g',liftE X.K g' fe σ H Q) hc k hi.pe hg (fun C s0 H0 ex pins s σ H Q I ⟨g',h⟩=>ht C s0 H0 ex g' pins s σ H Q I h) (fun C s0 H0 ex pins s σ H Q I ⟨g',h⟩=>(he C s0 H0 ex g').pe pins s σ H Q I h) hs) (b0E k)
end
end DL
namespace HT2
open PySem PyProof.Rows
theorem cat_tup0 {prog:Program} {w:World} {A:Around} {E:Value → Shared → Prop} {s:Shared} {t b:Addr} {ws:List Value} {Q:Value → Shared → Prop} (ht:IsTup s.heap t ([]:List Value).toArray) (hb:IsTup s.heap b ws.toArray)
  (h:Q (.ref b) s):wpAny (model prog w) A (binaryOp .Add (.ref t) (.ref b)) Q E s:=by
 obtain ⟨⟨cls,dd,data,sl⟩,ho,hc,n,hd⟩:=id ht
 obtain ⟨⟨cls2,dd2,data2,sl2⟩,ho2,hc2,n2,hd2⟩:=id hb
 simp only at hc hd hc2 hd2
 subst hc hd hc2 hd2
 exact concat_meets ⟨_,ho,rfl⟩ ⟨_,ho2,rfl⟩ noFill_tuple_add seq_tuple_add PySem.F.slot_tuple_add PySem.F.entry_tuple_add (PySem.F.args_tuple_add_2 _ _)
  (tuple_addW0 t b _ ws.toArray n n2 dd dd2 sl sl2 (by simp)) ⟨ho,ho2,h⟩
end HT2
namespace DL
open PySem PySem.Spec L2
noncomputable def v7 (i:Int):Bool:=decide (i.natAbs.log2 < 1000000)
theorem a7l {i:Int} (h:v7 i = true):Builtin.Int.intBits i ≤ 2 ^ 20:=by
 have h1:i.natAbs.log2 < 1000000:=of_decide_eq_true h
 unfold Builtin.Int.intBits
 split
 ·exact Nat.zero_le _
 ·have e:(2:Nat) ^ 20 = 1048576:=by decide
  rw [e]; omega
noncomputable def D5 (j:Int):Bool:=decide (j ≠ 0) && decide (j.natAbs.log2 < 9000)
section
variable {X:Cx}
theorem op_mulB:OpR X (binaryOp .Mult) (rI (fun i j=>v7 i = true ∧ v7 j = true) fun i j=>.int (i * j)):=opI fun _ _ _ _ _ _ _ hc q=>PyProof.Rows.mul_int q (IntMulOk.of_bits (a7l hc.1) (a7l hc.2))
theorem b2j:OpR X (binaryOp .FloorDiv) (rI (fun _ j=>D5 j = true) fun i j=>.int (i.fdiv j)):=opI fun i j _ _ _ _ _ hc q=>by
 have hc':D5 j = true:=hc
 unfold D5 at hc'
 rw [Bool.and_eq_true] at hc'
 exact PyProof.Rows.floordiv_int (of_decide_eq_true hc'.1) q (.inl (PyProof.noPylong_of_log2 (of_decide_eq_true hc'.2)))
noncomputable def a6K (K:PySem.W.Frag):R2:=fun x y H Q=>∃ a b ys,x = .ref a ∧ y = .ref b ∧ SqT K H a [] ∧ SqT K H b ys ∧ Q (.ref b) H
theorem op_catT0:OpR X (binaryOp .Add) (a6K X.K):=by
 intro pins s σ H x y v u Q I rx ry h
 obtain ⟨a,b,ys,rfl,rfl,ha,hb,q⟩:=h
 cases rx
 cases ry
 obtain ⟨its,r1,ht,_⟩:=I.tuple ha
 obtain ⟨its2,r2,ht2,_⟩:=I.tuple hb
 cases r1
 exact HT2.cat_tup0 ht ht2 ⟨.ref b,H,I,rfl,q⟩
noncomputable def a8r (K:PySem.W.Frag):R2:=fun x y H Q=>(rI0 (fun i j=>.int (i + j)) x y H Q ∨ (∃ i j,x = .str i ∧ y = .str j ∧ i.length + j.length ≤ sizeLine ∧ Q (.str (i ++ j)) H)) ∨ ((a6K K x y H Q ∨ a86 K x y H Q) ∨ a4p x y H Q)
theorem b5M:OpR X (binaryOp .Add) (a8r X.K):=(op_add.or b4S).or ((op_catT0.or b19).or a1Q)
noncomputable def a5L:R2:=fun x y H Q=>rI (fun i j=>v7 i = true ∧ v7 j = true) (fun i j=>.int (i * j)) x y H Q ∨ a5B x y H Q
theorem a9C:OpR X (binaryOp .Mult) a5L:=op_mulB.or a7Z
end
noncomputable def j4:D → D → Option D
 | .int i,.int j=>some (.int (i + j))
 | .str x,.str y=>if x.length + y.length ≤ sizeLine then some (.str (x ++ y)) else none
 | .tup xs,.tup ys=>if xs.length + ys.length ≤ sizeLine then some (.tup (xs ++ ys)) else none
 | .lst xs,.lst ys=>if xs.length + ys.length ≤ sizeLine then some (.lst (xs ++ ys)) else none
 | _,_=>none
noncomputable def l8:D → D → Option D
 | .int i,.int j=>some (.int (i - j))
 | _,_=>none
noncomputable def o7:D → D → Option D
 | .int i,.int j=>if v7 i && v7 j then some (.int (i * j)) else none
 | .lst xs,.int k=>if -(2 ^ 63) ≤ k ∧ k < 2 ^ 63 ∧ xs.length * k.toNat ≤ sizeLine then some (.lst (List.replicate k.toNat xs).flatten) else none
 | _,_=>none
noncomputable def C3:D → D → Option D
 | .int i,.int j=>if D5 j then some (.int (i.fdiv j)) else none
 | _,_=>none
noncomputable def v6:D → D → Option D
 | .int i,.int j=>if j ≠ 0 then some (.int (i.fmod j)) else none
 | _,_=>none
noncomputable def Y3:D → D → Option D
 | .int i,.int j=>if 0 ≤ j ∧ j ≤ 1000000 ∧ i.natAbs < 2 ^ 64 then some (.int (i ^ j.toNat)) else none
 | _,_=>none
noncomputable def j9:D → Option D
 | .int i=>some (.int (-i))
 | _=>none
noncomputable def j6 (p:Int → Int → Bool):D → D → Option D
 | .int i,.int j=>some (.bl (p i j))
 | _,_=>none
noncomputable def a6J:D → D → Option D
 | .non,.non=>some (.bl true)
 | .feed,.non=>none
 | .scr _,.non=>none
 | .fn _,.non=>none
 | _,.non=>some (.bl false)
 | _,_=>none
noncomputable def a1p:D → D → Option D
 | .non,.non=>some (.bl false)
 | .feed,.non=>none
 | .scr _,.non=>none
 | .fn _,.non=>none
 | _,.non=>some (.bl true)
 | _,_=>none
theorem a3K {K:PySem.W.Frag} {N:Addr → Prop} {fa:Option Addr} {H:Hp} {ds:List D} {xs:List V} (r:Reps K N fa H ds xs):xs = [] ↔ ds = []:=by
 have:=r.length
 cases xs <;> cases ds <;> simp_all
theorem Reps.flat {K:PySem.W.Frag} {N:Addr → Prop} {fa:Option Addr} {H:Hp} {ds:List D} {xs:List V} (r:Reps K N fa H ds xs):∀ k:Nat,Reps K N fa H (List.replicate k ds).flatten (List.replicate k xs).flatten
 | 0=>by simp [Reps]
 | k + 1=>by
  simp only [List.replicate_succ,List.flatten_cons]
  exact Reps.append r (Reps.flat r k)
section
variable {K:PySem.W.Frag}
theorem a9D:R2D K (a8r K) j4:=by
 intro g σ H fa O s x y d1 d2 d Q I r1 r2 e k
 cases d1 with
 | int i=>
  cases d2 with
  | int j=>
   cases e
   simp only [RepB,Rep] at r1 r2
   exact .inl (.inl ⟨i,j,r1,r2,k _ H StE.refl I (by simp only [Rep])⟩)
  | _=>cases e
 | str a=>
  cases d2 with
  | str b=>
   have e:(if a.length + b.length ≤ sizeLine then some (D.str (a ++ b)) else none) = some d:=e
   by_cases h:a.length + b.length ≤ sizeLine
   ·rw [if_pos h] at e
    cases e
    simp only [RepB,Rep] at r1 r2
    refine .inl (.inr ⟨a,b,r1.1,r2.1,h,k _ H StE.refl I ?_⟩)
    simp only [Rep]
    exact ⟨trivial,by rw [strLen_append]; exact h⟩
   ·rw [if_neg h] at e; cases e
  | _=>cases e
 | tup as=>
  cases d2 with
  | tup bs=>
   have e:(if as.length + bs.length ≤ sizeLine then some (D.tup (as ++ bs)) else none) = some d:=e
   by_cases h:as.length + bs.length ≤ sizeLine
   ·rw [if_pos h] at e
    cases e
    simp only [RepB,Rep] at r1 r2
    obtain ⟨a,xs,rfl,qa,wa⟩:=r1
    obtain ⟨b,ys,rfl,qb,wb⟩:=r2
    by_cases hx:xs = []
    ·have ha:=(a3K wa).mp hx
     subst hx; subst ha
     refine .inr (.inl (.inl ⟨a,b,ys,rfl,rfl,qa,qb,k _ H StE.refl I ?_⟩))
     simp only [Rep,List.nil_append]
     exact ⟨b,ys,rfl,qb,wb⟩
    ·refine .inr (.inl (.inr ⟨a,b,xs,ys,rfl,rfl,qa,qb,hx,by rw [wa.length,wb.length]; exact h,fun hy=>?_,fun hy p hp=>?_⟩))
     ·have hb:=(a3K wb).mp hy
      subst hy; subst hb
      refine k _ H StE.refl I ?_
      simp only [Rep,List.append_nil]
      exact ⟨a,xs,rfl,qa,wa⟩
     ·have a2:StE fa O H fa O (upd H p (.tup (xs ++ ys))):=A3 hp
      refine k _ _ a2 (I.new hp) ?_
      simp only [Rep]
      exact ⟨p,_,rfl,SqT.of u8,Reps.stp I a2.stp (Reps.append wa wb)⟩
   ·rw [if_neg h] at e; cases e
  | _=>cases e
 | lst as=>
  cases d2 with
  | lst bs=>
   have e:(if as.length + bs.length ≤ sizeLine then some (D.lst (as ++ bs)) else none) = some d:=e
   by_cases h:as.length + bs.length ≤ sizeLine
   ·rw [if_pos h] at e
    cases e
    obtain ⟨a,xs,rfl,_,qa,wa⟩:=r1
    obtain ⟨b,ys,rfl,_,qb,wb⟩:=r2
    refine .inr (.inr ⟨a,b,xs,ys,rfl,rfl,qa,qb,by rw [wa.length,wb.length]; exact h,fun p hp=>?_⟩)
    have a2:StE fa O H fa O (upd H p (.lst (xs ++ ys))):=A3 hp
    have L:=R5 I hp (Reps.append wa wb)
    refine k _ _ a2 L.gi ?_
    simp only [Rep]
    exact ⟨p,_,rfl,a0s I a2 L.gi hp L.nf,u8,Reps.stp I a2.stp (Reps.append wa wb)⟩
   ·rw [if_neg h] at e; cases e
  | _=>cases e
 | _=>cases e
noncomputable def a1X:D → D → Option (List D)
 | .lst xs,.lst ys=>if xs.length + ys.length ≤ sizeLine then some (xs ++ ys) else none
 | _,_=>none
theorem b1h:R2F K a4p a1X:=by
 intro g σ H fa O s x y d1 d2 ds Q I r1 r2 e k
 cases d1 with
 | lst as=>
  cases d2 with
  | lst bs=>
   simp only [a1X] at e
   by_cases h:as.length + bs.length ≤ sizeLine
   ·rw [if_pos h] at e
    cases e
    obtain ⟨a,xs,rfl,_,qa,wa⟩:=r1
    obtain ⟨b,ys,rfl,_,qb,wb⟩:=r2
    refine ⟨a,b,xs,ys,rfl,rfl,qa,qb,by rw [wa.length,wb.length]; exact h,fun p hp=>?_⟩
    exact k p _ _ (A3 hp) (R5 I hp (Reps.append wa wb)) hp
   ·rw [if_neg h] at e; cases e
  | _=>cases e
 | _=>cases e
theorem a24 {C:Int → Int → Prop} {f:Int → Int → D} {f':Int → Int → V} {p:D → D → Option D} (hp:∀ d1 d2 d,p d1 d2 = some d → ∃ i j,d1 = .int i ∧ d2 = .int j ∧ C i j ∧ d = f i j) (hf:∀ N fa H i j,Rep K N fa H (f i j) (f' i j)):R2D K (rI C f') p:=by
 intro g σ H fa O s x y d1 d2 d Q I r1 r2 e k
 obtain ⟨i,j,rfl,rfl,c,rfl⟩:=hp d1 d2 d e
 simp only [RepB,Rep] at r1 r2
 exact ⟨i,j,r1,r2,c,k _ H StE.refl I (hf _ _ _ _ _)⟩
theorem a4Y {f:Int → Int → D} {f':Int → Int → V} {p:D → D → Option D} (hp:∀ d1 d2 d,p d1 d2 = some d → ∃ i j,d1 = .int i ∧ d2 = .int j ∧ d = f i j) (hf:∀ N fa H i j,Rep K N fa H (f i j) (f' i j)):R2D K (rI0 f') p:=by
 intro g σ H fa O s x y d1 d2 d Q I r1 r2 e k
 obtain ⟨i,j,rfl,rfl,rfl⟩:=hp d1 d2 d e
 simp only [RepB,Rep] at r1 r2
 exact ⟨i,j,r1,r2,k _ H StE.refl I (hf _ _ _ _ _)⟩
noncomputable def a3l (F:Int → Int → Option D):D → D → Option D
 | .int i,.int j=>F i j
 | _,_=>none
theorem a58 {F:Int → Int → Option D} {d1 d2 d:D} (e:a3l F d1 d2 = some d):∃ i j,d1 = .int i ∧ d2 = .int j ∧ F i j = some d:=by
 cases d1 with
 | int i=>
  cases d2 with
  | int j=>exact ⟨i,j,rfl,rfl,e⟩
  | _=>cases e
 | _=>cases e
theorem a2r {C:Int → Int → Prop} [∀ i j,Decidable (C i j)] {f:Int → Int → D} {d1 d2 d:D} (e:a3l (fun i j=>if C i j then some (f i j) else none) d1 d2 = some d):∃ i j,d1 = .int i ∧ d2 = .int j ∧ C i j ∧ d = f i j:=by
 obtain ⟨i,j,h1,h2,h3⟩:=a58 e
 by_cases h:C i j
 ·have h3:(if C i j then some (f i j) else none) = some d:=h3
  rw [if_pos h] at h3
  exact ⟨i,j,h1,h2,h,(Option.some.inj h3).symm⟩
 ·have h3:(if C i j then some (f i j) else none) = some d:=h3
  rw [if_neg h] at h3
  cases h3
theorem a8i {f:Int → Int → D} {d1 d2 d:D} (e:a3l (fun i j=>some (f i j)) d1 d2 = some d):∃ i j,d1 = .int i ∧ d2 = .int j ∧ d = f i j:=by
 obtain ⟨i,j,h1,h2,h3⟩:=a58 e
 exact ⟨i,j,h1,h2,(Option.some.inj h3).symm⟩
theorem b6V:R2D K (rI0 fun i j=>.int (i - j)) l8:=a4Y (f:=fun i j=>.int (i - j)) (fun d1 d2 d e=>a8i (f:=fun i j=>.int (i - j)) e) fun _ _ _ _ _=>by simp only [Rep]
theorem T5 (p:Int → Int → Bool):R2D K (rI0 fun i j=>.bl (p i j)) (j6 p):=a4Y (f:=fun i j=>.bl (p i j)) (fun d1 d2 d e=>a8i (f:=fun i j=>.bl (p i j)) e) fun _ _ _ _ _=>by simp only [Rep]
theorem b0k:R2D K a5L o7:=by
 intro g σ H fa O s x y d1 d2 d Q I r1 r2 e k
 cases d1 with
 | int i=>
  cases d2 with
  | int j=>
   have e:(if v7 i && v7 j then some (D.int (i * j)) else none) = some d:=e
   by_cases h:(v7 i && v7 j) = true
   ·rw [if_pos h] at e
    cases e
    rw [Bool.and_eq_true] at h
    simp only [RepB,Rep] at r1 r2
    exact .inl ⟨i,j,r1,r2,h,k _ H StE.refl I (by simp only [Rep])⟩
   ·rw [if_neg h] at e; cases e
  | _=>cases e
 | lst as=>
  cases d2 with
  | int j=>
   simp only [o7] at e
   by_cases h:-(2 ^ 63) ≤ j ∧ j < 2 ^ 63 ∧ as.length * j.toNat ≤ sizeLine
   ·rw [if_pos h] at e
    cases e
    obtain ⟨a,xs,rfl,_,qa,wa⟩:=r1
    simp only [RepB,Rep] at r2
    subst r2
    refine .inr ⟨a,j,xs,rfl,rfl,qa,h.1,h.2.1,by rw [wa.length]; exact h.2.2,fun p hp=>?_⟩
    have a2:StE fa O H fa O (upd H p (.lst (List.replicate j.toNat xs).flatten)):=A3 hp
    have L:=R5 I hp (wa.flat j.toNat)
    refine k _ _ a2 L.gi ?_
    simp only [Rep]
    exact ⟨p,_,rfl,a0s I a2 L.gi hp L.nf,u8,Reps.stp I a2.stp (wa.flat j.toNat)⟩
   ·rw [if_neg h] at e; cases e
  | _=>cases e
 | _=>cases e
theorem b1D:R2D K (rI (fun _ j=>D5 j = true) fun i j=>.int (i.fdiv j)) C3:=a24 (f:=fun i j=>.int (i.fdiv j)) (fun d1 d2 d e=>a2r (C:=fun _ j=>D5 j = true) (f:=fun i j=>.int (i.fdiv j)) e) fun _ _ _ _ _=>by simp only [Rep]
theorem b4q:R2D K (rI (fun _ j=>j ≠ 0) fun i j=>.int (i.fmod j)) v6:=a24 (f:=fun i j=>.int (i.fmod j)) (fun d1 d2 d e=>a2r (C:=fun _ j=>j ≠ 0) (f:=fun i j=>.int (i.fmod j)) e) fun _ _ _ _ _=>by simp only [Rep]
theorem a9F:R2D K (rI a84 fun i j=>.int (i ^ j.toNat)) Y3:=a24 (f:=fun i j=>.int (i ^ j.toNat)) (fun d1 d2 d e=>a2r (C:=fun i j=>0 ≤ j ∧ j ≤ 1000000 ∧ i.natAbs < 2 ^ 64) (f:=fun i j=>.int (i ^ j.toNat)) e) fun _ _ _ _ _=>by simp only [Rep]
theorem b0A:R1D K (rU fun i=>.int (-i)) j9:=by
 intro g σ H fa O s x d1 d Q I r1 e k
 cases d1 with
 | int i=>cases e; simp only [RepB,Rep] at r1; exact ⟨i,r1,k _ H StE.refl I (by simp only [Rep])⟩
 | _=>cases e
noncomputable def a1Y:D → Bool
 | .non=>true
 | _=>false
theorem a5x {N:Addr → Prop} {fa:Option Addr} {H:Hp} {d:D} {x:V} (r:RepB K N fa H d x):decide (x = .non) = a1Y d:=by
 cases d with
 | non=>simp only [RepB,Rep] at r; subst r; rfl
 | bl b=>simp only [RepB,Rep] at r; subst r; rfl
 | int i=>simp only [RepB,Rep] at r; subst r; rfl
 | str x=>simp only [RepB,Rep] at r; obtain ⟨r,_⟩:=r; subst r; rfl
 | tup ds=>simp only [RepB,Rep] at r; obtain ⟨a,xs,rfl,_⟩:=r; rfl
 | lst ds=>obtain ⟨a,xs,rfl,_⟩:=r; rfl
 | feed=>simp only [RepB,Rep] at r; obtain ⟨a,_,rfl⟩:=r; rfl
 | scr ns=>simp only [RepB,Rep] at r; obtain ⟨_,a,rfl,_⟩:=r; rfl
 | fn x=>simp only [RepB,Rep] at r; obtain ⟨a,rfl,_⟩:=r; rfl
theorem b1m:R2D K (fun x y H Q=>y = .non ∧ Q (.bl (decide (x = .non))) H) a6J:=by
 intro g σ H fa O s x y d1 d2 d Q I r1 r2 e k
 have h2:d2 = .non:=by cases d1 <;> cases d2 <;> first | rfl | cases e
 subst h2
 simp only [RepB,Rep] at r2
 refine ⟨r2,k _ H StE.refl I ?_⟩
 rw [a5x r1]
 cases d1 <;> first | (cases e; simp [Rep,a1Y]; done) | cases e
theorem a9I:R2D K (fun x y H Q=>y = .non ∧ Q (.bl (!decide (x = .non))) H) a1p:=by
 intro g σ H fa O s x y d1 d2 d Q I r1 r2 e k
 have h2:d2 = .non:=by cases d1 <;> cases d2 <;> first | rfl | cases e
 subst h2
 simp only [RepB,Rep] at r2
 refine ⟨r2,k _ H StE.refl I ?_⟩
 rw [a5x r1]
 cases d1 <;> first | (cases e; simp [Rep,a1Y]; done) | cases e
end
section
variable {X:Cx} {pins:List (Addr × Obj)} {σ:L2.St} {H:Hp} {s:Shared} {N:Addr → Prop} {fa:Option Addr}
mutual
theorem K9 (I:Inv X pins σ H s):∀ (d:D) (v:V) (u:Value),K8 X.K N fa H d v → RelV v u → d.plain = true → ∃ as,Reads s.heap u d.py as
 | .non,v,u,r,ru,_=>by
  simp only [K8,Rep] at r; subst r; cases ru
  simp only [D.py]; exact ⟨[],.none⟩
 | .bl b,v,u,r,ru,_=>by
  simp only [K8,Rep] at r; subst r; cases ru
  simp only [D.py]; exact ⟨[],.bool b⟩
 | .int i,v,u,r,ru,_=>by
  simp only [K8,Rep] at r; subst r
  obtain ⟨t,rfl⟩:=ru
  simp only [D.py]; exact ⟨[],.int i t⟩
 | .str x,v,u,r,ru,_=>by
  simp only [K8,Rep] at r; obtain ⟨r,_⟩:=r; subst r
  obtain ⟨t,rfl⟩:=ru
  simp only [D.py]; exact ⟨[],.str x t⟩
 | .tup ds,v,u,r,ru,hp=>by
  simp only [K8,Rep] at r
  obtain ⟨a,xs,rfl,q,w⟩:=r
  cases ru
  obtain ⟨its,rv,⟨o,h1,h2,n,h3⟩,_⟩:=I.tuple q
  obtain ⟨as,ra⟩:=a07 I ds xs its w rv (by simpa only [D.plain] using hp)
  simp only [D.py]
  exact ⟨as,.tuple h1 h2 h3 (by simpa using ra)⟩
 | .lst ds,v,u,r,ru,hp=>by
  obtain ⟨a,xs,rfl,q,w⟩:=r
  cases ru
  obtain ⟨its,rv,⟨o,n,h1,h2,h3,h4⟩,_⟩:=I.list (SqL.of q)
  obtain ⟨as,ra⟩:=a07 I ds xs its w rv (by simpa only [D.plain] using hp)
  simp only [D.py]
  exact ⟨_,.list h1 h2 h4 (by simpa using ra)⟩
 | .feed,v,u,r,ru,hp=>by simp only [D.plain] at hp; cases hp
 | .scr _,v,u,r,ru,hp=>by simp only [D.plain] at hp; cases hp
 | .fn _,v,u,r,ru,hp=>by simp only [D.plain] at hp; cases hp
theorem a07 (I:Inv X pins σ H s):∀ (ds:List D) (xs:List V) (us:List Value),Reps X.K N fa H ds xs → Vals xs us → D.plains ds = true → ∃ as,ReadsAll s.heap us (D.pys ds) as
 | [],xs,us,r,ru,_=>by
  simp only [Reps] at r; subst r; cases ru
  simp only [D.pys]; exact ⟨[],.nil⟩
 | d :: ds,xs,us,r,ru,hp=>by
  simp only [Reps] at r
  obtain ⟨x,ys,rfl,r1,r2⟩:=r
  cases ru with
  | cons q qs=>
   simp only [D.plains,Bool.and_eq_true] at hp
   obtain ⟨as,h1⟩:=K9 I d x _ r1.o q hp.1
   obtain ⟨bs,h2⟩:=a07 I ds ys _ r2 qs hp.2
   simp only [D.pys]; exact ⟨_,.cons h1 h2⟩
end
end
noncomputable def t6 (d:D):Bool:=d.plain && SeqAt.shaped d.py
noncomputable def pEq (d1 d2:D):Option D:=match d1,d2 with
 | .str x,.str y=>some (.bl (decide (x = y)))
 | d1,d2=>if t6 d1 && t6 d2 then some (.bl (PyData.eqv d1.py d2.py)) else none
noncomputable def pNe (d1 d2:D):Option D:=match d1,d2 with
 | .str x,.str y=>some (.bl (!decide (x = y)))
 | d1,d2=>if t6 d1 && t6 d2 then some (.bl (!PyData.eqv d1.py d2.py)) else none
noncomputable def W3 (K:PySem.W.Frag) (f:Bool → Bool):R2:=fun x y H Q=>∃ N fa d1 d2,RepB K N fa H d1 x ∧ RepB K N fa H d2 y ∧ t6 d1 = true ∧ t6 d2 = true ∧ Q (.bl (f (PyData.eqv d1.py d2.py))) H
section
variable {X:Cx} {K:PySem.W.Frag}
theorem b3b (hu:X.A.units + 64 < cLine):OpR X (compareOp .Eq) (W3 X.K id):=by
 intro pins s σ H x y v u Q I rx ry h
 obtain ⟨N,fa,d1,d2,r1,r2,o1,o2,q⟩:=h
 unfold t6 at o1 o2
 rw [Bool.and_eq_true] at o1 o2
 obtain ⟨as,h1⟩:=K9 I d1 x v r1.o rx o1.1
 obtain ⟨bs,h2⟩:=K9 I d2 y u r2.o ry o2.1
 exact PyProof.Rows.eq_dataH h1 h2 o1.2 o2.2 hu ⟨.bl _,H,I,rfl,q⟩
theorem b1q (hu:X.A.units + 64 < cLine):OpR X (compareOp .NotEq) (W3 X.K not):=by
 intro pins s σ H x y v u Q I rx ry h
 obtain ⟨N,fa,d1,d2,r1,r2,o1,o2,q⟩:=h
 unfold t6 at o1 o2
 rw [Bool.and_eq_true] at o1 o2
 obtain ⟨as,h1⟩:=K9 I d1 x v r1.o rx o1.1
 obtain ⟨bs,h2⟩:=K9 I d2 y u r2.o ry o2.1
 exact PyProof.Rows.ne_dataH h1 h2 o1.2 o2.2 hu ⟨.bl _,H,I,rfl,q⟩
theorem a99 (hu:X.A.units + 64 < cLine):OpR X (compareOp .Eq) (fun x y H Q=>rEq x y H Q ∨ W3 X.K id x y H Q):=op_eq.or (b3b hu)
theorem a4Z (hu:X.A.units + 64 < cLine):OpR X (compareOp .NotEq) (fun x y H Q=>rNe x y H Q ∨ W3 X.K not x y H Q):=op_ne.or (b1q hu)
theorem b4Z {d1 d2 d:D} (h:pEq d1 d2 = some d):(∃ x y,d1 = .str x ∧ d2 = .str y ∧ d = .bl (decide (x = y))) ∨ (t6 d1 = true ∧ t6 d2 = true ∧ d = .bl (PyData.eqv d1.py d2.py)):=by
 unfold pEq at h
 split at h
 ·cases h; exact .inl ⟨_,_,rfl,rfl,rfl⟩
 ·split at h
  ·rename_i q
   rw [Bool.and_eq_true] at q
   cases h; exact .inr ⟨q.1,q.2,rfl⟩
  ·cases h
theorem a9o {d1 d2 d:D} (h:pNe d1 d2 = some d):(∃ x y,d1 = .str x ∧ d2 = .str y ∧ d = .bl (!decide (x = y))) ∨ (t6 d1 = true ∧ t6 d2 = true ∧ d = .bl (!PyData.eqv d1.py d2.py)):=by
 unfold pNe at h
 split at h
 ·cases h; exact .inl ⟨_,_,rfl,rfl,rfl⟩
 ·split at h
  ·rename_i q
   rw [Bool.and_eq_true] at q
   cases h; exact .inr ⟨q.1,q.2,rfl⟩
  ·cases h
theorem a6E (x y:Str):decide (V.str x = V.str y) = decide (x = y):=by
 by_cases h:x = y
 ·subst h; simp
 ·rw [decide_eq_false h,decide_eq_false fun z=>h (V.str.inj z)]
theorem b6i:R2D K (fun x y H Q=>rEq x y H Q ∨ W3 K id x y H Q) pEq:=by
 intro g σ H fa O s x y d1 d2 d Q I r1 r2 e k
 rcases b4Z e with ⟨a,b,rfl,rfl,rfl⟩ | ⟨h1,h2,rfl⟩
 ·simp only [RepB,Rep] at r1 r2
  obtain ⟨rfl,_⟩:=r1
  obtain ⟨rfl,_⟩:=r2
  exact .inl ⟨rfl,k _ H StE.refl I (by simp only [Rep,a6E])⟩
 ·exact .inr ⟨_,_,d1,d2,r1,r2,h1,h2,k _ H StE.refl I (by simp only [Rep,id])⟩
theorem a6P:R2D K (fun x y H Q=>rNe x y H Q ∨ W3 K not x y H Q) pNe:=by
 intro g σ H fa O s x y d1 d2 d Q I r1 r2 e k
 rcases a9o e with ⟨a,b,rfl,rfl,rfl⟩ | ⟨h1,h2,rfl⟩
 ·simp only [RepB,Rep] at r1 r2
  obtain ⟨rfl,_⟩:=r1
  obtain ⟨rfl,_⟩:=r2
  exact .inl ⟨rfl,k _ H StE.refl I (by simp only [Rep,a6E])⟩
 ·exact .inr ⟨_,_,d1,d2,r1,r2,h1,h2,k _ H StE.refl I (by simp only [Rep])⟩
noncomputable def pIx:D → D → Option D
 | .tup ds,.int i=>atI ds i
 | .lst ds,.int i=>atI ds i
 | _,_=>none
theorem a7x {N:Addr → Prop} {fa:Option Addr} {H:Hp} {ds:List D} {xs:List V} {i:Int} {d:D} (r:Reps K N fa H ds xs) (h:atI ds i = some d):∃ v,atI xs i = some v ∧ Rep K N fa H d v:=by
 unfold atI at h ⊢
 rw [r.length]
 cases e:ixN ds.length i with
 | none=>rw [e] at h; cases h
 | some j=>
  rw [e] at h
  simp only [Option.bind_some] at h ⊢
  exact Reps.get r h
theorem b0U:R2D K (fun x y H Q=>a4m K x y H Q ∨ a2x K x y H Q) pIx:=by
 intro g σ H fa O s x y d1 d2 d Q I r1 r2 e k
 cases d1 with
 | tup ds=>
  cases d2 with
  | int i=>
   simp only [RepB,Rep] at r1 r2
   obtain ⟨a,xs,rfl,q,w⟩:=r1
   obtain ⟨v,hv,rv⟩:=a7x w (show atI ds i = some d from e)
   exact .inr ⟨a,xs,i,v,rfl,r2,q,hv,k v H StE.refl I rv⟩
  | _=>cases e
 | lst ds=>
  cases d2 with
  | int i=>
   obtain ⟨a,xs,rfl,_,q,w⟩:=r1
   simp only [RepB,Rep] at r2
   obtain ⟨v,hv,rv⟩:=a7x w (show atI ds i = some d from e)
   exact .inl ⟨a,xs,i,v,rfl,r2,SqL.of q,hv,k v H StE.refl I rv⟩
  | _=>cases e
 | _=>cases e
theorem b5o:IxR X (fun x y H Q=>a4m X.K x y H Q ∨ a2x X.K x y H Q):=ix_list.or b5q
end
noncomputable def dCB (p:List D → Option D) (f:DA):DE:=fun s=>(f s).bind fun x=>(p x.1).map fun d=>(d,x.2)
noncomputable def dCF (p:List D → Option (List D)) (f:DA):DA:=fun s=>(f s).bind fun x=>(p x.1).map fun d=>(d,x.2)
section
variable {X:Cx} {g:Gh} {x:Str} {p pos:Pos} {e:Expr} {es:List Expr} {t:DA} {id T:String} {r:List V → Hp → VK → Prop} {pr:List D → Option D} {pf:List D → Option (List D)}
theorem a6L (hr:RCD X.K r pr) (σ:L2.St) (H:Hp) (Q:VK) (h:liftE X.K g (dCB pr t) σ H Q):tCB r (liftBA X.K g t) σ H Q:=by
 obtain ⟨f0,O,s,d,s',I,e,k⟩:=h
 refine t9 e fun ds s1 h1 h=>?_
 refine E7 h fun d' h3 h=>?_
 simp only [Prod.mk.injEq] at h
 obtain ⟨e1,e2⟩:=h
 subst e1; subst e2
 exact ⟨f0,O,s,ds,s1,I,h1,fun vs H1 f1 O1 a1 I1 r1=>hr g σ H1 f1 O1 s1 vs ds d' Q I1 r1 h3 fun z H3 a3 I3 r3=>k z H3 f1 O1 (a1.trans a3) I3 r3⟩
theorem a80 (hr:RCF X.K r pf) (σ:L2.St) (H:Hp) (Q:VK) (h:liftF X.K g (dCF pf t) σ H Q):tCB r (liftBA X.K g t) σ H Q:=by
 obtain ⟨f0,O,s,d,s',I,e,k⟩:=h
 refine t9 e fun ds s1 h1 h=>?_
 refine E7 h fun d' h3 h=>?_
 simp only [Prod.mk.injEq] at h
 obtain ⟨e1,e2⟩:=h
 subst e1; subst e2
 exact ⟨f0,O,s,ds,s1,I,h1,fun vs H1 f1 O1 a1 I1 r1=>hr g σ H1 f1 O1 s1 vs ds d' Q I1 r1 h3 fun q ys H3 a3 L e3=>k q ys H3 f1 O1 (a1.trans a3) L (a1.mon _ e3)⟩
theorem a1f (hc:CallR X (.builtin id) r) (hr:RCD X.K r pr) (hg:Gl X x) (hm:X.mg x = none) (hv:bootBuiltins x = some (.builtin id)) (ha:BAO X g (e :: es) t) (hn:x ≠ "__name__" := by decide) (hdb:(x == ("__debug__" : Str)) = false:=by decide)
  (he:starEach (e :: es) X.env = (false,eval e X.env) :: starEach es X.env:=by rfl) (hpl:(backTo pos (starEach es X.env)).any (·.1) = false:=by rfl):EO X g (.Call (.Name x p) (e :: es) [] pos) (dCB pr t):=
 EO.w (a7R hc hg hm hv ha.pe hn hdb he hpl) (a6L hr)
theorem a47 (hc:CallR X (.type T) r) (hr:RCD X.K r pr) (hg:Gl X x) (hm:X.mg x = none) (hv:bootBuiltins x = some (.type T)) (ha:BAO X g (e :: es) t) (hn:x ≠ "__name__" := by decide) (hdb:(x == ("__debug__" : Str)) = false:=by decide)
  (he:starEach (e :: es) X.env = (false,eval e X.env) :: starEach es X.env:=by rfl) (hpl:(backTo pos (starEach es X.env)).any (·.1) = false:=by rfl):EO X g (.Call (.Name x p) (e :: es) [] pos) (dCB pr t):=
 EO.w (a1C hc hg hm hv ha.pe hn hdb he hpl) (a6L hr)
theorem b5P (hc:CallR X (.type T) r) (hr:RCF X.K r pf) (hg:Gl X x) (hm:X.mg x = none) (hv:bootBuiltins x = some (.type T)) (ha:BAO X g (e :: es) t) (hn:x ≠ "__name__" := by decide) (hdb:(x == ("__debug__" : Str)) = false:=by decide)
  (he:starEach (e :: es) X.env = (false,eval e X.env) :: starEach es X.env:=by rfl) (hpl:(backTo pos (starEach es X.env)).any (·.1) = false:=by rfl):FO X g (.Call (.Name x p) (e :: es) [] pos) (dCF pf t):=
 FO.w (a1C hc hg hm hv ha.pe hn hdb he hpl) (a80 hr)
end
theorem a6k {K:PySem.W.Frag} {N:Addr → Prop} {fa:Option Addr} {H:Hp} {d:D} {xs:List V} (r:O5 K N fa H [d] xs):∃ x,xs = [x] ∧ RepB K N fa H d x:=by
 obtain ⟨x,ys,rfl,r1,r2⟩:=r
 simp only [O5] at r2; subst r2
 exact ⟨x,rfl,r1⟩
noncomputable def one {α:Type} (p:D → Option α):List D → Option α
 | [d]=>p d
 | _=>none
theorem a6f {α:Type} {p:D → Option α} {ds:List D} {a:α} (h:one p ds = some a):∃ d,ds = [d] ∧ p d = some a:=by
 cases ds with
 | nil=>cases h
 | cons d r=>
  cases r with
  | nil=>exact ⟨d,rfl,h⟩
  | cons _ _=>cases h
noncomputable def i9:D → Option D
 | .tup ds=>some (.int (ds.length:Nat))
 | .lst ds=>some (.int (ds.length:Nat))
 | .str x=>some (.int (x.length:Nat))
 | _=>none
noncomputable def M0:D → Option D
 | .int i=>some (.int (if i < 0 then -i else i))
 | _=>none
noncomputable def M9:D → Option D
 | .tup ds=>some (.tup ds)
 | .lst ds=>some (.tup ds)
 | _=>none
noncomputable def a51:D → Option (List D)
 | .tup ds=>some ds
 | .lst ds=>some ds
 | _=>none
noncomputable def S9:List D → Option Bool
 | []=>some true
 | .bl b :: r=>(S9 r).map fun c=>b && c
 | _ :: _=>none
noncomputable def Z9:D → Option D
 | .lst ds=>(S9 ds).map .bl
 | _=>none
noncomputable def R0 (d:D):Bool:=d.plain && d.py.showable && d.py.canLay0 && decide (d.py.depth ≤ 64) && decide (d.py.shown.length ≤ sizeLine)
noncomputable def R3 (d:D):Option D:=if R0 d then some (.str d.py.shown) else none
section
variable {X:Cx} {K:PySem.W.Frag}
theorem b4g:CallR X (.builtin "len") (fun xs H Q=>(∃ p ys,xs = [.ref p] ∧ (SqL X.K H p ys ∨ SqT X.K H p ys) ∧ Q (.int ys.length) H) ∨ (∃ z,xs = [.str z] ∧ z.length ≤ sizeLine ∧ Q (.int z.length) H)):=call_len_seq.or b4x
theorem rc1 {r:List V → Hp → VK → Prop} {p:D → Option D} (h:∀ (g:Gh) (σ:L2.St) (H:Hp) (fa:Option Addr) (O:List Addr) (s:DS) (x:V) (d1 d:D) (Q:VK),GI K g σ H fa O s → RepB K (NN g.F fa O) fa H d1 x → p d1 = some d →
  (∀ v H',StE fa O H fa O H' → GI K g σ H' fa O s → Rep K (NN g.F fa O) fa H' d v → Q v H') → r [x] H Q):RCD K r (one p):=by
 intro g σ H fa O s xs ds d Q I rs e k
 obtain ⟨d1,rfl,e1⟩:=a6f e
 obtain ⟨x,rfl,rx⟩:=a6k rs
 exact h g σ H fa O s x d1 d Q I rx e1 k
theorem b4M:RCD K (fun xs H Q=>(∃ p ys,xs = [.ref p] ∧ (SqL K H p ys ∨ SqT K H p ys) ∧ Q (.int ys.length) H) ∨ (∃ z,xs = [.str z] ∧ z.length ≤ sizeLine ∧ Q (.int z.length) H)) (one i9):=rc1 fun g σ H fa O s x d1 d Q I r e k=>by
 cases d1 with
 | tup es=>
  cases e
  simp only [RepB,Rep] at r
  obtain ⟨a,ys,rfl,q,w⟩:=r
  exact .inl ⟨a,ys,rfl,.inr q,k _ H StE.refl I (by rw [w.length]; simp only [Rep])⟩
 | lst es=>
  cases e
  obtain ⟨a,ys,rfl,_,q,w⟩:=r
  exact .inl ⟨a,ys,rfl,.inl (SqL.of q),k _ H StE.refl I (by rw [w.length]; simp only [Rep])⟩
 | str z=>
  cases e
  simp only [RepB,Rep] at r
  obtain ⟨rfl,l⟩:=r
  exact .inr ⟨z,rfl,l,k _ H StE.refl I (by simp only [Rep])⟩
 | _=>cases e
theorem b2Z:RCD K (fun xs H Q=>∃ i,xs = [.int i] ∧ Q (.int (if i < 0 then -i else i)) H) (one M0):=rc1 fun g σ H fa O s x d1 d Q I r e k=>by
 cases d1 with
 | int i=>
  cases e
  simp only [RepB,Rep] at r
  subst r
  exact ⟨i,rfl,k _ H StE.refl I (by simp only [Rep])⟩
 | _=>cases e
theorem a7E:RCD K (fun xs H Q=>∃ p ys,xs = [.ref p] ∧ ((SqL K H p ys ∧ ∀ l,H l = none → Q (.ref l) (upd H l (.tup ys))) ∨ (SqT K H p ys ∧ Q (.ref p) H))) (one M9):=rc1 fun g σ H fa O s x d1 d Q I r e k=>by
 cases d1 with
 | tup es=>
  cases e
  simp only [RepB,Rep] at r
  obtain ⟨a,ys,rfl,q,w⟩:=r
  exact ⟨a,ys,rfl,.inr ⟨q,k _ H StE.refl I (by simp only [Rep]; exact ⟨a,ys,rfl,q,w⟩)⟩⟩
 | lst es=>
  cases e
  obtain ⟨a,ys,rfl,_,q,w⟩:=r
  refine ⟨a,ys,rfl,.inl ⟨SqL.of q,fun p hp=>?_⟩⟩
  have a2:StE fa O H fa O (upd H p (.tup ys)):=A3 hp
  refine k _ _ a2 (I.new hp) ?_
  simp only [Rep]
  exact ⟨p,ys,rfl,SqT.of u8,Reps.stp I a2.stp w⟩
 | _=>cases e
theorem b0N:RCF K (fun xs H Q=>∃ p ys,xs = [.ref p] ∧ (SqL K H p ys ∨ SqT K H p ys) ∧ ∀ l,H l = none → Q (.ref l) (upd H l (.lst ys))) (one a51):=by
 intro g σ H fa O s xs ds es Q I rs e k
 obtain ⟨d1,rfl,e1⟩:=a6f e
 obtain ⟨x,rfl,r⟩:=a6k rs
 cases d1 with
 | tup es'=>
  cases e1
  simp only [RepB,Rep] at r
  obtain ⟨a,ys,rfl,q,w⟩:=r
  exact ⟨a,ys,rfl,.inr q,fun p hp=>k p ys _ (A3 hp) (R5 I hp w) hp⟩
 | lst es'=>
  cases e1
  obtain ⟨a,ys,rfl,_,q,w⟩:=r
  exact ⟨a,ys,rfl,.inl (SqL.of q),fun p hp=>k p ys _ (A3 hp) (R5 I hp w) hp⟩
 | _=>cases e1
noncomputable def a8q (K:PySem.W.Frag):List V → Hp → VK → Prop:=fun xs H Q=>∃ N fa d x,xs = [x] ∧ RepB K N fa H d x ∧ R0 d = true ∧ Q (.str d.py.shown) H
theorem b4a (hu:X.A.units + 66 < cLine) (hg:X.A.guards = some []):CallR X (.builtin "repr") (a8q X.K):=by
 intro pins s σ H xs us Q I r h
 obtain ⟨N,fa,d,x,rfl,rx,ok,q⟩:=h
 obtain ⟨u,rfl,ru⟩:=K5 r
 unfold R0 at ok
 simp only [Bool.and_eq_true,decide_eq_true_eq] at ok
 obtain ⟨⟨⟨⟨hp,hs⟩,hl⟩,hd⟩,hz⟩:=ok
 obtain ⟨as,ra⟩:=K9 I d x u rx.o ru hp
 have fin:∀ (h':Heap) (tk:Nat) (t:Tok),(∀ b o,s.heap.get? b = some o → h'.get? b = some o) → EP X pins σ Q (.str d.py.shown t) { s with heap:=h',toks:=tk }:=fun h' tk t hk=>⟨.str d.py.shown,H,I.kept hk,⟨t,rfl⟩,q⟩
 cases d with
 | non=>
  simp only [RepB,Rep] at rx; subst rx; cases ru
  exact P.repr_of_none (fin s.heap _ _ fun _ _ e=>e)
 | bl b=>
  simp only [RepB,Rep] at rx; subst rx; cases ru
  have:=fin s.heap (s.toks + 1) s.toks fun _ _ e=>e
  refine P.repr_of_bool ?_
  cases b <;> simpa only [D.py,PyData.shown] using this
 | int i=>
  simp only [RepB,Rep] at rx; subst rx
  obtain ⟨t,rfl⟩:=ru
  have:=fin s.heap (s.toks + 1) s.toks fun _ _ e=>e
  simp only [D.py,PyData.showable,decide_eq_true_eq] at hs
  exact P.repr_of_int hs (by simpa only [D.py,PyData.shown] using this)
 | str z=>
  simp only [RepB,Rep] at rx; obtain ⟨rx,_⟩:=rx; subst rx
  obtain ⟨t,rfl⟩:=ru
  have:=fin s.heap (s.toks + 1) s.toks fun _ _ e=>e
  exact P.repr_of_str (by simpa only [D.py,PyData.shown] using this) (by simpa only [D.py,PyData.shown] using hz)
 | tup ds=>
  simp only [RepB,Rep] at rx
  obtain ⟨a,ys,rfl,_⟩:=rx
  cases ru
  exact repr_of_reads' ra hs (PyData.noDict_hsm (PyData.hasDict_of_canLay _ hl)) hg (by omega) (fun _ _ e=>e) (fun h' t tk hk=>fin h' tk t hk) hz
 | lst ds=>
  obtain ⟨a,ys,rfl,_⟩:=rx
  cases ru
  exact repr_of_reads' ra hs (PyData.noDict_hsm (PyData.hasDict_of_canLay _ hl)) hg (by omega) (fun _ _ e=>e) (fun h' t tk hk=>fin h' tk t hk) hz
 | feed=>cases hp
 | scr _=>cases hp
 | fn _=>cases hp
theorem b4U:RCD K (a8q K) (one R3):=rc1 fun g σ H fa O s x d1 d Q I r e k=>by
 unfold R3 at e
 by_cases h:R0 d1 = true
 ·rw [if_pos h] at e
  cases e
  refine ⟨_,_,d1,x,rfl,r,h,k _ H StE.refl I ?_⟩
  simp only [Rep]
  unfold R0 at h
  simp only [Bool.and_eq_true,decide_eq_true_eq] at h
  exact ⟨trivial,h.2⟩
 ·rw [if_neg h] at e; cases e
noncomputable def a7p (K:PySem.W.Frag):List V → Hp → VK → Prop:=fun xs H Q=>∃ (a:Addr) (bs:List Bool),xs = [.ref a] ∧ SqL K H a (bs.map V.bl) ∧ Q (.bl (bs.all fun b=>b)) H
theorem a8J:∀ {bs:List Bool} {us:List Value},Vals (bs.map V.bl) us → us = bs.map Value.bool
 | [],_,.nil=>rfl
 | b :: r,_,.cons q t=>by
  cases (show _ = Value.bool b from q)
  rw [a8J t]
  rfl
theorem a5Z (hc:X.calm = true):CallR X (.builtin "all") (a7p X.K):=by
 intro pins s σ H xs us Q I r h
 obtain ⟨a,bs,rfl,hq,q⟩:=h
 obtain ⟨u,rfl,ru⟩:=K5 r
 cases ru
 obtain ⟨its,rv,p,_⟩:=I.list hq
 have eb:=a8J rv
 subst eb
 refine call_all_walk (wpAny_pyIter_list p.isList ?_)
 have hl:s.heap.IsList a (bs.map Value.bool).toArray:=p.isList
 have ha:a < s.heap.objs.size:=by obtain ⟨o,e,_⟩:=hl; exact Heap.lt_size e
 refine ⟨s.heap.objs.size,_,_,_,_,_,fun i=>(bs[i]?).getD true,rfl,Walks.list (A:=X.A.in1) (I.ok.hd hc) s.heap.objs.size a (Nat.ne_of_lt ha) (bs.map Value.bool).toArray,⟨⟨_,Heap.get?_push_size _ rfl,rfl,rfl⟩,?_⟩,?_,fun h' tk hk=>?_⟩
 ·obtain ⟨o,e,c⟩:=hl
  exact ⟨o,Heap.get?_push_of_some _ e,c⟩
 ·intro i v s' Q' E' hv hQ
  have hv':(bs.map Value.bool)[i]? = some v:=by simpa using hv
  rw [List.getElem?_map] at hv'
  cases e:bs[i]? with
  | none=>rw [e] at hv'; cases hv'
  | some b=>
   rw [e] at hv'
   cases hv'
   have hQ':Q' b s':=by simpa [e] using hQ
   exact wpAny_truthy_bool hQ'
 ·have e1:((List.range (bs.map Value.bool).toArray.size).all fun i=>(bs[i]?).getD true) = bs.all fun b=>b:=by
   rw [List.size_toArray,List.length_map,Bool.eq_iff_iff,List.all_eq_true,List.all_eq_true]
   constructor
   ·intro h b hb
    obtain ⟨i,hi,e⟩:=List.mem_iff_getElem.mp hb
    have:=h i (List.mem_range.mpr hi)
    rw [List.getElem?_eq_getElem hi,e] at this
    exact this
   ·intro h i hi
    rw [List.mem_range] at hi
    rw [List.getElem?_eq_getElem hi]
    exact h _ (List.getElem_mem hi)
  rw [e1]
  refine ⟨.bl _,H,I.kept fun b o e=>hk b o ?_ (Heap.get?_push_of_some _ e),rfl,q⟩
  simp only [List.mem_singleton]
  exact Nat.ne_of_lt (Heap.lt_size e)
theorem a5g:∀ {ds:List D} {c:Bool},S9 ds = some c → ∃ bs:List Bool,ds = bs.map D.bl ∧ c = bs.all fun b=>b
 | [],c,h=>by cases h; exact ⟨[],rfl,rfl⟩
 | .bl b :: r,c,h=>by
  simp only [S9] at h
  refine E7 h fun c' h1 h2=>?_
  obtain ⟨bs,e1,e2⟩:=a5g h1
  exact ⟨b :: bs,by rw [e1]; rfl,by rw [← h2,e2]; rfl⟩
 | .non :: r,c,h=>by cases h
 | .int _ :: r,c,h=>by cases h
 | .str _ :: r,c,h=>by cases h
 | .tup _ :: r,c,h=>by cases h
 | .lst _ :: r,c,h=>by cases h
 | .feed :: r,c,h=>by cases h
 | .scr _ :: r,c,h=>by cases h
 | .fn _ :: r,c,h=>by cases h
theorem a5P {N:Addr → Prop} {fa:Option Addr} {H:Hp}:∀ {bs:List Bool} {xs:List V},Reps K N fa H (bs.map D.bl) xs → xs = bs.map V.bl
 | [],xs,h=>by simpa only [List.map_nil,Reps] using h
 | b :: r,xs,h=>by
  simp only [List.map_cons,Reps,Rep] at h
  obtain ⟨x,ys,rfl,rfl,h⟩:=h
  rw [a5P h]
  rfl
theorem a83:RCD K (a7p K) (one Z9):=rc1 fun g σ H fa O s x d1 d Q I r e k=>by
 cases d1 with
 | lst es=>
  refine E7 (show (S9 es).map D.bl = some d from e) fun c h1 h2=>?_
  subst h2
  obtain ⟨bs,rfl,rfl⟩:=a5g h1
  obtain ⟨a,ys,rfl,_,q,w⟩:=r
  have:=a5P w
  subst this
  exact ⟨a,bs,rfl,SqL.of q,k _ H StE.refl I (by simp only [Rep])⟩
 | _=>cases e
end
end DL
namespace DL
open PySem PySem.Spec L2
noncomputable def FS.get (key:Str) (f:FS):Option D:=
 if f.kind = 0 then if key = "cells" then some (.lst (f.cells.map .int)) else if key = "at" then some (.int f.pos) else if key = "left" then some (.int f.left) else if key = "turn" then some (.int f.turn) else none else none
noncomputable def FS.put (key:Str) (n:Int) (f:FS):Option FS:=
 if f.kind = 0 then if key = "at" then some { f with pos:=n } else if key = "left" then some { f with left:=n } else if key = "turn" then some { f with turn:=n } else none else none
noncomputable def dFG (i:Nat) (key:Str):DE:=fun s=>match s.sl[i]? with
 | some (.val .feed)=>s.fs.bind fun f=>(f.get key).map fun d=>(d,s)
 | _=>none
section
variable {X:Cx} {g:Gh} {i:Nat} {x key:Str} {p1 p2 pos pos':Pos} {j:Nat}
theorem b3j (xs:List V) (h:xs.length ≤ 63):J7 xs none (some 63) = xs:=by
 unfold J7
 have e1:HT.sIx xs.length 0 none = 0:=rfl
 have e2:HT.sIx xs.length xs.length (some 63) = xs.length:=by
  have:=HT.sIx_nat xs.length xs.length 63
  rw [show ((63:Nat):Int) = 63 from rfl] at this
  rw [this]; omega
 rw [e1,e2,List.drop_zero,Nat.sub_zero,List.take_length]
end
noncomputable def FS.tget (n:Int) (f:FS):Option D:=
 if f.kind = 0 then none else if n = 0 then some (.lst (f.cells.map .int)) else if n = 1 then some (.int f.pos) else if n = 2 then some (.int f.left) else if n = 3 ∧ f.kind ≠ 1 then some (.int f.turn) else none
noncomputable def FS.tput (n v:Int) (f:FS):Option FS:=
 if f.kind = 0 then none else if n = 1 then some { f with pos:=v } else if n = 2 then some { f with left:=v } else if n = 3 ∧ f.kind ≠ 1 then some { f with turn:=v } else none
noncomputable def dTG (i:Nat) (n:Int):DE:=fun s=>match s.sl[i]? with
 | some (.val .feed)=>s.fs.bind fun f=>(f.tget n).map fun d=>(d,s)
 | _=>none
noncomputable def dTP (i:Nat) (n:Int) (fe:DE):DM:=fun s=>(fe s).bind fun x=>match x.2.sl[i]?,x.1 with
 | some (.val .feed),.int v=>x.2.fs.bind fun f=>(f.tput n v).map fun f'=>(.next,{ x.2 with fs:=some f' })
 | _,_=>none
theorem FS.tget_val {n:Int} {f:FS} {d:D} (h:f.tget n = some d) (c:Addr):∃ v,atI (B9 c f) n = some v ∧ ((v = .ref c ∧ d = .lst (f.cells.map .int)) ∨ ∃ i,v = .int i ∧ d = .int i) ∧ f.kind ≠ 0:=by
 unfold FS.tget at h
 split at h
 ·cases h
 rename_i hk
 unfold B9
 split at h
 ·rename_i e; subst e; cases h
  refine ⟨.ref c,?_,.inl ⟨rfl,rfl⟩,hk⟩
  split <;> rfl
 split at h
 ·rename_i e; subst e; cases h
  refine ⟨.int f.pos,?_,.inr ⟨_,rfl,rfl⟩,hk⟩
  split <;> rfl
 split at h
 ·rename_i e; subst e; cases h
  refine ⟨.int f.left,?_,.inr ⟨_,rfl,rfl⟩,hk⟩
  split <;> rfl
 split at h
 ·rename_i e; obtain ⟨e,e2⟩:=e; subst e; cases h
  refine ⟨.int f.turn,?_,.inr ⟨_,rfl,rfl⟩,hk⟩
  rw [if_neg e2]; rfl
 ·cases h
theorem FS.tput_val {n v:Int} {f f':FS} (h:f.tput n v = some f') (c:Addr):∃ j,ixN (B9 c f).length n = some j ∧ (B9 c f).set j (.int v) = B9 c f' ∧ f'.cells = f.cells ∧ f.kind ≠ 0 ∧ f'.kind ≠ 0:=by
 unfold FS.tput at h
 split at h
 ·cases h
 rename_i hk
 split at h
 ·rename_i e; subst e; cases h
  refine ⟨1,?_,?_,rfl,hk,hk⟩
  ·unfold B9; split <;> rfl
  ·by_cases z:f.kind = 1
   ·simp [B9,z]
   ·simp [B9,z]
 split at h
 ·rename_i e; subst e; cases h
  refine ⟨2,?_,?_,rfl,hk,hk⟩
  ·unfold B9; split <;> rfl
  ·by_cases z:f.kind = 1
   ·simp [B9,z]
   ·simp [B9,z]
 split at h
 ·rename_i e; obtain ⟨e,e2⟩:=e; subst e; cases h
  refine ⟨3,?_,?_,rfl,hk,hk⟩
  ·unfold B9; rw [if_neg e2]; rfl
  ·simp [B9,e2]
 ·cases h
section
variable {X:Cx} {g:Gh} {i:Nat} {x:Str} {n:Int} {p1 p2 pos pos':Pos} {j:Nat}
theorem b26 (hv:PE X (.Name x p1) (N5 i)):EO X g (.Subscript (.Name x p1) (.Constant (.int n) j p2) pos) (dTG i n):=
 EO.w (a5l ix_list hv P6 (fun _ _=>rfl)) fun σ H Q hQ=>by
  refine hQ.elim fun fa O s d s' I e k=>?_
  unfold dTG at e
  cases q:s.sl[i]? with
  | none=>rw [q] at e; cases e
  | some z=>
   rw [q] at e
   cases z with
   | no=>cases e
   | own _=>cases e
   | val dz=>
    cases dz with
    | feed=>
     refine J6 e fun f h1 h2=>?_
     refine E7 h2 fun d' h3 h4=>?_
     cases h4
     obtain ⟨u,e1,r⟩:=SlR.val I.sl q
     simp only [Rep] at r
     obtain ⟨a,ha,rfl⟩:=r
     have fd:=I.fd
     rw [h1,ha] at fd
     obtain ⟨_,c,hc,nc,lc⟩:=fd
     obtain ⟨v,hval,hd,hk⟩:=FS.tget_val h3 c
     rw [a1E hk] at hc
     refine ⟨_,e1,a,_,n,v,rfl,rfl,SqL.of hc,hval,k v H fa O StE.refl I ?_⟩
     rcases hd with ⟨rfl,rfl⟩ | ⟨n,rfl,rfl⟩
     ·simp only [Rep]
      exact ⟨c,_,rfl,by rw [ha]; exact nc,lc,Reps.ints⟩
     ·simp only [Rep]
    | _=>cases e
theorem b1F {e:Expr} {fe:DE} (hv:PE X (.Name x p1) (N5 i)) (he:EO X g e fe) (hs:swapsWithSole [.Subscript (.Name x p1) (.Constant (.int n) j p2) pos'] e pos.line X.env = pure false:=by rfl) (hw:swappedStores [.Subscript (.Name x p1) (.Constant (.int n) j p2) pos'] e X.env = pure none:=by rfl) :
  SO X g (.Assign [.Subscript (.Name x p1) (.Constant (.int n) j p2) pos'] e pos) (dTP i n fe):=
 SO.w (a6C he.pe (b5Y hv P6 b6q) hs hw) fun E σ H hQ=>by
  refine hQ.elim fun fa O s fl s' I q k=>?_
  refine t9 q fun d s1 h1 h2=>?_
  simp only [] at h2
  cases q1:s1.sl[i]? with
  | none=>rw [q1] at h2; cases h2
  | some z=>
   rw [q1] at h2
   cases z with
   | no=>cases h2
   | own _=>cases h2
   | val dz=>
    cases dz with
    | feed=>
     cases d with
     | int w=>
      simp only [] at h2
      refine J6 h2 fun f h3 h4=>?_
      refine E7 h4 fun f' h5 h6=>?_
      cases h6
      refine ⟨fa,O,s,.int w,s1,I,h1,fun v H1 f1 O1 a1 I1 r=>?_⟩
      simp only [Rep] at r
      subst r
      obtain ⟨u,e1,ru⟩:=SlR.val I1.sl q1
      simp only [Rep] at ru
      obtain ⟨a,ha,rfl⟩:=ru
      have fd:=I1.fd
      rw [h3,ha] at fd
      obtain ⟨lc63,c,hc,nc,lc⟩:=fd
      obtain ⟨m,hix,hput,hcell,hk,hk'⟩:=FS.tput_val h5 c
      rw [a1E hk] at hc
      refine ⟨_,e1,a,_,n,m,rfl,rfl,hc,hix,?_⟩
      rw [hput]
      have a2:StE f1 O1 H1 f1 O1 (upd H1 a (.lst (B9 c f'))):=⟨fun _ h=>h,.inl rfl,fun b w e nb=>by rw [m9 (fun z=>nb (by rw [z]; exact ha))]; exact e,fun b z=>by
       by_cases hb:b = a
       ·subst hb; rw [u8] at z; cases z
       ·rw [m9 hb] at z; exact z⟩
      have cr:=I1.car a2.stp
      refine k σ _ f1 O1 (a1.stp.trans a2.stp) ⟨I1.nd,SlR.go cr (fun b xs hb e=>a2.same b _ e fun z=>I1.nf b z hb) I1.sl,I1.fr,?_,I1.tr,I1.ff,?_,I1.nf⟩
      ·refine ⟨fun b hb=>(by cases hb),I1.st.fe,fun b w e _ nb=>?_,fun b z=>I1.st.mon b (a2.mon b z)⟩
       refine a2.same b w (I1.st.same b w e (by simp) nb) fun z=>?_
       rcases I1.st.fe with y | ⟨y,y2⟩
       ·rw [y] at z; exact nb z
       ·rw [y2 b z] at e; cases e
      ·rw [ha]
       refine ⟨by rw [hcell]; exact lc63,c,by rw [a1E hk',u8],nc,?_⟩
       rw [m9 (fun z=>nc (.inr (.inr (by rw [z])))),hcell]
       exact lc
     | _=>cases h2
    | _=>cases h2
end
structure Cal (P:Program) (w:World) (K:PySem.W.Frag) (mg:Str → Option Value) (base:Heap) (k:Nat) (x:Str) (ps:List Str) (m:DFn):Prop where
 ex:∃ (f:Addr) (fd:FuncData),FnD P w K mg base k f fd ps m ∧ mg x = some (.ref f) ∧ PySem.W.keepIn K (.ref f) = true ∧ Binds K fd ps []
structure Blt (mg:Str → Option Value):Prop where
 len:mg "len" = none
 range:mg "range" = none
 abs:mg "abs" = none
 tuple:mg "tuple" = none
 list:mg "list" = none
 int:mg "int" = none
 bool:mg "bool" = none
 str:mg "str" = none
 repr:mg "repr" = none
 all:mg "all" = none
 isinstance:mg "isinstance" = none
 zip:mg "zip" = none
 enumerate:mg "enumerate" = none
 min:mg "min" = none
 max:mg "max" = none
 reversed:mg "reversed" = none
 any:mg "any" = none
 sum:mg "sum" = none
 sorted:mg "sorted" = none
section
variable {X:Cx} {g:Gh} {k:Nat} {ps:List Str} {m:DFn} {x:Str} {p pos:Pos} {e:Expr} {es:List Expr} {t:DA}
theorem b5g (C:Cal X.prog X.w X.K X.mg X.base k x ps m) (k':Nat) (hr:Room k' X.A) (hk:k ≤ k') (hg:Gl X x)
  (ha:AO X g (e :: es) t) (hn:∀ s ds s',t s = some (ds,s') → ds.length = ps.length) (hdb:(x == ("__debug__" : Str)) = false:=by decide) (he:starEach (e :: es) X.env = (false,eval e X.env) :: starEach es X.env:=by rfl) (hpl:(backTo pos (starEach es X.env)).any (·.1) = false:=by rfl) :
  EO X g (.Call (.Name x p) (e :: es) [] pos) (e5 m t):=by
 obtain ⟨f,fd,F,hm,hkp,hb⟩:=C.ex
 exact b04 F (hr.mono hk) hg hm hkp hb ha hn hdb he hpl
end
theorem b6u {P:Program} {w:World} {K:PySem.W.Frag} {mg:Str → Option Value} {base:Heap} {x:Str} {st:Stmt} {f:Addr} {fd:FuncData} {N ps:List Str} {k:Nat} {b:DM} (F:Fun K x x st f fd) (hm:mg x = some (.ref f)) (hb:Binds K fd ps []) (S:FnScope N ps (k9 st))
  (hbody:∀ (cdv:Value) (A:Around) (outer:List Env) (s:Shared) (H:Hp) (E:XK) (g:Gh),Room k (A.deeper (PyProof.Rows.envOfC x (k9 st) s.heap.objs.size f cdv)) → SSO (N7 CX0 P w K mg base N x (k9 st) f cdv A outer s H E).nox g (J3 st) b) :
  Cal P w K mg base (k + 1) x ps (mFn N.length b):=⟨f,fd,a7v F S hbody,hm,F.kp,hb⟩
theorem u64 {A:Around} {k:Nat} (hr:Room k A):A.units + 64 < cLine:=by have:=hr.un; omega
theorem u66 {A:Around} {k:Nat} (hr:Room k A):A.units + 66 < cLine:=by have:=hr.un; omega
theorem b4m:bootBuiltins ("len" : Str) = some (.builtin "len"):=by decide +kernel
theorem b3B:bootBuiltins ("abs" : Str) = some (.builtin "abs"):=by decide +kernel
theorem b3M:bootBuiltins ("repr" : Str) = some (.builtin "repr"):=by decide +kernel
theorem a7t:bootBuiltins ("all" : Str) = some (.builtin "all"):=by decide +kernel
theorem b1c:bootBuiltins ("isinstance" : Str) = some (.builtin "isinstance"):=by decide +kernel
theorem J0:bootBuiltins ("tuple" : Str) = some (.type "tuple"):=by decide +kernel
theorem a3t:bootBuiltins ("list" : Str) = some (.type "list"):=by decide +kernel
theorem a0k:bootBuiltins ("int" : Str) = some (.type "int"):=by decide +kernel
theorem a0X:bootBuiltins ("bool" : Str) = some (.type "bool"):=by decide +kernel
theorem a4c:bootBuiltins ("str" : Str) = some (.type "str"):=by decide +kernel
theorem a0K {κ:Type} [BEq κ] [LawfulBEq κ] {β:Type}:∀ {l:List (κ × β)} {x:κ} {v:β},l.lookup x = some v → (x,v) ∈ l
 | [],_,_,h=>by simp at h
 | (a,b) :: r,x,v,h=>by
  rw [List.lookup_cons] at h
  cases e:x == a with
  | true=>
   rw [e] at h
   cases h
   rw [eq_of_beq e]
   exact List.mem_cons_self ..
  | false=>
   rw [e] at h
   exact List.mem_cons_of_mem _ (a0K h)
noncomputable def hasAll (names:List (Str × NameKind)) (cl:List (Str × Addr)):Bool:=names.all fun p=>!(p.2 == .cell || p.2 == .free) || (cl.lookup p.1).isSome
theorem a45 {names:List (Str × NameKind)} {cl:List (Str × Addr)} (h:hasAll names cl = true):∀ x,(names.lookup x = some .cell ∨ names.lookup x = some .free) → ∃ c,cl.lookup x = some c:=fun x hx=>by
 have key:∀ kd,names.lookup x = some kd → (kd == NameKind.cell || kd == NameKind.free) = true → ∃ c,cl.lookup x = some c:=fun kd e q=>by
  have m:=a0K e
  have z:=List.all_eq_true.mp h _ m
  simp only [q,Bool.not_true,Bool.false_or] at z
  exact Option.isSome_iff_exists.mp z
 rcases hx with e | e
 ·exact key _ e rfl
 ·exact key _ e rfl
inductive CapL (X:Cx) (scope:Scope):List Nat → List Str → Prop where
 | nil:CapL X scope [] []
 | cons {i:Nat} {y:Str} {r:List Nat} {ys:List Str} (h1:X.N[i]? = some y) (h2:X.env.scope.names.lookup y = some .cell ∨ X.env.scope.names.lookup y = some .free)
   (h3:(relabel scope X.env).names.lookup y = some .cell ∨ (relabel scope X.env).names.lookup y = some .free) (t:CapL X scope r ys):CapL X scope (i :: r) (y :: ys)
theorem CapL.len {X:Cx} {scope:Scope}:∀ {idx:List Nat} {ys:List Str},CapL X scope idx ys → ys.length = idx.length
:= by
 intro idx ys h
 induction h with
 | nil=>rfl
 | cons _ _ _ t ih=>rw [List.length_cons,List.length_cons,ih]
theorem CapL.at {X:Cx} {scope:Scope}:∀ {idx:List Nat} {ys:List Str},CapL X scope idx ys → ∀ (j i:Nat) (y:Str),idx[j]? = some i → ys[j]? = some y →
  X.N[i]? = some y ∧ (X.env.scope.names.lookup y = some .cell ∨ X.env.scope.names.lookup y = some .free) ∧ ((relabel scope X.env).names.lookup y = some .cell ∨ (relabel scope X.env).names.lookup y = some .free)
:= by
 intro idx ys h
 induction h with
 | nil=>intro j i y h; cases h
 | cons h1 h2 h3 t ih=>
  intro j i y e1 e2
  cases j with
  | zero=>
   cases e1
   cases e2
   exact ⟨h1,h2,h3⟩
  | succ j=>exact ih j i y e1 e2
inductive SubL (cells:List (Str × Addr)):List (Str × Addr) → Prop where
 | nil:SubL cells []
 | cons {x:Str} {c:Addr} {r:List (Str × Addr)} (h:cells.lookup x = some c) (t:SubL cells r):SubL cells ((x,c) :: r)
theorem SubL.mem {cells:List (Str × Addr)}:∀ {cl:List (Str × Addr)},SubL cells cl → ∀ x c,(x,c) ∈ cl → cells.lookup x = some c
:= by
 intro cl h
 induction h with
 | nil=>intro x c h; cases h
 | cons e t ih=>
  intro x c h
  rcases List.mem_cons.mp h with z | z
  ·cases z; exact e
  ·exact ih x c z
theorem S5 {X:Cx} {scope:Scope} {cl:List (Str × Addr)} {x:Str} {caps:List Str} {idx:List Nat} (clos:closureFor scope X.env = pure cl) (sub:SubL X.env.cells cl) (cell:∀ y ∈ scope.names,y.2 ≠ .cell) (kind:scope.kind = .function)
  (names:∀ y ∈ scope.names,y.2 = .local → scope.names.lookup y.1 = some .local) (has:hasAll (relabel scope X.env).names cl = true) (cap:CapL X scope idx caps):CompOk X scope cl (x :: caps) 1 idx:=
 ⟨clos,fun y c e=>sub.mem y c (a0K e),cell,kind,names,a45 has,by rw [List.length_cons,cap.len,Nat.add_comm],fun j i y e1 e2=>cap.at j i y e1 (by rw [Nat.add_comm] at e2; simpa using e2)⟩
noncomputable def o0 (i j:Nat) (f:DA):DM:=fun s=>(f s).bind fun x=>match x.1 with
 | [a,b]=>some (.next,{ x.2 with sl:=(x.2.sl.set i (.val a)).set j (.val b) })
 | _=>none
section
variable {X:Cx} {g:Gh}
theorem b1V {i j:Nat} {x y:Str} {a b:Expr} {f:DA} {px py pt pos:Pos} {kt k2 pt2} (hc:X.calm = true) (hN:X.N.Nodup) (hi:X.N[i]? = some x) (hj:X.N[j]? = some y) (hij:i ≠ j)
  (hx:X.env.scope.names.lookup x = some .local) (hy:X.env.scope.names.lookup y = some .local) (ha:AO X g [a,b] f)
  (hw:swappedStores [.Tuple [.Name x px,.Name y py] kt pt] (.Tuple [a,b] k2 pt2) X.env = pure (some [x,y]))
  (hs:swapsWithSole [.Tuple [.Name x px,.Name y py] kt pt] (.Tuple [a,b] k2 pt2) pos.line X.env = pure false:=by rfl) :
  SO X g (.Assign [.Tuple [.Name x px,.Name y py] kt pt] (.Tuple [a,b] k2 pt2) pos) (o0 i j f):=SO.w (b1M hc hN hi hj hij hx hy ha.pe hw hs) fun E σ H hQ=>by
 refine hQ.elim fun fa O s fl s' I q k=>?_
 refine t9 q fun ds s1 h1 h2=>?_
 refine ⟨fa,O,s,ds,s1,I,h1,fun vs H1 f1 O1 a1 I1 r=>?_⟩
 match ds,h2,r with
 | [d1,d2],h2,r=>
  simp only [Option.some.injEq,Prod.mk.injEq] at h2
  obtain ⟨e1,e2⟩:=h2
  subst e1; subst e2
  simp only [Reps] at r
  obtain ⟨v,ys,rfl,rv,u,zs,rfl,ru,rfl⟩:=r
  refine ⟨v,u,rfl,?_⟩
  obtain ⟨P,sub,I2⟩:=I1.put i rv
  have a2:StE f1 O1 H1 f1 P H1:=a0J sub
  obtain ⟨P3,sub3,I3⟩:=I2.put j (Rep.stp I1 a2.stp ru)
  exact k _ H1 f1 P3 (a1.stp.trans (a2.stp.trans (a0J sub3).stp)) I3
end
theorem walkD {l:PySem.W.OpenLaw} {q:Program} {loose:List Str} {XP:(Str → Option Value) → Heap → Prop} {YP:World → Heap → Prop} {d:DefRec} {K:Params → PySem.W.Frag} {m:DFn} {k:Nat} (hn:l.most = some 63) (hdf:d.params.defaults = []) (hr:Room k callerA)
  (hY:∀ (w:World) (h:Heap),YP w h → (K w.params).In h)
  (F:∀ (w:World) (mg:Str → Option Value) (fa:Addr) (h:Heap),(K w.params).In h → h.Ns mainGlobals mg → mg d.name = some (.ref fa) →
   ∃ fd:FuncData,(∀ (s:Shared) (u:Value),BindsTo s fd ⟨[u],[]⟩ [("_law_script",u)]) ∧ ∀ base:Heap,(K w.params).In base → base.Ns mainGlobals mg → FnOk l.prog w (K w.params) mg base CX0 k fa fd ["_law_script"] (spD (K w.params) 1 m))
  (math:∀ ns:List Int,ns.length ≤ 63 → ∃ fs',m [.scr ns] none = some (.bl true,fs')) :
  PySem.W.WalkO q loose XP YP l.row.toRowW d [] (fun f vs=>PySem.call f vs):=
 L2.walk_of (n:=63) (k:=k) (x := "_law_script") (CX:=fun _=>CX0) (sp:=fun w=>spD (K w.params) 1 m) hn (by decide) hdf hr hY F (fun w H a ns hl hO hS=>by
  obtain ⟨fs',e⟩:=math ns hl
  refine ⟨fun _=>False,none,[.scr ns],none,.bl true,fs',fun b z=>z.elim,fun a z=>(by cases z),?_,trivial,e,rfl,fun v H' fa' _ _ r=>by simpa only [Rep] using r⟩
  simp only [Reps,Rep]
  refine ⟨_,_,rfl,⟨hl,a,rfl,?_⟩,rfl⟩
  rcases hS with (z | ⟨o,z⟩) | z
  ·rcases hO a with y | ⟨o,xs,y⟩ <;> · rw [z] at y; cases y
  ·exact .inl ⟨o,z⟩
  ·exact .inr z) fun _ _ _ _ _ z=>z
noncomputable def tyN:D → Option String
 | .non=>some "NoneType"
 | .bl _=>some "bool"
 | .int _=>some "int"
 | .str _=>some "str"
 | .tup _=>some "tuple"
 | .lst _=>some "list"
 | _=>none
noncomputable def w4 (T C:String):Bool:=T == C || (T == "bool" && C == "int")
noncomputable def u7 (C:String) (d:D):Option D:=(tyN d).map fun T=>.bl (w4 T C)
noncomputable def Kit (K:PySem.W.Frag) (C:String):Prop:=∀ T,T = "NoneType" ∨ T = "bool" ∨ T = "int" ∨ T = "str" ∨ T = "tuple" ∨ T = "list" → PySem.W.kitOne K (.type T) (.type C) = some (w4 T C)
theorem a4d {K:PySem.W.Frag}:Kit K "int" := by rintro T (rfl | rfl | rfl | rfl | rfl | rfl) <;> rfl
theorem a3r {K:PySem.W.Frag}:Kit K "bool" := by rintro T (rfl | rfl | rfl | rfl | rfl | rfl) <;> rfl
theorem a5c {K:PySem.W.Frag}:Kit K "str" := by rintro T (rfl | rfl | rfl | rfl | rfl | rfl) <;> rfl
theorem L7 {K:PySem.W.Frag}:Kit K "tuple" := by rintro T (rfl | rfl | rfl | rfl | rfl | rfl) <;> rfl
noncomputable def b14 (K:PySem.W.Frag) (C:String):List V → Hp → VK → Prop:=fun xs H Q=>∃ N fa d T x,xs = [x,.ty C] ∧ RepB K N fa H d x ∧ tyN d = some T ∧ Q (.bl (w4 T C)) H
theorem b0X {X:Cx} {C:String} (hk:Kit X.K C):CallR X (.builtin "isinstance") (b14 X.K C):=by
 intro pins s σ H xs us Q I r h
 obtain ⟨N,fa,d,T,x,rfl,rx,hT,q⟩:=h
 obtain ⟨u,c,rfl,ru,rc⟩:=b1g r
 cases (show c = Value.type C from rc)
 have fin:∀ tk,EP X pins σ Q (.bool (w4 T C)) { s with toks:=tk }:=fun tk=>⟨.bl (w4 T C),H,I.tok tk,rfl,q⟩
 cases d with
 | non=>
  cases hT
  simp only [RepB,Rep] at rx; subst rx; cases ru
  exact PySem.W.kia_one PySem.W.kitx_none I.kIn True.intro (hk _ (by simp)) (fun z=>nomatch z) fin
 | bl b=>
  cases hT
  simp only [RepB,Rep] at rx; subst rx; cases ru
  exact PySem.W.kia_one PySem.W.kitx_bool I.kIn True.intro (hk _ (by simp)) (fun z=>nomatch z) fin
 | int i=>
  cases hT
  simp only [RepB,Rep] at rx; subst rx; obtain ⟨t,rfl⟩:=ru
  exact PySem.W.kia_one PySem.W.kitx_int I.kIn True.intro (hk _ (by simp)) (fun z=>nomatch z) fin
 | str i=>
  cases hT
  simp only [RepB,Rep] at rx; obtain ⟨rx,_⟩:=rx; subst rx; obtain ⟨t,rfl⟩:=ru
  exact PySem.W.kia_one PySem.W.kitx_str I.kIn True.intro (hk _ (by simp)) (fun z=>nomatch z) fin
 | tup ds=>
  cases hT
  simp only [RepB,Rep] at rx
  obtain ⟨a,ys,rfl,sq,_⟩:=rx
  cases ru
  obtain ⟨its,_,⟨o,h1,h2,_⟩,_⟩:=I.tuple sq
  exact PySem.W.kia_one PySem.W.kitx_tuple I.kIn ⟨o,h1,h2⟩ (hk _ (by simp)) (fun z=>nomatch z) fin
 | lst ds=>
  cases hT
  obtain ⟨a,ys,rfl,_,sq,_⟩:=rx
  cases ru
  obtain ⟨its,_,⟨o,n,h1,h2,_⟩,_⟩:=I.list (SqL.of sq)
  exact PySem.W.kia_one PySem.W.kitx_list I.kIn ⟨o,h1,h2⟩ (hk _ (by simp)) (fun z=>nomatch z) fin
 | feed=>cases hT
 | scr _=>cases hT
 | fn _=>cases hT
section
variable {X:Cx} {g:Gh} {a b c:Expr} {fa fb fc:DE} {pos:Pos}
theorem C2 {cn:Str} {C:String} {p p2:Pos} (hk:Kit X.K C) (hg:Gl X "isinstance") (hm:X.mg "isinstance" = none) (hgc:Gl X cn) (hmc:X.mg cn = none) (hvc:bootBuiltins cn = some (.type C)) (ha:BO X g a fa)
  (hn:cn ≠ "__name__" := by decide) (hd:(cn == ("__debug__" : Str)) = false:=by decide) (hs1:starEach [.Name cn p2] X.env = (false,eval (.Name cn p2) X.env) :: starEach [] X.env:=by rfl)
  (he:starEach [a,.Name cn p2] X.env = (false,eval a X.env) :: starEach [.Name cn p2] X.env:=by rfl) (hpl:(backTo pos (starEach [.Name cn p2] X.env)).any (·.1) = false:=by rfl) :
  EO X g (.Call (.Name "isinstance" p) [a,.Name cn p2] [] pos) (dUn (u7 C) fa):=
 EO.w (a7R (b0X hk) hg hm b1c (G9 ha.pe (G9 (a9l (v:=.ty C) hgc hmc hvc rfl hn hd) N9 hs1) he) (by decide) (by decide) he hpl) fun σ H Q hQ=>by
  refine hQ.elim fun f0 O s d s' I e k=>?_
  refine t9 e fun x s1 h1 h=>?_
  refine E7 h fun d' h3 h=>?_
  simp only [Prod.mk.injEq] at h
  obtain ⟨e1,e2⟩:=h
  subst e1; subst e2
  refine E7 h3 fun T h4 h5=>?_
  subst h5
  exact ⟨f0,O,s,x,s1,I,h1,fun v H1 f1 O1 a1 I1 r1=>⟨_,_,x,T,v,rfl,r1,h4,k _ H1 f1 O1 a1 I1 (by simp only [Rep])⟩⟩
noncomputable def S4 (p p':D → D → Option D) (fa fb fc:DE):DE:=fun s=>(fa s).bind fun x=>(fb x.2).bind fun y=>(p x.1 y.1).bind fun z=>match z with
 | .bl true=>(fc y.2).bind fun w=>(p' y.1 w.1).map fun d=>(d,w.2)
 | .bl false=>some (.bl false,y.2)
 | _=>none
theorem a5A {r r':R2} {p p':D → D → Option D} (hr:R2D X.K r p) (hr':R2D X.K r' p') (σ:L2.St) (H:Hp) (Q:VK) (h:liftE X.K g (S4 p p' fa fb fc) σ H Q):a3o r r' (liftB X.K g fa) (liftB X.K g fb) (liftB X.K g fc) σ H Q:=by
 obtain ⟨f0,O,s,d,s',I,e,k⟩:=h
 refine t9 e fun x s1 h1 e=>?_
 refine t9 e fun y s2 h2 e=>?_
 refine J6 e fun z h3 e=>?_
 refine ⟨f0,O,s,x,s1,I,h1,fun v H1 f1 O1 a1 I1 r1=>⟨f1,O1,s1,y,s2,I1,h2,fun u H2 f2 O2 a2 I2 r2=>?_⟩⟩
 refine hr g σ H2 f2 O2 s2 v u x y z _ I2 (RepB.stp I1 a2 r1) r2 h3 fun zz H3 a3 I3 r3=>?_
 cases z with
 | bl b=>
  simp only [Rep] at r3
  subst r3
  refine ⟨b,rfl,?_⟩
  cases b with
  | false=>
   simp only [Option.some.injEq,Prod.mk.injEq] at e
   obtain ⟨e1,e2⟩:=e
   subst e1; subst e2
   exact a6D (k _ H3 f2 O2 (a1.trans (a2.trans a3)) I3 (by simp only [Rep]))
  | true=>
   refine t9 e fun w s3 h4 e=>?_
   refine E7 e fun d' h5 e=>?_
   simp only [Prod.mk.injEq] at e
   obtain ⟨e1,e2⟩:=e
   subst e1; subst e2
   refine a5M ⟨f2,O2,s2,w,s3,I3,h4,fun w' H4 f4 O4 a4 I4 r4=>?_⟩
   exact hr' g σ H4 f4 O4 s3 u w' y w d' Q I4 (RepB.stp I3 a4 (RepB.stp I2 a3 r2)) r4 h5 fun q H5 a5 I5 r5=>k q H5 f4 O4 (a1.trans (a2.trans (a3.trans (a4.trans a5)))) I5 r5
 | _=>cases e
theorem b6z {op op':CmpOp} {r r':R2} {p p':D → D → Option D} (ho:OpR X (compareOp op) r) (hr:R2D X.K r p) (ho':OpR X (compareOp op') r') (hr':R2D X.K r' p') (ha:BO X g a fa) (hb:BO X g b fb) (hc:BO X g c fc)
  (hm:lastMarks [op,op'] [b,c] = false:=by with_unfolding_all rfl):EO X g (.Compare a [op,op'] [b,c] pos) (S4 p p' fa fb fc):=EO.w (b6G ho ho' ha.pe hb.pe hc.pe hm) (a5A hr hr')
theorem b2T {op op':CmpOp} {r r':R2} {p p':D → D → Option D} (ho:OpR X (compareOp op) r) (hr:R2D X.K r p) (ho':OpR X (compareOp op') r') (hr':R2D X.K r' p') (ha:BO X g a fa) (hb:BO X g b fb) (hc:BO X g c fc)
  (hm:lastMarks [op,op'] [b,c] = false:=by with_unfolding_all rfl):TO X g (.Compare a [op,op'] [b,c] pos) (dB (S4 p p' fa fb fc)):=
 TO.w (b0h ho ho' ha.pe hb.pe hc.pe hm) fun σ H Q ⟨f0,O,s,d,s',I,e,k⟩=>a5A hr hr' σ H _ ⟨f0,O,s,.bl d,s',I,Y8 e,fun v H' f1 O1 a I1 r=>by
  simp only [Rep] at r
  exact ⟨d,r,k H' f1 O1 a I1⟩⟩
noncomputable abbrev DO:=DS → Option (Option Int × DS)
noncomputable def liftO (K:PySem.W.Frag) (g:Gh) (f:DO):L2.TO:=fun σ H Q=>∃ fa O s d s',GI K g σ H fa O s ∧ f s = some (d,s') ∧ ∀ H' fa' O',StE fa O H fa' O' H' → GI K g σ H' fa' O' s' → Q d H'
theorem liftO.elim {K:PySem.W.Frag} {g:Gh} {σ:L2.St} {H:Hp} {G:Prop} {f:DO} {Q:Option Int → Hp → Prop} (h:liftO K g f σ H Q) (k:∀ fa O s d s',GI K g σ H fa O s → f s = some (d,s') → (∀ H' fa' O',StE fa O H fa' O' H' → GI K g σ H' fa' O' s' → Q d H') → G):G:=by
 obtain ⟨fa,O,s,d,s',a,b,c⟩:=h
 exact k fa O s d s' a b c
structure OO (X:Cx) (g:Gh) (e:Option Expr) (f:DO):Prop where
 pe:PO X e (liftO X.K g f)
noncomputable def dNo:DO:=fun s=>some (none,s)
noncomputable def dAt (f:DE):DO:=fun s=>(f s).bind fun x=>match x.1 with | .int i=>some (some i,x.2) | _=>none
theorem POw {e:Option Expr} {t t':L2.TO} (h:PO X e t) (w:∀ σ H Q,t' σ H Q → t σ H Q):PO X e t':=fun pins s σ H Q I q=>h pins s σ H Q I (w σ H Q q)
theorem OO.w {e:Option Expr} {f:DO} {t:L2.TO} (h:PO X e t) (w:∀ σ H Q,liftO X.K g f σ H Q → t σ H Q):OO X g e f:=⟨POw h w⟩
theorem b0p:OO X g none dNo:=OO.w a6v fun σ H Q hQ=>by
 refine hQ.elim fun f0 O s d s' I e k=>?_
 cases e
 exact k H f0 O StE.refl I
theorem b56 (h:BO X g a fa):OO X g (some a) (dAt fa):=OO.w (a6F h.pe) fun σ H Q hQ=>by
 refine hQ.elim fun f0 O s d s' I e k=>?_
 refine t9 e fun x s1 h1 e=>?_
 cases x with
 | int i=>
  simp only [Option.some.injEq,Prod.mk.injEq] at e
  obtain ⟨e1,e2⟩:=e
  subst e1; subst e2
  exact ⟨f0,O,s,.int i,s1,I,h1,fun v H1 f1 O1 a1 I1 r1=>⟨i,by simpa only [RepB,Rep] using r1,k H1 f1 O1 a1 I1⟩⟩
 | _=>cases e
noncomputable def C1 (xs:List D) (lo hi:Option Int):List D:=(xs.drop (HT.sIx xs.length 0 lo)).take (HT.sIx xs.length xs.length hi - HT.sIx xs.length 0 lo)
theorem a26 {K:PySem.W.Frag} {N:Addr → Prop} {fa:Option Addr} {H:Hp} {ds:List D} {xs:List V} (r:Reps K N fa H ds xs) (lo hi:Option Int):Reps K N fa H (C1 ds lo hi) (J7 xs lo hi):=by
 unfold C1 J7
 rw [r.length]
 exact (r.drop _).take _
end
end DL
namespace HT2
open PySem PyProof.Rows HT
section
variable {prog:Program} {w:World} {A:Around} {E:Value → Shared → Prop} {s:Shared}
theorem getItem_tuple_whole {t sl:Addr} {items:Array Value} {vl vu:Value} {lo hi:Option Int} {Q:Value → Shared → Prop} (ht:IsTup s.heap t items) (hs:s.heap.IsSliceOf sl vl vu .none) (pl:IsPart vl lo) (pu:IsPart vu hi)
  (hw:sIx items.size 0 lo = 0 ∧ sIx items.size items.size hi = items.size) (h:Q (.ref t) s):wpAny (model prog w) A (getItem (.ref t) (.ref sl)) Q E s:=by
 obtain ⟨os,hos,hcs,hds⟩:=id hs
 have hTs:s.TypeIs (.ref sl) "slice" := ⟨os,hos,hcs⟩
 unfold getItem
 try with_reducible refine wpAny_holding ?_
 first | refine wpAny_bind (wpAny_pure ?_) | skip
 refine wpAny_bind (wpAny_sequenceKey ht.typeIs (by decide) ?_)
 refine wpAny_bind (wpAny_callSpecial?_slot (name:=Str.ofString "__getitem__") ht.typeIs PyProof.Rows.slot_tuple_getitem
  (wpAny_call_entry PyProof.Rows.slot_tuple_getitem ht.typeIs entry_tuple_getitem ?_ (args_tuple_getitem _ _)))
 show wpAny _ _ (Builtin.Tuple.tupleItemsOf (.ref t) >>= _) _ _ s
 refine wpAny_bind (tupleItemsOf_ ht ?_)
 refine wpAny_bind (wpAny_typeOf hTs ?_)
 rw [if_pos (by decide)]
 refine wpAny_bind (a8h hs pl pu ?_)
 have hyes:(((sIx items.size 0 lo:Nat):Int) == 0 && (1:Int) == 1 && (sIx items.size items.size hi - sIx items.size 0 lo) == items.size) = true:=by
  rw [hw.1,hw.2]; simp
 show wpAny _ _ (if (((sIx items.size 0 lo:Nat):Int) == 0 && (1:Int) == 1 && (sIx items.size items.size hi - sIx items.size 0 lo) == items.size) = true then _ else _) _ _ s
 rw [if_pos hyes]
 refine wpAny_bind (m:=Builtin.Tuple.tupleIsExact _) (wpAny_bind (wpAny_typeOf ht.typeIs (wpAny_pure ?_)))
 rw [if_pos (by decide)]
 first
  | exact wpAny_bind (wpAny_rule (wpAny_bind (wpAny_pure (wpAny_pure ⟨_,rfl,wpAny_pure h⟩))))
  | exact wpAny_bind (wpAny_rule (wpAny_pure ⟨_,rfl,wpAny_pure h⟩))
  | exact wpAny_bind (wpAny_rule (wpAny_bind (wpAny_pure ⟨_,rfl,wpAny_pure h⟩)))
end
end HT2
namespace DL
open PySem PySem.Spec L2
section
variable {X:Cx} {g:Gh} {a:Expr} {fa:DE} {pos:Pos}
noncomputable def b06 (K:PySem.W.Frag):V → Option Int → Option Int → Hp → VK → Prop:=fun x lo hi H Q=>∃ a xs,x = .ref a ∧ SqT K H a xs ∧ (HT.sIx xs.length 0 lo = 0 ∧ HT.sIx xs.length xs.length hi = xs.length) ∧ Q (.ref a) H
theorem b51:L2.SlR X (b06 X.K):=by
 intro pins s σ H x v vl vu lo hi sl Q I rx hs pl pu h
 obtain ⟨a,xs,rfl,hx,hw,q⟩:=h
 cases rx
 obtain ⟨its,r,ht,hz⟩:=I.tuple hx
 have hlen:its.toArray.size = xs.length:=by rw [List.size_toArray]; exact r.length.symm
 refine ⟨"tuple",_,PyProof.Rows.slot_tuple_getitem.lookup,ht.typeIs,?_⟩
 exact HT2.getItem_tuple_whole ht hs pl pu (by rw [hlen]; exact hw) ⟨.ref a,H,I,rfl,q⟩
theorem a9N {xs:List D} {lo hi:Option Int} (h:HT.sIx xs.length 0 lo = 0 ∧ HT.sIx xs.length xs.length hi = xs.length):C1 xs lo hi = xs:=by
 unfold C1
 rw [h.1,h.2,List.drop_zero,Nat.sub_zero,List.take_length]
noncomputable def dSl (f:DE) (lo hi:DO):DE:=fun s=>(f s).bind fun x=>(lo x.2).bind fun l=>(hi l.2).bind fun h=>match x.1 with
 | .tup ds=>some (.tup (C1 ds l.1 h.1),h.2)
 | .lst ds=>some (.lst (C1 ds l.1 h.1),h.2)
 | _=>none
theorem b6O {x r:D} {F:List D → List D} {t z:DS} (e:(match x with
 | .tup ds=>some (D.tup (F ds),t)
 | .lst ds=>some (D.lst (F ds),t)
 | _=>none) = some (r,z)):t = z ∧ ((∃ ds,x = .lst ds ∧ r = .lst (F ds)) ∨ ∃ ds,x = .tup ds ∧ r = .tup (F ds)):=by
 cases x with
 | tup ds=>cases e; exact ⟨rfl,.inr ⟨ds,rfl,rfl⟩⟩
 | lst ds=>cases e; exact ⟨rfl,.inl ⟨ds,rfl,rfl⟩⟩
 | _=>cases e
theorem b5u {lo hi:Option Expr} {fl fh:DO} {p2:Pos} (ha:BO X g a fa) (hl:OO X g lo fl) (hh:OO X g hi fh):EO X g (.Subscript a (.Slice lo hi none p2) pos) (dSl fa fl fh):=
 EO.w (a6W (L2.SlR.or (L2.SlR.or b6C b51) a6p) ha.pe hl.pe hh.pe) fun σ H Q hQ=>by
  refine hQ.elim fun f0 O s d s' I e k=>?_
  refine t9 e fun x s1 h1 e=>?_
  refine t9 e fun l s2 h2 e=>?_
  refine t9 e fun h s3 h3 e=>?_
  obtain ⟨rfl,c⟩:=b6O (F:=fun ds=>C1 ds l h) e
  refine ⟨f0,O,s,x,s1,I,h1,fun v H1 f1 O1 a1 I1 r1=>⟨f1,O1,s1,l,s2,I1,h2,fun H2 f2 O2 a2 I2=>⟨f2,O2,s2,h,s3,I2,h3,fun H3 f3 O3 a3 I3=>?_⟩⟩⟩
  have r3:=RepB.stp I2 a3 (RepB.stp I1 a2 r1)
  rcases c with ⟨ds,rfl,rfl⟩ | ⟨ds,rfl,rfl⟩
  ·obtain ⟨c,xs,rfl,_,q,w⟩:=r3
   refine .inr ⟨c,xs,rfl,SqL.of q,fun p hp=>?_⟩
   have a4:StE f3 O3 H3 f3 O3 (upd H3 p (.lst (J7 xs l h))):=A3 hp
   have L:=R5 I3 hp (a26 w l h)
   refine k _ _ f3 O3 (a1.trans (a2.trans (a3.trans a4))) L.gi ?_
   simp only [Rep]
   exact ⟨p,_,rfl,a0s I3 a4 L.gi hp L.nf,u8,Reps.stp I3 a4.stp (a26 w l h)⟩
  ·simp only [RepB,Rep] at r3
   obtain ⟨c,xs,rfl,q,w⟩:=r3
   by_cases hw:HT.sIx xs.length 0 l = 0 ∧ HT.sIx xs.length xs.length h = xs.length
   ·refine .inl (.inr ⟨c,xs,rfl,q,hw,k _ H3 f3 O3 (a1.trans (a2.trans a3)) I3 ?_⟩)
    rw [w.length] at hw
    rw [a9N hw]
    simp only [Rep]
    exact ⟨c,xs,rfl,q,w⟩
   ·refine .inl (.inl ⟨c,xs,rfl,q,hw,fun p hp=>?_⟩)
    have a4:StE f3 O3 H3 f3 O3 (upd H3 p (.tup (J7 xs l h))):=A3 hp
    refine k _ _ f3 O3 (a1.trans (a2.trans (a3.trans a4))) (I3.new hp) ?_
    simp only [Rep]
    exact ⟨p,_,rfl,SqT.of u8,Reps.stp I3 a4.stp (a26 w l h)⟩
end
noncomputable def a2Y:Expr → Bool
 | .Starred _ _=>false
 | _=>true
theorem a7W {a:Expr} {es:List Expr} {env:Env} (h:a2Y a = true):starEach (a :: es) env = (false,eval a env) :: starEach es env:=by
 cases a <;> first | rfl | (cases h)
section
variable {X:Cx} {g:Gh} {a:Expr} {es:List Expr} {fa:DE} {fr:DA}
theorem ac (ha:EO X g a fa) (hr:AO X g es fr) (hs:a2Y a = true:=by rfl):AO X g (a :: es) (a7 fa fr):=a4r ha hr (a7W hs)
theorem bc (ha:BO X g a fa) (hr:BAO X g es fr) (hs:a2Y a = true:=by rfl):BAO X g (a :: es) (a7 fa fr):=b4Y ha hr (a7W hs)
end
end DL
namespace DL
open PySem PySem.Spec L2 PyProof.Rows
noncomputable def inD (x:D) (ds:List D):Bool:=(D.pys ds).any fun y=>PyData.eqv y x.py
noncomputable def L9 (f:Bool → Bool) (x c:D):Option D:=match c with
 | .lst ds=>if t6 x && t6 (.lst ds) then some (.bl (f (inD x ds))) else none
 | .tup ds=>if t6 x && t6 (.tup ds) then some (.bl (f (inD x ds))) else none
 | _=>none
noncomputable def pIn (x c:D):Option D:=L9 id x c
noncomputable def P5 (x c:D):Option D:=L9 not x c
noncomputable def X3 (K:PySem.W.Frag) (f:Bool → Bool):R2:=fun x y H Q=>∃ N fa d1 d2 ds,RepB K N fa H d1 x ∧ RepB K N fa H d2 y ∧ (d2 = .lst ds ∨ d2 = .tup ds) ∧ t6 d1 = true ∧ t6 d2 = true ∧ Q (.bl (f (inD d1 ds))) H
section
variable {X:Cx} {K:PySem.W.Frag}
theorem a0Z {u a b:Nat} (h:u + 64 < cLine) (ha:a + 1 ≤ 64):u + 1 + min a b < cLine:=by
 have:min a b ≤ a:=Nat.min_le_left _ _
 omega
theorem a2M (hu:X.A.units + 64 < cLine):OpR X (compareOp .In) (X3 X.K id):=by
 intro pins s σ H x y v u Q I rx ry h
 obtain ⟨N,fa,d1,d2,ds,r1,r2,hd,o1,o2,q⟩:=h
 unfold t6 at o1 o2
 rw [Bool.and_eq_true] at o1 o2
 obtain ⟨as,h1⟩:=K9 I d1 x v r1.o rx o1.1
 obtain ⟨bs,h2⟩:=K9 I d2 y u r2.o ry o2.1
 have l2:=SeqAt.canLay_of_shaped o2.2
 have dp:=SeqAt.depth_of_shaped o2.2
 rcases hd with rfl | rfl
 ·simp only [D.py,PyData.canLay0,PyData.depth] at h2 l2 dp
  exact SeqAt.in_list_reads h2 h1 l2 (SeqAt.canLay_of_shaped o1.2) (a0Z hu dp) ⟨.bl _,H,I,rfl,q⟩
 ·simp only [D.py,PyData.canLay0,PyData.depth] at h2 l2 dp
  exact SeqAt.in_tuple_reads h2 h1 l2 (SeqAt.canLay_of_shaped o1.2) (a0Z hu dp) ⟨.bl _,H,I,rfl,q⟩
theorem a9A (hu:X.A.units + 64 < cLine):OpR X (compareOp .NotIn) (X3 X.K not):=by
 intro pins s σ H x y v u Q I rx ry h
 obtain ⟨N,fa,d1,d2,ds,r1,r2,hd,o1,o2,q⟩:=h
 unfold t6 at o1 o2
 rw [Bool.and_eq_true] at o1 o2
 obtain ⟨as,h1⟩:=K9 I d1 x v r1.o rx o1.1
 obtain ⟨bs,h2⟩:=K9 I d2 y u r2.o ry o2.1
 have l2:=SeqAt.canLay_of_shaped o2.2
 have dp:=SeqAt.depth_of_shaped o2.2
 rcases hd with rfl | rfl
 ·simp only [D.py,PyData.canLay0,PyData.depth] at h2 l2 dp
  exact SeqAt.notIn_list_reads h2 h1 l2 (SeqAt.canLay_of_shaped o1.2) (a0Z hu dp) ⟨.bl _,H,I,rfl,q⟩
 ·simp only [D.py,PyData.canLay0,PyData.depth] at h2 l2 dp
  exact SeqAt.notIn_tuple_reads h2 h1 l2 (SeqAt.canLay_of_shaped o1.2) (a0Z hu dp) ⟨.bl _,H,I,rfl,q⟩
theorem b23 {f:Bool → Bool} {x c d:D} (h:L9 f x c = some d):∃ ds,(c = .lst ds ∨ c = .tup ds) ∧ t6 x = true ∧ t6 c = true ∧ d = .bl (f (inD x ds)):=by
 unfold L9 at h
 cases c with
 | lst ds=>
  simp only at h
  split at h
  ·rename_i q; rw [Bool.and_eq_true] at q; cases h; exact ⟨ds,.inl rfl,q.1,q.2,rfl⟩
  ·cases h
 | tup ds=>
  simp only at h
  split at h
  ·rename_i q; rw [Bool.and_eq_true] at q; cases h; exact ⟨ds,.inr rfl,q.1,q.2,rfl⟩
  ·cases h
 | _=>cases h
theorem a7y (f:Bool → Bool):R2D K (X3 K f) (L9 f):=by
 intro g σ H fa O s x y d1 d2 d Q I r1 r2 e k
 obtain ⟨ds,hc,o1,o2,rfl⟩:=b23 e
 exact ⟨_,fa,d1,d2,ds,r1,r2,hc,o1,o2,k _ H StE.refl I (by simp only [Rep])⟩
theorem a33:R2D K (X3 K id) pIn:=a7y id
theorem b0f:R2D K (X3 K not) P5:=a7y not
end
end DL
namespace DL
open PySem PySem.Spec L2
noncomputable def a1x:D → D → Option D
 | .bl a,.bl b=>some (.bl (!(a == b)))
 | _,_=>none
theorem b0v {X:Cx}:OpR X (compareOp .IsNot) (fun x y H Q=>∃ a b,x = .bl a ∧ y = .bl b ∧ Q (.bl (!(a == b))) H):=by
 intro pins s σ H x y v u Q I rx ry h
 obtain ⟨a,b,rfl,rfl,q⟩:=h
 cases rx
 cases ry
 exact PyProof.Rows.isnot_bool ⟨.bl _,H,I,rfl,q⟩
theorem b6d {K:PySem.W.Frag}:R2D K (fun x y H Q=>∃ a b,x = .bl a ∧ y = .bl b ∧ Q (.bl (!(a == b))) H) a1x:=by
 intro g σ H fa O s x y d1 d2 d Q I r1 r2 e k
 cases d1 with
 | bl a=>
  cases d2 with
  | bl b=>
   cases e
   simp only [RepB,Rep] at r1 r2
   exact ⟨a,b,r1,r2,k _ H StE.refl I (by simp only [Rep])⟩
  | _=>cases e
 | _=>cases d2 <;> cases e
noncomputable def mk2 (idx:List Nat) (sl:List Sl):D → Option (List Sl)
 | .tup [a,b]=>some (.val a :: .val b :: E4 idx sl)
 | _=>none
theorem b4V {idx:List Nat} {sl:List Sl} {d:D} {r:List Sl} (h:mk2 idx sl d = some r):∃ a b,d = .tup [a,b] ∧ r = .val a :: .val b :: E4 idx sl:=by
 cases d with
 | tup ds=>
  match ds,h with
  | [a,b],h=>cases h; exact ⟨a,b,rfl,rfl⟩
 | _=>cases h
noncomputable def L8 (idx:List Nat) (fi:DA) (fc:DT) (fe:DE):DA:=fun s=>(fi s).bind fun x=>if x.1.length ≤ sizeLine then (v8 (mk2 idx x.2.sl) fc fe x.1 x.2.fs).map fun y=>(y.1,{ x.2 with fs:=y.2 }) else none
section
variable {X:Cx} {g:Gh} {scope:Scope} {cl:List (Str × Addr)} {N':List Str} {idx:List Nat} {iter elt tg:Expr} {ifs:List Expr} {pos:Pos} {fi:DA} {fc:DT} {fe:DE}
theorem a8B {G:TG} (k:CompOk X scope cl N' 2 idx)
  (hG:∀ (a:Addr) (x y:V) (σ:L2.St) (H:Hp) (Q:L2.St → Hp → Prop),SqT X.K H a [x,y] → Q ((σ.set 0 (some x)).set 1 (some y)) H → G (.ref a) σ H Q):∀ σ H Q,liftF X.K g (L8 idx fi fc fe) σ H Q → W8 2 idx (liftI X.K g fi) G (fun σ H Q=>∃ g',liftT X.K g' fc σ H Q) (fun σ H Q=>∃ g',liftE X.K g' fe σ H Q) σ H Q:=
 a8f (mk:=mk2 idx) fun N fa sl d sl0 x σ H Q hm rx hc kk=>by
  obtain ⟨da,db,rfl,rfl⟩:=b4V hm
  simp only [Rep,Reps] at rx
  obtain ⟨ad,xs0,rfl,hsq,u,ys0,rfl,ru,w,ys1,rfl,rw',rfl⟩:=rx
  refine hG ad u w _ _ _ hsq (kk _ ⟨by simp,fun j v hj=>?_⟩ ?_)
  ·cases j with
   | zero=>simp [A7] at hj
   | succ j=>
    cases j with
    | zero=>simp [A7] at hj
    | succ j=>rw [List.getElem?_set_ne (by simp),List.getElem?_set_ne (by simp)]; exact hj
  ·have eb:((A7 2 idx σ).set 0 (some u)).set 1 (some w) = some u :: some w :: idx.map fun i=>(σ[i]?).join:=by simp [A7]
   rw [eb]
   simp only [SlR]
   exact ⟨u,_,rfl,ru,w,_,rfl,rw',hc⟩
theorem b29 {G:TG} (hc:X.calm = true) (k:CompOk X scope cl N' 2 idx) (hi:IO X g tg iter fi) (hg:∀ C s0 H0 ex,PG (blk X N' scope cl C s0 H0 ex) tg G)
  (hG:∀ (a:Addr) (x y:V) (σ:L2.St) (H:Hp) (Q:L2.St → Hp → Prop),SqT X.K H a [x,y] → Q ((σ.set 0 (some x)).set 1 (some y)) H → G (.ref a) σ H Q)
  (ht:∀ C s0 H0 ex g',U2 (blk X N' scope cl C s0 H0 ex) g' ifs fc) (he:∀ C s0 H0 ex g',EO (blk X N' scope cl C s0 H0 ex) g' elt fe) (hs:∀ x,foldedSetIterable iter X.env x = pure x:=by intro _; rfl) :
  FO X g (.ListComp elt [⟨tg,iter,ifs,0⟩] scope pos) (L8 idx fi fc fe):=by
 exact FO.w (a6m (tc:=fun σ H Q=>∃ g',liftT X.K g' fc σ H Q) (te:=fun σ H Q=>∃ g',liftE X.K g' fe σ H Q) hc k hi.pe hg (fun C s0 H0 ex pins s σ H Q I ⟨g',h⟩=>ht C s0 H0 ex g' pins s σ H Q I h) (fun C s0 H0 ex pins s σ H Q I ⟨g',h⟩=>(he C s0 H0 ex g').pe pins s σ H Q I h) hs) (a8B k hG)
theorem a5k {X:Cx} {scope:Scope} {cl:List (Str × Addr)} {x y:Str} {caps:List Str} {idx:List Nat} (clos:closureFor scope X.env = pure cl) (sub:SubL X.env.cells cl) (cell:∀ y ∈ scope.names,y.2 ≠ .cell) (kind:scope.kind = .function)
  (names:∀ y ∈ scope.names,y.2 = .local → scope.names.lookup y.1 = some .local) (has:hasAll (relabel scope X.env).names cl = true) (cap:CapL X scope idx caps):CompOk X scope cl (x :: y :: caps) 2 idx:=
 ⟨clos,fun y c e=>sub.mem y c (a0K e),cell,kind,names,a45 has,by rw [List.length_cons,List.length_cons,cap.len]; omega,fun j i y e1 e2=>cap.at j i y e1 (by
  rw [show 2 + j = j + 1 + 1 by omega] at e2; simpa using e2)⟩
end
noncomputable def RwIt (h:Heap) (i l:Addr) (xs:Array Value) (k:Nat):Prop:=(h.IsListIter i l k ∧ h.IsList l xs) ∨ (h.IsTupleIter i l k ∧ h.IsTuple l xs)
section
variable {h h':Heap} {i l:Addr} {xs:Array Value} {k:Nat}
theorem RwIt.at (x:RwIt h i l xs k) (ei:∀ o,h.get? i = some o → h'.get? i = some o) (el:∀ o,h.get? l = some o → h'.get? l = some o):RwIt h' i l xs k:=by
 rcases x with ⟨⟨o,q,r⟩,⟨p,u,v⟩⟩ | ⟨⟨o,q,r⟩,⟨p,u,v⟩⟩
 ·exact .inl ⟨⟨o,ei o q,r⟩,⟨p,el p u,v⟩⟩
 ·exact .inr ⟨⟨o,ei o q,r⟩,⟨p,el p u,v⟩⟩
theorem RwIt.lt (x:RwIt h i l xs k):i < h.objs.size:=by
 rcases x with ⟨⟨o,q,r⟩,_⟩ | ⟨⟨o,q,r⟩,_⟩ <;> exact Heap.lt_size q
end
section
variable {prog:Program} {w:World} {A:Around} {E:Value → Shared → Prop} {s:Shared}
theorem nextOf_tup_item {it t:Addr} {i:Nat} {items:Array Value} {x:Value} {Q:Value → Shared → Prop} (hit:s.heap.IsTupleIter it t i) (ht:s.heap.IsTuple t items) (hx:items[i]? = some x)
  (hQ:∀ h',h'.IsTupleIter it t (i + 1) → Heap.SameBut it s.heap h' → Q x { s with heap:=h' }):wpAny (model prog w) A (Builtin.SmallTypes.nextOf (.ref it)) Q E s:=by
 obtain ⟨o,ho,hc,hd⟩:=id hit
 obtain ⟨ol,hol,_,nl,hdl⟩:=ht
 unfold Builtin.SmallTypes.nextOf
 refine wpAny_bind (wpAny_callSpecial?_slot (name:=Str.ofString "__next__") hit.typeIs PySem.F.slot_tuple_iterator_next (wpAny_call_entry PySem.F.slot_tuple_iterator_next hit.typeIs PySem.F.entry_tuple_iterator_next ?_ (PySem.F.args_tuple_iterator_next_1 _)))
 show wpAny _ _ (field (.ref it) 0 >>= _) _ _ s
 refine wpAny_bind (wpAny_field ho hd (x:=.ref t) rfl ?_)
 show wpAny _ _ (if (Value.ref t == Value.none) = true then _ else _) _ _ s
 rw [if_neg (show ¬ ((Value.ref t == Value.none) = true) from Bool.false_ne_true)]
 show wpAny _ _ (field (.ref it) 1 >>= _) _ _ s
 refine wpAny_bind (wpAny_field ho hd (x:=.int i 0) rfl ?_)
 show wpAny _ _ (seqItems? (.ref t) >>= _) _ _ s
 refine wpAny_bind (wpAny_seqItems hol hdl ?_)
 simp only [Int.toNat_natCast,hx]
 refine wpAny_bind (wpAny_setField ho hd (by simp) (wpAny_pure ⟨x,rfl,wpAny_pure (hQ _ ?_ (Heap.SameBut.update ..))⟩))
 exact ⟨_,Heap.get?_update_self _ ho (Obj.isFreed_of_fields (Obj.data_mapFields hd _)),(Obj.cls_mapFields ..).trans hc,by rw [Obj.data_mapFields hd]; simp [rawInt]⟩
theorem nextOf_tup_end {it t:Addr} {i:Nat} {items:Array Value} {Q:Value → Shared → Prop} (hh:A.handled = none) (hit:s.heap.IsTupleIter it t i) (ht:s.heap.IsTuple t items) (hx:items[i]? = none)
  (hE:∀ h' e,Heap.ExtBut it s.heap h' → (∃ o,h'.get? e = some o ∧ o.cls = .type "StopIteration") → E (.ref e) { s with heap:=h' }):wpAny (model prog w) A (Builtin.SmallTypes.nextOf (.ref it)) Q E s:=by
 obtain ⟨o,ho,hc,hd⟩:=id hit
 obtain ⟨ol,hol,_,nl,hdl⟩:=ht
 unfold Builtin.SmallTypes.nextOf
 refine wpAny_bind (wpAny_callSpecial?_slot (name:=Str.ofString "__next__") hit.typeIs PySem.F.slot_tuple_iterator_next (wpAny_call_entry PySem.F.slot_tuple_iterator_next hit.typeIs PySem.F.entry_tuple_iterator_next ?_ (PySem.F.args_tuple_iterator_next_1 _)))
 show wpAny _ _ (field (.ref it) 0 >>= _) _ _ s
 refine wpAny_bind (wpAny_field ho hd (x:=.ref t) rfl ?_)
 show wpAny _ _ (if (Value.ref t == Value.none) = true then _ else _) _ _ s
 rw [if_neg (show ¬ ((Value.ref t == Value.none) = true) from Bool.false_ne_true)]
 show wpAny _ _ (field (.ref it) 1 >>= _) _ _ s
 refine wpAny_bind (wpAny_field ho hd (x:=.int i 0) rfl ?_)
 show wpAny _ _ (seqItems? (.ref t) >>= _) _ _ s
 refine wpAny_bind (wpAny_seqItems hol hdl ?_)
 simp only [Int.toNat_natCast,hx]
 refine wpAny_bind (wpAny_rule (wpAny_bind (wpAny_setField ho hd (by simp) ?_)))
 show wpAny _ _ (newExc (.type "StopIteration") [] >>= _) _ _ _
 refine wpAny_bind ?_
 simp only [newExc,newTuple]
 refine wpAny_bind (wpAny_newObj_type ?_ (by size_fits))
 refine wpAny_bind (m:=firstArgMember _ _) (wpAny_of_eq (a:=Value.none) (by first | rfl | (simp only [firstArgMember]; rfl)) ?_)
 refine wpAny_newObj_type ?_ (by size_fits)
 simp only [raiseNew]
 refine wpAny_bind (wpAny_handled ?_)
 first | rw [show A.in1.handled = none from hh] | rw [hh]
 refine wpAny_bind (wpAny_pure (wpAny_throw ?_))
 exact hE _ _ (((Heap.SameBut.update ..).extBut.push _).push _) ⟨_,Heap.get?_push_size _ rfl,rfl⟩
theorem W9 {it l:Addr} {i:Nat} {xs:Array Value} {x:Value} {Q:Value → Shared → Prop} (r:RwIt s.heap it l xs i) (hl:l ≠ it) (hx:xs[i]? = some x)
  (hQ:∀ h',RwIt h' it l xs (i + 1) → Heap.SameBut it s.heap h' → Q x { s with heap:=h' }):wpAny (model prog w) A (Builtin.SmallTypes.nextOf (.ref it)) Q E s:=by
 rcases r with ⟨a,b⟩ | ⟨a,b⟩
 ·exact wpAny_nextOf_list_item a b hx fun h' a' hs=>hQ h' (.inl ⟨a',b.extBut hs.extBut hl⟩) hs
 ·exact nextOf_tup_item a b hx fun h' a' hs=>hQ h' (.inr ⟨a',b.extBut hs.extBut hl⟩) hs
theorem a1t {it l:Addr} {i:Nat} {xs:Array Value} {Q:Value → Shared → Prop} (hh:A.handled = none) (r:RwIt s.heap it l xs i) (hx:xs[i]? = none)
  (hE:∀ h' e,Heap.ExtBut it s.heap h' → (∃ o,h'.get? e = some o ∧ o.cls = .type "StopIteration") → E (.ref e) { s with heap:=h' }):wpAny (model prog w) A (Builtin.SmallTypes.nextOf (.ref it)) Q E s:=by
 rcases r with ⟨a,b⟩ | ⟨a,b⟩
 ·exact wpAny_nextOf_list_end hh a b hx hE
 ·exact nextOf_tup_end hh a b hx hE
noncomputable abbrev A5 (h:Heap) (z TI TO:Addr) (f0 f1:Value):Prop:=h.get? z = some { cls:=.type "zip",dict:=none,data:=.fields #[f0,f1,.bool false,.ref TI,.ref TO],slots:=#[] }
variable {z TI TO i1 i2 l1 l2:Addr} {xs ys:Array Value} {k:Nat}
theorem a5F {x y a b:Value} {Q:Value → Shared → Prop} (D:ZipApart z TI TO i1 i2 l1 l2)
  (hz:A5 s.heap z TI TO .none (.bool false)) (hTI:IsPair s.heap TI (.ref i1) (.ref i2)) (hTO:IsPair s.heap TO a b) (h1:RwIt s.heap i1 l1 xs k) (h2:RwIt s.heap i2 l2 ys k) (hx:xs[k]? = some x) (hy:ys[k]? = some y)
  (hQ:∀ h',A5 h' z TI TO (rawInt s.heap.objs.size) (.bool false) → RwIt h' i1 l1 xs (k + 1) → RwIt h' i2 l2 ys (k + 1) → IsPair h' s.heap.objs.size x y →
   (∀ c o,c ≠ z → c ≠ TO → c ≠ i1 → c ≠ i2 → s.heap.get? c = some o → h'.get? c = some o) → IsPair h' TO x y → Q (.ref s.heap.objs.size) { s with heap:=h' }) :
  wpAny (model prog w) A (Builtin.«zip.__next__» ⟨[.ref z],[]⟩) (fun fin s'=>∃ v,fin = .done (.ret v) ∧ Q v s') E s:=by
 show wpAny _ _ (field (.ref z) 2 >>= _) _ _ _
 refine wpAny_bind (wpAny_field hz rfl (x:=.bool false) rfl ?_)
 show wpAny _ _ (field (.ref z) 3 >>= _) _ _ _
 refine wpAny_bind (wpAny_field hz rfl (x:=.ref TI) rfl ?_)
 refine wpAny_bind (wpAny_seqItems hTI rfl ?_)
 show wpAny _ _ (Builtin.SmallTypes.ownedTupleIsFree (.ref z) >>= _) _ _ _
 refine wpAny_bind ?_
 unfold Builtin.SmallTypes.ownedTupleIsFree
 refine wpAny_bind (wpAny_field hz rfl (x:=.none) rfl (wpAny_pure ?_))
 simp only [if_true]
 refine wpAny_bind (wpAny_rule ?_)
 refine wpAny_bind (wpAny_field hz rfl (x:=.ref TO) rfl ?_)
 refine wpAny_bind (wpAny_setField_rec hz (by simp) fun g1 z1 k1=>?_)
 replace z1:A5 g1 z TI TO .ellipsis (.bool false):=z1
 refine wpAny_bind ?_
 simp only [List.zipIdx_cons,List.zipIdx_nil,List.forIn_cons,List.forIn_nil]
 refine wpAny_bind (wpAny_bind (wpAny_onRaise ?_))
 show wpAny _ _ (Builtin.SmallTypes.nextOf (.ref i1) >>= _) _ _ _
 refine wpAny_bind (W9 (h1.at (fun o e=>k1.extBut _ o D.i1z e) fun o e=>k1.extBut _ o D.l1z e) D.l1i1 hx fun g2 r2 k2=>wpAny_pure ?_)
 have o2:IsPair g2 TO a b:=k2.extBut _ _ D.TOi1 (k1.extBut _ _ D.TOz hTO)
 refine wpAny_bind (wpAny_seqItems o2 rfl ?_)
 refine wpAny_bind (wpAny_updateSeq_pair o2 fun g3 o3 k3=>?_)
 replace o3:IsPair g3 TO x b:=o3
 refine wpAny_bind (wpAny_letGo (wpAny_pure ?_))
 refine wpAny_bind (wpAny_bind (wpAny_onRaise ?_))
 show wpAny _ _ (Builtin.SmallTypes.nextOf (.ref i2) >>= _) _ _ _
 refine wpAny_bind (W9 (h2.at (fun o e=>k3.extBut _ o D.TOi2.symm (k2.extBut _ o D.i12.symm (k1.extBut _ o D.i2z e))) fun o e=>k3.extBut _ o D.l2TO (k2.extBut _ o D.l2i1 (k1.extBut _ o D.l2z e))) D.l2i2 hy fun g4 r4 k4=>wpAny_pure ?_)
 have o4:IsPair g4 TO x b:=k4.extBut _ _ D.TOi2 o3
 refine wpAny_bind (wpAny_seqItems o4 rfl ?_)
 refine wpAny_bind (wpAny_updateSeq_pair o4 fun g5 o5 k5=>?_)
 replace o5:IsPair g5 TO x y:=o5
 refine wpAny_bind (wpAny_letGo (wpAny_pure (wpAny_pure ?_)))
 refine wpAny_bind (wpAny_seqItems o5 rfl ?_)
 refine wpAny_bind (wpAny_newTuple ?_)
 have sz:g5.objs.size = s.heap.objs.size:=by rw [k5.1,k4.1,k3.1,k2.1,k1.1]
 have z5:A5 g5 z TI TO .ellipsis (.bool false):=k5.extBut _ _ D.TOz.symm (k4.extBut _ _ D.i2z.symm (k3.extBut _ _ D.TOz.symm (k2.extBut _ _ D.i1z.symm z1)))
 have q5:∀ c o,c ≠ z → c ≠ TO → c ≠ i1 → c ≠ i2 → s.heap.get? c = some o → g5.get? c = some o:=fun c o c1 c2 c3 c4 e=>
  k5.extBut _ _ c2 (k4.extBut _ _ c4 (k3.extBut _ _ c2 (k2.extBut _ _ c3 (k1.extBut _ _ c1 e))))
 have p1:RwIt g5 i1 l1 xs (k + 1):=r2.at (fun o e=>k5.extBut _ o D.TOi1.symm (k4.extBut _ o D.i12 (k3.extBut _ o D.TOi1.symm e))) fun o e=>k5.extBut _ o D.l1TO (k4.extBut _ o D.l1i2 (k3.extBut _ o D.l1TO e))
 have p2:RwIt g5 i2 l2 ys (k + 1):=r4.at (fun o e=>k5.extBut _ o D.TOi2.symm e) fun o e=>k5.extBut _ o D.l2TO e
 have zl:z < g5.objs.size:=Heap.lt_size z5
 show wpAny _ _ (Builtin.SmallTypes.ownedTupleHandOut (.ref z) (.ref g5.objs.size) >>= _) _ _ _
 refine wpAny_bind ?_
 unfold Builtin.SmallTypes.ownedTupleHandOut
 have z6:A5 (g5.push { cls:=.type "tuple",data:=.seq #[x,y] }) z TI TO .ellipsis (.bool false):=Heap.get?_push_of_some _ z5
 refine wpAny_bind (wpAny_setField_rec z6 (by simp) fun g7 z7 k7=>?_)
 replace z7:A5 g7 z TI TO (rawInt g5.objs.size) (.bool false):=z7
 refine wpAny_setField_rec z7 (by simp) fun g8 z8 k8=>?_
 replace z8:A5 g8 z TI TO (rawInt g5.objs.size) (.bool false):=z8
 have up:∀ c o,c ≠ z → g5.get? c = some o → g8.get? c = some o:=fun c o c1 e=>k8.extBut _ _ c1 (k7.extBut _ _ c1 (Heap.get?_push_of_some _ e))
 have t8:IsPair g8 g5.objs.size x y:=k8.extBut _ _ (Nat.ne_of_gt zl) (k7.extBut _ _ (Nat.ne_of_gt zl) (Heap.get?_push_size _ rfl))
 rw [sz] at z8 t8
 refine wpAny_pure ⟨_,rfl,?_⟩
 show Q (.ref g5.objs.size) _
 rw [sz]
 exact hQ g8 z8 (p1.at (fun o e=>up _ o D.i1z e) fun o e=>up _ o D.l1z e) (p2.at (fun o e=>up _ o D.i2z e) fun o e=>up _ o D.l2z e) t8 (fun c o c1 c2 c3 c4 e=>up c o c1 (q5 c o c1 c2 c3 c4 e)) (up _ _ D.TOz o5)
theorem a5j {a b:Value} {Q:Fin → Shared → Prop} (hh:A.handled = none) (D:ZipApart z TI TO i1 i2 l1 l2)
  (hz:A5 s.heap z TI TO .none (.bool false)) (hTI:IsPair s.heap TI (.ref i1) (.ref i2)) (hTO:IsPair s.heap TO a b) (h1:RwIt s.heap i1 l1 xs k) (h2:RwIt s.heap i2 l2 ys k) (hend:xs[k]? = none ∨ ys[k]? = none)
  (hE:∀ h' e,(∀ c o,c ≠ z → c ≠ TO → c ≠ i1 → c ≠ i2 → s.heap.get? c = some o → h'.get? c = some o) → (∃ o,h'.get? e = some o ∧ o.cls = .type "StopIteration") → E (.ref e) { s with heap:=h' }) :
  wpAny (model prog w) A (Builtin.«zip.__next__» ⟨[.ref z],[]⟩) Q E s:=by
 show wpAny _ _ (field (.ref z) 2 >>= _) _ _ _
 refine wpAny_bind (wpAny_field hz rfl (x:=.bool false) rfl ?_)
 show wpAny _ _ (field (.ref z) 3 >>= _) _ _ _
 refine wpAny_bind (wpAny_field hz rfl (x:=.ref TI) rfl ?_)
 refine wpAny_bind (wpAny_seqItems hTI rfl ?_)
 show wpAny _ _ (Builtin.SmallTypes.ownedTupleIsFree (.ref z) >>= _) _ _ _
 refine wpAny_bind ?_
 unfold Builtin.SmallTypes.ownedTupleIsFree
 refine wpAny_bind (wpAny_field hz rfl (x:=.none) rfl (wpAny_pure ?_))
 simp only [if_true]
 refine wpAny_bind (wpAny_rule ?_)
 refine wpAny_bind (wpAny_field hz rfl (x:=.ref TO) rfl ?_)
 refine wpAny_bind (wpAny_setField_rec hz (by simp) fun g1 z1 k1=>?_)
 replace z1:A5 g1 z TI TO .ellipsis (.bool false):=z1
 refine wpAny_bind ?_
 simp only [List.zipIdx_cons,List.zipIdx_nil,List.forIn_cons,List.forIn_nil]
 refine wpAny_bind (wpAny_bind (wpAny_onRaise ?_))
 show wpAny _ _ (Builtin.SmallTypes.nextOf (.ref i1) >>= _) _ _ _
 cases hx:xs[k]? with
 | none=>
  refine wpAny_bind (a1t hh (h1.at (fun o e=>k1.extBut _ o D.i1z e) fun o e=>k1.extBut _ o D.l1z e) hx fun g2 e k2 he=>?_)
  obtain ⟨oe,hoe,hce⟩:=he
  have z2:A5 g2 z TI TO .ellipsis (.bool false):=k2 _ _ D.i1z.symm z1
  have hez:e ≠ z:=fun x=>by subst x; rw [z2] at hoe; cases hoe; simp at hce
  exact wpAny_setField_rec z2 (by simp) fun g3 _ k3=>hE g3 e (fun c o c1 _ c3 _ x=>k3.extBut _ _ c1 (k2 _ _ c3 (k1.extBut _ _ c1 x))) ⟨oe,k3.extBut _ _ hez hoe,hce⟩
 | some x=>
  have hy:ys[k]? = none:=by
   rcases hend with h | h
   ·rw [hx] at h; cases h
   ·exact h
  refine wpAny_bind (W9 (h1.at (fun o e=>k1.extBut _ o D.i1z e) fun o e=>k1.extBut _ o D.l1z e) D.l1i1 hx fun g2 r2 k2=>wpAny_pure ?_)
  have o2:IsPair g2 TO a b:=k2.extBut _ _ D.TOi1 (k1.extBut _ _ D.TOz hTO)
  refine wpAny_bind (wpAny_seqItems o2 rfl ?_)
  refine wpAny_bind (wpAny_updateSeq_pair o2 fun g3 o3 k3=>?_)
  refine wpAny_bind (wpAny_letGo (wpAny_pure ?_))
  refine wpAny_bind (wpAny_bind (wpAny_onRaise ?_))
  show wpAny _ _ (Builtin.SmallTypes.nextOf (.ref i2) >>= _) _ _ _
  refine wpAny_bind (a1t hh (h2.at (fun o e=>k3.extBut _ o D.TOi2.symm (k2.extBut _ o D.i12.symm (k1.extBut _ o D.i2z e))) fun o e=>k3.extBut _ o D.l2TO (k2.extBut _ o D.l2i1 (k1.extBut _ o D.l2z e))) hy fun g4 e k4 he=>?_)
  obtain ⟨oe,hoe,hce⟩:=he
  have z4:A5 g4 z TI TO .ellipsis (.bool false):=k4 _ _ D.i2z.symm (k3.extBut _ _ D.TOz.symm (k2.extBut _ _ D.i1z.symm z1))
  have hez:e ≠ z:=fun x=>by subst x; rw [z4] at hoe; cases hoe; simp at hce
  exact wpAny_setField_rec z4 (by simp) fun g5 _ k5=>hE g5 e (fun c o c1 c2 c3 c4 x=>k5.extBut _ _ c1 (k4 _ _ c4 (k3.extBut _ _ c2 (k2.extBut _ _ c3 (k1.extBut _ _ c1 x))))) ⟨oe,k5.extBut _ _ hez hoe,hce⟩
end
section
variable {prog:Program} {w:World} {A:Around} {E:Value → Shared → Prop} {s:Shared}
variable {z TI TO i1 i2 l1 l2:Addr} {xs ys:Array Value} {k:Nat}
theorem b5B {a:Addr} {o:Obj} {Q:Option Obj → Shared → Prop} (ho:s.heap.get? a = some o) (h:Q (some o) s):wpAny (model prog w) A (loadIfAlive a) Q E s:=by
 have h':Q (s.heap.get? a) s:=by rw [ho]; exact h
 exact fun _ _ _=>h'
theorem a4V {T:Addr} {f:Bool} {oT:Obj} {Q:Bool → Shared → Prop} (hz:A5 s.heap z TI TO (rawInt T) (.bool f)) (hT:s.heap.get? T = some oT)
  (hQ:∀ h',A5 h' z TI TO (rawInt T) (.bool true) → Heap.SameBut z s.heap h' → Q false { s with heap:=h' }):wpAny (model prog w) A (Builtin.SmallTypes.ownedTupleIsFree (.ref z)) Q E s:=by
 unfold Builtin.SmallTypes.ownedTupleIsFree
 refine wpAny_bind (wpAny_field hz rfl (x:=rawInt T) rfl ?_)
 show wpAny _ _ (loadIfAlive ((T:Int).toNat) >>= _) _ _ _
 rw [Int.toNat_natCast]
 refine wpAny_bind (b5B hT ?_)
 simp only [Option.isNone_some,Bool.false_eq_true,if_false]
 refine wpAny_bind (wpAny_field hz rfl (x:=.bool f) rfl ?_)
 cases f with
 | true=>
  rw [if_neg (show ¬ ((Value.bool true != Value.bool true) = true) from Bool.false_ne_true)]
  exact wpAny_pure (hQ s.heap hz (Heap.SameBut.refl _ _))
 | false=>
  rw [if_pos (show (Value.bool false != Value.bool true) = true from rfl)]
  exact wpAny_bind (wpAny_setField_rec hz (by simp) fun g gz gk=>wpAny_pure (hQ g gz gk))
theorem b6H {x y:Value} {T:Addr} {f:Bool} {oT:Obj} {Q:Value → Shared → Prop} (D:ZipApart z TI TO i1 i2 l1 l2)
  (hz:A5 s.heap z TI TO (rawInt T) (.bool f)) (hT:s.heap.get? T = some oT) (hTI:IsPair s.heap TI (.ref i1) (.ref i2)) (h1:RwIt s.heap i1 l1 xs k) (h2:RwIt s.heap i2 l2 ys k) (hx:xs[k]? = some x) (hy:ys[k]? = some y)
  (hQ:∀ h',A5 h' z TI TO (rawInt T) (.bool true) → RwIt h' i1 l1 xs (k + 1) → RwIt h' i2 l2 ys (k + 1) → IsPair h' s.heap.objs.size x y →
   (∀ c o,c ≠ z → c ≠ TO → c ≠ i1 → c ≠ i2 → s.heap.get? c = some o → h'.get? c = some o) → Q (.ref s.heap.objs.size) { s with heap:=h' }) :
  wpAny (model prog w) A (Builtin.«zip.__next__» ⟨[.ref z],[]⟩) (fun fin s'=>∃ v,fin = .done (.ret v) ∧ Q v s') E s:=by
 show wpAny _ _ (field (.ref z) 2 >>= _) _ _ _
 refine wpAny_bind (wpAny_field hz rfl (x:=.bool false) rfl ?_)
 show wpAny _ _ (field (.ref z) 3 >>= _) _ _ _
 refine wpAny_bind (wpAny_field hz rfl (x:=.ref TI) rfl ?_)
 refine wpAny_bind (wpAny_seqItems hTI rfl ?_)
 show wpAny _ _ (Builtin.SmallTypes.ownedTupleIsFree (.ref z) >>= _) _ _ _
 refine wpAny_bind (a4V hz hT fun g1 z1 k1=>?_)
 simp only [Bool.false_eq_true,if_false]
 simp only [List.forIn_toArray,List.forIn_cons,List.forIn_nil]
 refine wpAny_bind (wpAny_bind (wpAny_bind (wpAny_holding ?_)))
 show wpAny _ _ (Builtin.SmallTypes.nextOf (.ref i1) >>= _) _ _ _
 refine wpAny_bind (W9 (h1.at (fun o e=>k1.extBut _ o D.i1z e) fun o e=>k1.extBut _ o D.l1z e) D.l1i1 hx fun g2 r2 k2=>wpAny_pure ?_)
 refine wpAny_pure ?_
 refine wpAny_bind (wpAny_bind (wpAny_holding ?_))
 show wpAny _ _ (Builtin.SmallTypes.nextOf (.ref i2) >>= _) _ _ _
 refine wpAny_bind (W9 (h2.at (fun o e=>k2.extBut _ o D.i12.symm (k1.extBut _ o D.i2z e)) fun o e=>k2.extBut _ o D.l2i1 (k1.extBut _ o D.l2z e)) D.l2i2 hy fun g4 r4 k4=>wpAny_pure ?_)
 refine wpAny_pure (wpAny_pure ?_)
 show wpAny _ _ (newTuple [x,y] >>= _) _ _ _
 refine wpAny_bind (wpAny_newTuple (items:=[x,y]) ?_ (show 2 ≤ sizeLine by decide))
 have sz:g4.objs.size = s.heap.objs.size:=by rw [k4.1,k2.1,k1.1]
 have q4:∀ c o,c ≠ z → c ≠ i1 → c ≠ i2 → s.heap.get? c = some o → g4.get? c = some o:=fun c o c1 c3 c4 e=>k4.extBut _ _ c4 (k2.extBut _ _ c3 (k1.extBut _ _ c1 e))
 refine wpAny_pure ⟨_,rfl,?_⟩
 show Q (.ref g4.objs.size) _
 rw [sz]
 refine hQ _ (Heap.get?_push_of_some _ (k4.extBut _ _ D.i2z.symm (k2.extBut _ _ D.i1z.symm z1)))
  (r2.at (fun o e=>Heap.get?_push_of_some _ (k4.extBut _ o D.i12 e)) fun o e=>Heap.get?_push_of_some _ (k4.extBut _ o D.l1i2 e))
  (r4.at (fun o e=>Heap.get?_push_of_some _ e) fun o e=>Heap.get?_push_of_some _ e) ?_ fun c o c1 c2 c3 c4 e=>Heap.get?_push_of_some _ (q4 c o c1 c3 c4 e)
 rw [← sz]
 exact Heap.get?_push_size _ rfl
theorem b2e {T:Addr} {f:Bool} {oT:Obj} {Q:Fin → Shared → Prop} (hh:A.handled = none) (D:ZipApart z TI TO i1 i2 l1 l2)
  (hz:A5 s.heap z TI TO (rawInt T) (.bool f)) (hT:s.heap.get? T = some oT) (hTI:IsPair s.heap TI (.ref i1) (.ref i2)) (h1:RwIt s.heap i1 l1 xs k) (h2:RwIt s.heap i2 l2 ys k) (hend:xs[k]? = none ∨ ys[k]? = none)
  (hE:∀ h' e,(∀ c o,c ≠ z → c ≠ TO → c ≠ i1 → c ≠ i2 → s.heap.get? c = some o → h'.get? c = some o) → (∃ o,h'.get? e = some o ∧ o.cls = .type "StopIteration") → E (.ref e) { s with heap:=h' }) :
  wpAny (model prog w) A (Builtin.«zip.__next__» ⟨[.ref z],[]⟩) Q E s:=by
 show wpAny _ _ (field (.ref z) 2 >>= _) _ _ _
 refine wpAny_bind (wpAny_field hz rfl (x:=.bool false) rfl ?_)
 show wpAny _ _ (field (.ref z) 3 >>= _) _ _ _
 refine wpAny_bind (wpAny_field hz rfl (x:=.ref TI) rfl ?_)
 refine wpAny_bind (wpAny_seqItems hTI rfl ?_)
 show wpAny _ _ (Builtin.SmallTypes.ownedTupleIsFree (.ref z) >>= _) _ _ _
 refine wpAny_bind (a4V hz hT fun g1 z1 k1=>?_)
 simp only [Bool.false_eq_true,if_false]
 simp only [List.forIn_toArray,List.forIn_cons,List.forIn_nil]
 refine wpAny_bind (wpAny_bind (wpAny_bind (wpAny_holding ?_)))
 show wpAny _ _ (Builtin.SmallTypes.nextOf (.ref i1) >>= _) _ _ _
 cases hx:xs[k]? with
 | none=>
  refine wpAny_bind (a1t hh (h1.at (fun o e=>k1.extBut _ o D.i1z e) fun o e=>k1.extBut _ o D.l1z e) hx fun g2 e k2 he=>?_)
  exact hE g2 e (fun c o c1 _ c3 _ x=>k2 _ _ c3 (k1.extBut _ _ c1 x)) he
 | some x=>
  have hy:ys[k]? = none:=by
   rcases hend with h | h
   ·rw [hx] at h; cases h
   ·exact h
  refine wpAny_bind (W9 (h1.at (fun o e=>k1.extBut _ o D.i1z e) fun o e=>k1.extBut _ o D.l1z e) D.l1i1 hx fun g2 r2 k2=>wpAny_pure ?_)
  refine wpAny_pure ?_
  refine wpAny_bind (wpAny_bind (wpAny_holding ?_))
  show wpAny _ _ (Builtin.SmallTypes.nextOf (.ref i2) >>= _) _ _ _
  refine wpAny_bind (a1t hh (h2.at (fun o e=>k2.extBut _ o D.i12.symm (k1.extBut _ o D.i2z e)) fun o e=>k2.extBut _ o D.l2i1 (k1.extBut _ o D.l2z e)) hy fun g4 e k4 he=>?_)
  exact hE g4 e (fun c o c1 c2 c3 c4 x=>k4 _ _ c4 (k2.extBut _ _ c3 (k1.extBut _ _ c1 x))) he
structure ZSt (h:Heap) (z TI TO i1 i2 l1 l2 S:Addr) (xs ys:Array Value) (k:Nat):Prop where
 ti:IsPair h TI (.ref i1) (.ref i2)
 r1:RwIt h i1 l1 xs k
 r2:RwIt h i2 l2 ys k
 zz:(A5 h z TI TO .none (.bool false) ∧ ∃ a b,IsPair h TO a b) ∨ ∃ (T:Addr) (f:Bool) (oT:Obj),A5 h z TI TO (rawInt T) (.bool f) ∧ h.get? T = some oT ∧ T ≠ z ∧ T ≠ TO ∧ T ≠ i1 ∧ T ≠ i2 ∧ T ≠ S
theorem a9X {S:Addr} {x y:Value} {Q:Option Value → Shared → Prop} (D:ZipApart z TI TO i1 i2 l1 l2) (st:ZSt s.heap z TI TO i1 i2 l1 l2 S xs ys k) (hS:S < s.heap.objs.size) (hTO:TO < s.heap.objs.size) (hx:xs[k]? = some x) (hy:ys[k]? = some y)
  (hQ:∀ h',ZSt h' z TI TO i1 i2 l1 l2 S xs ys (k + 1) → IsPair h' s.heap.objs.size x y → (∀ c o,c ∉ [z,TO,i1,i2] → s.heap.get? c = some o → h'.get? c = some o) → Q (some (.ref s.heap.objs.size)) { s with heap:=h' }) :
  wpAny (model prog w) A (pyNext (.ref z)) Q E s:=by
 obtain ⟨ti,r1,r2,zz⟩:=st
 have K:∀ {h':Heap},(∀ c o,c ≠ z → c ≠ TO → c ≠ i1 → c ≠ i2 → s.heap.get? c = some o → h'.get? c = some o) → ∀ c o,c ∉ [z,TO,i1,i2] → s.heap.get? c = some o → h'.get? c = some o:=fun k c o hc e=>by
  simp only [List.mem_cons,List.not_mem_nil,or_false,not_or] at hc
  exact k c o hc.1 hc.2.1 hc.2.2.1 hc.2.2.2 e
 unfold pyNext
 rcases zz with ⟨hz,a,b,ho⟩ | ⟨T,f,oT,hz,hT,t1,t2,t3,t4,t5⟩
 ·have tz:s.TypeIs (.ref z) "zip" := ⟨_,hz,rfl⟩
  exact wpAny_bind (wpAny_attempt (wpAny_callSpecial?_slot (name:=Str.ofString "__next__") tz PySem.F.slot_zip_next (wpAny_call_entry PySem.F.slot_zip_next tz PySem.F.entry_zip_next
   (a5F D hz ti ho r1 r2 hx hy fun h' a1 a2 a3 a4 a5 _=>wpAny_pure (hQ h' ⟨a5 _ _ D.TIz D.TITO D.TIi1 D.TIi2 ti,a2,a3,.inr ⟨_,_,_,a1,a4,Nat.ne_of_gt (Heap.lt_size hz),Nat.ne_of_gt hTO,Nat.ne_of_gt r1.lt,Nat.ne_of_gt r2.lt,Nat.ne_of_gt hS⟩⟩ a4 (K a5))) (PySem.F.args_zip_next_1 _))))
 ·have tz:s.TypeIs (.ref z) "zip" := ⟨_,hz,rfl⟩
  exact wpAny_bind (wpAny_attempt (wpAny_callSpecial?_slot (name:=Str.ofString "__next__") tz PySem.F.slot_zip_next (wpAny_call_entry PySem.F.slot_zip_next tz PySem.F.entry_zip_next
   (b6H D hz hT ti r1 r2 hx hy fun h' a1 a2 a3 a4 a5=>wpAny_pure (hQ h' ⟨a5 _ _ D.TIz D.TITO D.TIi1 D.TIi2 ti,a2,a3,.inr ⟨T,true,oT,a1,a5 _ _ t1 t2 t3 t4 hT,t1,t2,t3,t4,t5⟩⟩ a4 (K a5))) (PySem.F.args_zip_next_1 _))))
theorem b4H {S:Addr} {Q:Option Value → Shared → Prop} (hh:A.handled = none) (D:ZipApart z TI TO i1 i2 l1 l2) (st:ZSt s.heap z TI TO i1 i2 l1 l2 S xs ys k) (hend:xs[k]? = none ∨ ys[k]? = none)
  (hQ:∀ h',(∀ c o,c ∉ [z,TO,i1,i2] → s.heap.get? c = some o → h'.get? c = some o) → Q none { s with heap:=h' }):wpAny (model prog w) A (pyNext (.ref z)) Q E s:=by
 obtain ⟨ti,r1,r2,zz⟩:=st
 have K:∀ {h':Heap},(∀ c o,c ≠ z → c ≠ TO → c ≠ i1 → c ≠ i2 → s.heap.get? c = some o → h'.get? c = some o) → ∀ c o,c ∉ [z,TO,i1,i2] → s.heap.get? c = some o → h'.get? c = some o:=fun k c o hc e=>by
  simp only [List.mem_cons,List.not_mem_nil,or_false,not_or] at hc
  exact k c o hc.1 hc.2.1 hc.2.2.1 hc.2.2.2 e
 unfold pyNext
 rcases zz with ⟨hz,a,b,ho⟩ | ⟨T,f,oT,hz,hT,t1,t2,t3,t4,t5⟩
 ·have tz:s.TypeIs (.ref z) "zip" := ⟨_,hz,rfl⟩
  refine wpAny_bind (wpAny_attempt (wpAny_callSpecial?_slot (name:=Str.ofString "__next__") tz PySem.F.slot_zip_next (wpAny_call_entry PySem.F.slot_zip_next tz PySem.F.entry_zip_next (a5j hh D hz ti ho r1 r2 hend fun h' e hk he=>?_) (PySem.F.args_zip_next_1 _))))
  obtain ⟨o,ho,hc⟩:=he
  refine wpAny_bind (wpAny_isInstance (T := "StopIteration") (b:=true) ⟨o,ho,hc⟩ isSubtype_stop ?_)
  exact wpAny_pure (hQ _ (K hk))
 ·have tz:s.TypeIs (.ref z) "zip" := ⟨_,hz,rfl⟩
  refine wpAny_bind (wpAny_attempt (wpAny_callSpecial?_slot (name:=Str.ofString "__next__") tz PySem.F.slot_zip_next (wpAny_call_entry PySem.F.slot_zip_next tz PySem.F.entry_zip_next (b2e hh D hz hT ti r1 r2 hend fun h' e hk he=>?_) (PySem.F.args_zip_next_1 _))))
  obtain ⟨o,ho,hc⟩:=he
  refine wpAny_bind (wpAny_isInstance (T := "StopIteration") (b:=true) ⟨o,ho,hc⟩ isSubtype_stop ?_)
  exact wpAny_pure (hQ _ (K hk))
end
structure LW (prog:Program) (w:World) (A:Around) (I S:Addr) (wr:List Addr) (n:Nat) (P:Nat → Value → Heap → Prop) (St:Nat → Heap → Prop):Prop where
 item:∀ (i:Nat) (s:Shared) (Q:Option Value → Shared → Prop) (E:Value → Shared → Prop),i < n → St i s.heap → S < s.heap.objs.size →
  (∀ v h',P i v h' → St (i + 1) h' → (∀ j u,P j u s.heap → u ≠ v) → (∀ b o,b ∉ wr → s.heap.get? b = some o → h'.get? b = some o) → Q (some v) { s with heap:=h' }) → wpAny (model prog w) A (pyNext (.ref I)) Q E s
 done:∀ (s:Shared) (Q:Option Value → Shared → Prop) (E:Value → Shared → Prop),St n s.heap → (∀ h',(∀ b o,b ∉ wr → s.heap.get? b = some o → h'.get? b = some o) → Q none { s with heap:=h' }) → wpAny (model prog w) A (pyNext (.ref I)) Q E s
 stay:∀ i h h',St i h → (∀ b o,b ≠ S → h.get? b = some o → h'.get? b = some o) → St i h'
 pay:∀ i v h h',P i v h → (∀ b o,b ≠ S → b ∉ wr → h.get? b = some o → h'.get? b = some o) → P i v h'
 self:∀ (A:Around) (s:Shared) (Q:Value → Shared → Prop) (E:Value → Shared → Prop),St 0 s.heap → Q (.ref I) s → wpAny (model prog w) A (pyIter (.ref I)) Q E s
 out:S ∉ wr
section
variable {prog:Program} {w:World} {A:Around} {I S:Addr} {wr:List Addr} {n:Nat} {P:Nat → Value → Heap → Prop} {St:Nat → Heap → Prop} {s:Shared} {R:Result → Shared → Prop}
noncomputable def Got (P:Nat → Value → Heap → Prop) (h:Heap) (acc:Array Value) (i:Nat):Prop:=acc.size = i ∧ (∀ j v,acc[j]? = some v → P j v h) ∧ acc.toList.Nodup
noncomputable abbrev R6 (h:Heap) (S:Addr) (acc:Array Value) (c:Nat):Prop:=h.get? S = some { cls:=.type "list",dict:=none,data:=.seq acc c,slots:=#[] }
theorem b3Q (W:LW prog w A.in1 I S wr n P St) (hn:n ≤ sizeLine) (res:Value) {h₁:Heap}
  (hR:∀ h' acc c,(∀ b o,b ≠ S → b ∉ wr → h₁.get? b = some o → h'.get? b = some o) → R6 h' S acc c → Got P h' acc n → R (.ok (.ret res)) { s with heap:=h' }) :
  ∀ (k i:Nat) (h:Heap) (c:Nat) (acc:Array Value),n - i = k → i ≤ n → St i h → (∀ b o,b ≠ S → b ∉ wr → h₁.get? b = some o → h.get? b = some o) → R6 h S acc c → Got P h acc i →
   codeAny (model prog w) A (.builtin "list.extend.loop" ⟨[.ref S,.ref I,res],[]⟩) R { s with heap:=h }:=by
 intro k
 induction k with
 | zero=>
  intro i h c acc hk hi hst kp hS hG
  have e:i = n:=by omega
  subst e
  refine codeAny_builtin PySem.F.entry_extend_loop ?_
  rw [Around.under_plainId PySem.F.plain_extend_loop _]
  show wpAny _ A.in1 (pyNext (.ref I) >>= _) _ _ _
  refine wpAny_bind (W.done { s with heap:=h } _ _ hst fun h' he=>?_)
  exact wpAny_pure (hR h' acc c (fun b o h1 h2 e=>he b o h2 (kp b o h1 h2 e)) (he S _ W.out hS) ⟨hG.1,fun j v e=>W.pay j v h h' (hG.2.1 j v e) fun b o _ h2 e=>he b o h2 e,hG.2.2⟩)
 | succ k ih=>
  intro i h c acc hk hi hst kp hS hG
  have hlt:i < n:=by omega
  refine codeAny_builtin PySem.F.entry_extend_loop ?_
  rw [Around.under_plainId PySem.F.plain_extend_loop _]
  show wpAny _ A.in1 (pyNext (.ref I) >>= _) _ _ _
  refine wpAny_bind (W.item i { s with heap:=h } _ _ hlt hst (Heap.lt_size hS) fun v h' hP hst' hne he=>?_)
  dsimp only at he hne ⊢
  have hS':R6 h' S acc c:=he S _ W.out hS
  have up:∀ b o,b ≠ S → h'.get? b = some o → (h'.update S (Obj.mapSeq (·.push v))).get? b = some o:=fun b o hb e=>(Heap.get?_update_other _ _ (Ne.symm hb)).trans e
  show wpAny _ A.in1 (updateSeq S (·.push v) >>= _) _ _ _
  refine wpAny_bind ?_
  have hsz:=hG.1
  refine wpAny_updateSeq hS' rfl (wpAny_pure ⟨plainId_quiet PySem.F.plain_extend_loop _,ih (i + 1) _ _ (acc.push v) (by omega) hlt (W.stay _ h' _ hst' up)
   (fun b o h1 h2 e=>up b o h1 (he b o h2 (kp b o h1 h2 e))) (Heap.get?_update_self _ hS' rfl) ⟨by rw [Array.size_push,hsz],fun j x hj=>?_,?_⟩⟩) (by rw [hsz]; omega) (by show (acc.push v).size ≤ sizeLine + 1; rw [Array.size_push,hsz]; omega)
  ·rw [Array.getElem?_push] at hj
   split at hj
   ·rename_i e
    cases hj
    rw [e,hsz]
    exact W.pay i v h' _ hP fun b o h1 _ e=>up b o h1 e
   ·exact W.pay j x h _ (hG.2.1 j x hj) fun b o h1 h2 e=>up b o h1 (he b o h2 e)
  ·rw [Array.toList_push]
   refine List.nodup_append.mpr ⟨hG.2.2,by simp,fun a ha b hb=>?_⟩
   have e:b = v:=by simpa using hb
   subst e
   obtain ⟨j,hj⟩:=List.mem_iff_getElem?.mp ha
   exact hne j a (hG.2.1 j a (by simpa using hj))
theorem b1P {T:String} (W:LW prog w A.in1 I S wr n P St) (hn:n ≤ sizeLine) (hT:s.TypeIs (.ref I) T) (hl:(Value.type T == Value.type "list") = false) (ht:(Value.type T == Value.type "tuple") = false)
  (nl:typeLookup (.type T) "__len__" = pure none) (nh:typeLookup (.type T) "__length_hint__" = pure none) (hst:St 0 s.heap) (hSI:S ≠ I) (res:Value) (c₀:Nat) (hS:R6 s.heap S #[] c₀)
  (hR:∀ h' acc c,(∀ b o,b ≠ S → b ∉ wr → s.heap.get? b = some o → h'.get? b = some o) → R6 h' S acc c → Got P h' acc n → R (.ok (.ret res)) { s with heap:=h' }) :
  wpAny (model prog w) A.in1 (Builtin.List.listExtendWith (.ref S) (.ref I) res)
   (fun fin s'=>match fin with | .done f=>R (.ok f) s' | .again c'=>c'.quiet = true ∧ codeAny (model prog w) A c' R s') (fun e s'=>R (.error e) s') s:=by
 have key:∀ (h:Heap) (c₁:Nat),(∀ b o,b ≠ S → s.heap.get? b = some o → h.get? b = some o) → R6 h S #[] c₁ →
   codeAny (model prog w) A (.builtin "list.extend.loop" ⟨[.ref S,.ref I,res],[]⟩) R { s with heap:=h }:=fun h c₁ hk hS₁=>
  b3Q (h₁:=s.heap) W hn res hR n 0 h c₁ #[] (Nat.sub_zero _) (Nat.zero_le _) (W.stay 0 _ h hst hk) (fun b o h1 _ e=>hk b o h1 e) hS₁ ⟨rfl,fun j v e=>by simp at e,by simp⟩
 unfold Builtin.List.listExtendWith
 refine wpAny_bind (wpAny_typeOf hT ?_)
 have h1:Builtin.List.listSameRef (.ref S) (.ref I) = false:=by simp [Builtin.List.listSameRef,hSI]
 simp only [h1,hl,ht,Bool.or_false,Bool.false_eq_true,if_false]
 refine wpAny_bind (W.self _ _ _ _ hst ?_)
 refine wpAny_bind (wpAny_holding ?_)
 unfold Builtin.List.listLengthHint
 refine wpAny_bind (wpAny_specialOf hT nl ?_)
 show wpAny _ A.in1 (specialOf (Value.ref I) (Str.ofString "__length_hint__") >>= _) _ _ _
 refine wpAny_bind (wpAny_specialOf hT nh ?_)
 refine wpAny_pure ?_
 show wpAny _ A.in1 (rule "list.extend.makes-room" >>= fun _=>Builtin.List.listTouch (.ref S) >>= fun _=>
  again (.builtin "list.extend.loop" ⟨[.ref S,.ref I,res],[]⟩)) _ _ _
 refine wpAny_bind (wpAny_rule ?_)
 refine wpAny_bind ?_
 show wpAny _ A.in1 (updateSeq S (·.push .none) >>= fun _=>updateSeq S (·.pop)) _ _ _
 refine wpAny_bind (wpAny_updateSeq hS rfl ?_)
 have hS₂:=Heap.get?_update_self (Obj.mapSeq (·.push Value.none)) hS rfl
 refine wpAny_updateSeq (hz:=by seq_fits) hS₂ rfl ?_
 have hS₃:=Heap.get?_update_self (Obj.mapSeq (·.pop)) hS₂ rfl
 refine wpAny_pure ⟨plainId_quiet PySem.F.plain_extend_loop _,key _ _ (fun b o hb e=>?_) hS₃⟩
 exact (Heap.get?_update_other _ _ (Ne.symm hb)).trans ((Heap.get?_update_other _ _ (Ne.symm hb)).trans e)
theorem b3G {T:String} {E:Value → Shared → Prop} {Q:Value → Shared → Prop} (W:LW prog w A.in1.in1 I s.heap.objs.size wr n P St) (hn:n ≤ sizeLine) (hT:s.TypeIs (.ref I) T) (hl:(Value.type T == Value.type "list") = false) (ht:(Value.type T == Value.type "tuple") = false)
  (nl:typeLookup (.type T) "__len__" = pure none) (nh:typeLookup (.type T) "__length_hint__" = pure none) (hst:St 0 s.heap)
  (hQ:∀ h' acc c,(∀ b o,b ∉ wr → s.heap.get? b = some o → h'.get? b = some o) → R6 h' s.heap.objs.size acc c → Got P h' acc n → Q (.ref s.heap.objs.size) { s with heap:=h' }) :
  wpAny (model prog w) A (call (.type "list") [.ref I]) Q E s:=by
 refine callType_codes (Q₁:=fun obj s₁=>obj = .ref s.heap.objs.size ∧ s₁ = { s with heap:=s.heap.push { cls:=.type "list",data:=.seq #[] } }) PySem.F.called_list (PySem.F.typeCall_list_1 _) PySem.F.entry_list_init
  (code_list_new _ ⟨rfl,rfl⟩) fun obj s₁ h₁=>?_
 obtain ⟨rfl,rfl⟩:=h₁
 have hS:(s.heap.push { cls:=.type "list",data:=.seq #[] }).get? s.heap.objs.size = some { cls:=.type "list",data:=.seq #[] }:=Heap.get?_push_size _ rfl
 obtain ⟨oI,hoI,hcI⟩:=id hT
 have hI:I < s.heap.objs.size:=Heap.lt_size hoI
 refine ⟨⟨_,hS,rfl⟩,PySem.F.args_list_init_2 _ _,?_⟩
 show wpAny _ _ (do let old ← Builtin.List.listItems (.ref s.heap.objs.size); Builtin.List.listUpdate (.ref s.heap.objs.size) (fun _=>#[]); letGo old.toList.reverse; Builtin.List.listExtendWith (.ref s.heap.objs.size) (.ref I) .none) _ _ _
 refine wpAny_bind ?_
 unfold Builtin.List.listItems
 refine wpAny_bind (wpAny_seqItems hS rfl (wpAny_pure ?_))
 show wpAny _ _ (updateSeq s.heap.objs.size (fun _=>#[]) >>= fun _=>letGo (#[]:Array Value).toList.reverse >>= fun _=>Builtin.List.listExtendWith (.ref s.heap.objs.size) (.ref I) .none) _ _ _
 refine wpAny_bind (wpAny_updateSeq hS rfl ?_)
 have hS₂:=Heap.get?_update_self (Obj.mapSeq (fun _=>(#[]:Array Value))) hS rfl
 have oth:∀ b o,b ≠ s.heap.objs.size → s.heap.get? b = some o → ((s.heap.push { cls:=.type "list",data:=.seq #[] }).update s.heap.objs.size (Obj.mapSeq (fun _=>(#[]:Array Value)))).get? b = some o:=
  fun b o hb e=>(Heap.get?_update_other _ _ (Ne.symm hb)).trans (Heap.get?_push_of_some _ e)
 refine wpAny_bind (wpAny_letGo ?_)
 refine b1P (A:=A.in1) W hn ⟨oI,oth I _ (Nat.ne_of_lt hI) hoI,hcI⟩ hl ht nl nh (W.stay 0 s.heap _ hst oth) (Nat.ne_of_gt hI) .none _ hS₂ fun h' acc c hk hS' hG=>?_
 exact ⟨rfl,hQ h' acc c (fun b o h2 e=>hk b o (Nat.ne_of_lt (Heap.lt_size e)) h2 (oth b o (Nat.ne_of_lt (Heap.lt_size e)) e)) hS' hG⟩
end
theorem b2r:typeLookup (.type "zip") "__len__" = pure none:=by rw [typeLookup_type,builtinLookup_eq_fast]; kernel_rfl
theorem b4X:typeLookup (.type "zip") "__length_hint__" = pure none:=by rw [typeLookup_type,builtinLookup_eq_fast]; kernel_rfl
theorem b1l {prog:Program} {w:World} {A:Around} {z TI TO i1 i2 l1 l2 S:Addr} {xs ys:Array Value} (hh:A.handled = none) (D:ZipApart z TI TO i1 i2 l1 l2) (hTO:TO < S) (hS:S ∉ [z,TI,TO,i1,i2,l1,l2]) (top:∀ b ∈ [z,TO,i1,i2],b < S) :
  LW prog w A z S [z,TO,i1,i2] (min xs.size ys.size) (fun j v h=>∃ a x y,v = .ref a ∧ S ≤ a ∧ a ≠ S ∧ xs[j]? = some x ∧ ys[j]? = some y ∧ IsPair h a x y) (fun k h=>ZSt h z TI TO i1 i2 l1 l2 S xs ys k) where
 item:=fun i s Q E hi st hs hQ=>by
  have hix:i < xs.size:=Nat.lt_of_lt_of_le hi (Nat.min_le_left ..)
  have hiy:i < ys.size:=Nat.lt_of_lt_of_le hi (Nat.min_le_right ..)
  exact a9X D st hs (Nat.lt_trans hTO hs) (Array.getElem?_eq_getElem hix) (Array.getElem?_eq_getElem hiy) fun h' a1 a2 a3=>hQ _ h' ⟨_,_,_,rfl,Nat.le_of_lt hs,Nat.ne_of_gt hs,Array.getElem?_eq_getElem hix,Array.getElem?_eq_getElem hiy,a2⟩ a1 (fun j u ⟨a,x,y,e,_,_,_,_,q⟩ z=>by
   rw [e] at z; cases z; exact absurd (Heap.lt_size q) (Nat.lt_irrefl _)) a3
 done:=fun s Q E st hQ=>by
  have hend:xs[min xs.size ys.size]? = none ∨ ys[min xs.size ys.size]? = none:=by
   rcases Nat.le_total xs.size ys.size with h | h
   ·exact .inl (by rw [Nat.min_eq_left h]; exact Array.getElem?_eq_none (Nat.le_refl _))
   ·exact .inr (by rw [Nat.min_eq_right h]; exact Array.getElem?_eq_none (Nat.le_refl _))
  exact b4H hh D st hend hQ
 stay:=fun i h h' st k=>by
  simp only [List.mem_cons,List.not_mem_nil,or_false,not_or] at hS
  obtain ⟨n1,n2,n3,n4,n5,n6,n7⟩:=hS
  obtain ⟨ti,r1,r2,zz⟩:=st
  refine ⟨k _ _ (Ne.symm n2) ti,r1.at (fun o e=>k _ o (Ne.symm n4) e) (fun o e=>k _ o (Ne.symm n6) e),r2.at (fun o e=>k _ o (Ne.symm n5) e) (fun o e=>k _ o (Ne.symm n7) e),?_⟩
  rcases zz with ⟨hz,a,b,ho⟩ | ⟨T,f,oT,hz,hT,t1,t2,t3,t4,t5⟩
  ·exact .inl ⟨k _ _ (Ne.symm n1) hz,a,b,k _ _ (Ne.symm n3) ho⟩
  ·exact .inr ⟨T,f,oT,k _ _ (Ne.symm n1) hz,k _ _ t5 hT,t1,t2,t3,t4,t5⟩
 pay:=fun i v h h' p k=>by
  obtain ⟨a,x,y,e,ha,na,hx,hy,q⟩:=p
  refine ⟨a,x,y,e,ha,na,hx,hy,k _ _ na (fun hb=>?_) q⟩
  exact absurd (Nat.lt_of_lt_of_le (top a hb) ha) (Nat.lt_irrefl _)
 self:=fun A s Q E st hQ=>by
  have tz:s.TypeIs (.ref z) "zip":= by
   rcases st.zz with ⟨hz,_⟩ | ⟨T,f,oT,hz,_⟩ <;> exact ⟨_,hz,rfl⟩
  refine wpAny_pyIter_slot tz PySem.F.slot_zip_iter (wpAny_call_entry PySem.F.slot_zip_iter tz PySem.F.entry_zip_iter ?_ (PySem.F.args_zip_iter_1 _))
  show wpAny _ _ (ret (.ref z)) _ _ s
  exact wpAny_pure ⟨_,rfl, "zip",_,tz,PySem.F.slot_zip_next.lookup,hQ⟩
 out:=fun h=>hS (by
  simp only [List.mem_cons,List.not_mem_nil,or_false] at h ⊢
  rcases h with h | h | h | h <;> simp [h])
noncomputable def L4 (t:Bool) (l:Addr):Obj:={ cls:=.type (if t then "tuple_iterator" else "list_iterator"),data:=.fields #[.ref l,.int 0 0] }
noncomputable def RwB (t:Bool) (h:Heap) (l:Addr) (xs:Array Value):Prop:=if t then h.IsTuple l xs else h.IsList l xs
section
variable {prog:Program} {w:World} {A:Around} {E:Value → Shared → Prop} {s:Shared}
theorem a4I {t:Bool} {l:Addr} {xs:Array Value} {Q:Value → Shared → Prop} (h:RwB t s.heap l xs) (hQ:Q (.ref s.heap.objs.size) { s with heap:=s.heap.push (L4 t l) }):wpAny (model prog w) A (pyIter (.ref l)) Q E s:=by
 cases t with
 | true=>exact wpAny_pyIter_tuple h hQ
 | false=>exact wpAny_pyIter_list h hQ
end
noncomputable abbrev zq1 (h:Heap) (t1:Bool) (l1:Addr):Heap:=h.push (L4 t1 l1)
noncomputable abbrev zq2 (h:Heap) (t1 t2:Bool) (l1 l2:Addr):Heap:=(zq1 h t1 l1).push (L4 t2 l2)
noncomputable abbrev zq3 (h:Heap) (t1 t2:Bool) (l1 l2:Addr):Heap:=(zq2 h t1 t2 l1 l2).push { cls:=.type "tuple",data:=.seq #[.ref h.objs.size,.ref (zq1 h t1 l1).objs.size] }
noncomputable abbrev zq4 (h:Heap) (t1 t2:Bool) (l1 l2:Addr):Heap:=(zq3 h t1 t2 l1 l2).push { cls:=.type "tuple",data:=.seq #[.none,.none] }
noncomputable abbrev zq5 (h:Heap) (t1 t2:Bool) (l1 l2:Addr):Heap:=(zq4 h t1 t2 l1 l2).push { cls:=.type "zip",data:=.fields #[.none,.bool false,.bool false,.ref (zq2 h t1 t2 l1 l2).objs.size,.ref (zq3 h t1 t2 l1 l2).objs.size] }
theorem RwB.push {t:Bool} {h:Heap} {l:Addr} {xs:Array Value} (x:RwB t h l xs) (o:Obj):RwB t (h.push o) l xs:=by
 cases t with
 | true=>exact Heap.IsTuple.push x o
 | false=>exact Heap.IsList.push x o
theorem b6b (t1 t2:Bool) (l1 l2:Addr) (xs ys:Array Value) :
  Meets (Builtin.«zip.__new__» ⟨[.type "zip",.ref l1,.ref l2],[]⟩) (fun _ R s=>RwB t1 s.heap l1 xs ∧ RwB t2 s.heap l2 ys ∧
   R (.ok (.ret (.ref (zq4 s.heap t1 t2 l1 l2).objs.size))) { s with heap:=zq5 s.heap t1 t2 l1 l2 }):=
 .of_wp fun prog w A R s h=>by
  obtain ⟨hp,g,d,tk,os⟩:=s; obtain ⟨hl1,hl2,h⟩:=h
  have hsub:=sub_zip
  have hL1:RwB t1 (Shared.heap ⟨hp,g,d,tk,os⟩) l1 xs:=hl1
  have hL2:RwB t2 (Shared.heap ⟨hp.push (L4 t1 l1),g,d,tk,os⟩) l2 ys:=RwB.push hl2 _
  wp_walk using a4I hL1,a4I hL2
  exact ⟨_,rfl,h⟩
section
variable {prog:Program} {w:World} {A:Around} {E:Value → Shared → Prop} {s:Shared}
theorem RwB.it {t:Bool} {h:Heap} {i l:Addr} {xs:Array Value} (x:RwB t h l xs) (e:h.get? i = some (L4 t l)):RwIt h i l xs 0:=by
 cases t with
 | true=>exact .inr ⟨⟨_,e,rfl,rfl⟩,x⟩
 | false=>exact .inl ⟨⟨_,e,rfl,rfl⟩,x⟩
theorem RwB.at {t:Bool} {h h':Heap} {l:Addr} {xs:Array Value} (x:RwB t h l xs) (e:∀ o,h.get? l = some o → h'.get? l = some o):RwB t h' l xs:=by
 cases t with
 | true=>obtain ⟨o,q,r⟩:=x; exact ⟨o,e o q,r⟩
 | false=>obtain ⟨o,q,r⟩:=x; exact ⟨o,e o q,r⟩
theorem RwB.lt {t:Bool} {h:Heap} {l:Addr} {xs:Array Value} (x:RwB t h l xs):l < h.objs.size:=by
 cases t with
 | true=>obtain ⟨o,q,r⟩:=x; exact Heap.lt_size q
 | false=>obtain ⟨o,q,r⟩:=x; exact Heap.lt_size q
noncomputable def a69 (h:Heap) (m:Nat) (xs ys:Array Value):Prop:=∃ l1 l2,ZipApart (m + 4) (m + 2) (m + 3) m (m + 1) l1 l2 ∧ l1 < m ∧ l2 < m ∧ h.objs.size = m + 5 ∧ ∀ S,m + 5 ≤ S → ZSt h (m + 4) (m + 2) (m + 3) m (m + 1) l1 l2 S xs ys 0
noncomputable def b24 (h:Heap) (m:Nat) (t1 t2:Bool) (l1 l2:Addr):Prop:=ZipApart (m + 4) (m + 2) (m + 3) m (m + 1) l1 l2 ∧ h.get? m = some (L4 t1 l1) ∧ h.get? (m + 1) = some (L4 t2 l2) ∧ IsPair h (m + 2) (.ref m) (.ref (m + 1)) ∧ A5 h (m + 4) (m + 2) (m + 3) .none (.bool false) ∧ ∃ a b,IsPair h (m + 3) a b
theorem a8u {t1 t2:Bool} {l1 l2:Addr} {xs ys:Array Value} {Q:Value → Shared → Prop} (h1:RwB t1 s.heap l1 xs) (h2:RwB t2 s.heap l2 ys)
  (h:∀ h',a69 h' s.heap.objs.size xs ys → (∀ c o,s.heap.get? c = some o → h'.get? c = some o) → b24 h' s.heap.objs.size t1 t2 l1 l2 → Q (.ref (s.heap.objs.size + 4)) { s with heap:=h' }) :
  wpAny (model prog w) A (call (.type "zip") [.ref l1,.ref l2]) Q E s:=by
 refine callType_new PySem.F.called_zip (by decide) (PySem.F.typeCall_zip_2 _ _) (PySem.F.newCall_zip_2 _ _) (fun obj=>PySem.F.args_object_init_3 obj _ _) PySem.F.entry_zip_new
  (b6b t1 t2 l1 l2 xs ys) ⟨h1,h2,?_⟩
 have z1:(zq1 s.heap t1 l1).objs.size = s.heap.objs.size + 1:=Heap.size_push ..
 have z2:(zq2 s.heap t1 t2 l1 l2).objs.size = s.heap.objs.size + 2:=by rw [Heap.size_push,z1]
 have z3:(zq3 s.heap t1 t2 l1 l2).objs.size = s.heap.objs.size + 3:=by rw [Heap.size_push,z2]
 have z4:(zq4 s.heap t1 t2 l1 l2).objs.size = s.heap.objs.size + 4:=by rw [Heap.size_push,z3]
 have z5:(zq5 s.heap t1 t2 l1 l2).objs.size = s.heap.objs.size + 5:=by rw [Heap.size_push,z4]
 have fr:∀ t l,(L4 t l).isFreed = false:=fun t l=>rfl
 have g5:(zq5 s.heap t1 t2 l1 l2).get? (zq4 s.heap t1 t2 l1 l2).objs.size = some _:=Heap.get?_push_size _ rfl
 have g4:(zq5 s.heap t1 t2 l1 l2).get? (zq3 s.heap t1 t2 l1 l2).objs.size = some _:=Heap.get?_push_of_some _ (Heap.get?_push_size _ rfl)
 have g3:(zq5 s.heap t1 t2 l1 l2).get? (zq2 s.heap t1 t2 l1 l2).objs.size = some _:=Heap.get?_push_of_some _ (Heap.get?_push_of_some _ (Heap.get?_push_size _ rfl))
 have g2:(zq5 s.heap t1 t2 l1 l2).get? (zq1 s.heap t1 l1).objs.size = some (L4 t2 l2):=Heap.get?_push_of_some _ (Heap.get?_push_of_some _ (Heap.get?_push_of_some _ (Heap.get?_push_size _ (fr _ _))))
 have g1:(zq5 s.heap t1 t2 l1 l2).get? s.heap.objs.size = some (L4 t1 l1):=Heap.get?_push_of_some _ (Heap.get?_push_of_some _ (Heap.get?_push_of_some _ (Heap.get?_push_of_some _ (Heap.get?_push_size _ (fr _ _)))))
 show _ ∧ _
 rw [z2,z3,z4] at g5
 rw [z1,z2] at g3
 rw [z3] at g4
 rw [z1] at g2
 rw [z4]
 have up:∀ c o,s.heap.get? c = some o → (zq5 s.heap t1 t2 l1 l2).get? c = some o:=fun c o x=>
  Heap.get?_push_of_some _ (Heap.get?_push_of_some _ (Heap.get?_push_of_some _ (Heap.get?_push_of_some _ (Heap.get?_push_of_some _ x))))
 refine ⟨⟨_,g5,rfl⟩,h _ ⟨l1,l2,PyProof.Rows.zipApart_new h1.lt h2.lt,h1.lt,h2.lt,z5,fun S hS=>⟨g3,(h1.at fun o e=>up _ o e).it g1,(h2.at fun o e=>up _ o e).it g2,.inl ⟨g5,_,_,g4⟩⟩⟩ up ⟨PyProof.Rows.zipApart_new h1.lt h2.lt,g1,g2,g3,g5,_,_,g4⟩⟩
structure LZ (h h':Heap) (S:Addr) (xs ys:Array Value) (as:List Addr) (c:Nat):Prop where
 keep:∀ b o,h.get? b = some o → h'.get? b = some o
 low:h.objs.size ≤ S
 lst:R6 h' S (as.map Value.ref).toArray c
 len:as.length = min xs.size ys.size
 new:∀ a ∈ as,h.objs.size ≤ a ∧ a ≠ S
 nd:as.Nodup
 at':∀ (j:Nat) a,as[j]? = some a → ∃ x y,xs[j]? = some x ∧ ys[j]? = some y ∧ IsPair h' a x y
theorem a95 {P:Nat → Value → Heap → Prop} {h:Heap} {acc:Array Value} {n:Nat} (g:Got P h acc n) (hp:∀ j v,P j v h → ∃ a,v = .ref a):∃ as:List Addr,acc = (as.map Value.ref).toArray:=by
 have:∀ l:List Value,(∀ v ∈ l,∃ a,v = Value.ref a) → ∃ as:List Addr,l = as.map Value.ref:=by
  intro l
  induction l with
  | nil=>exact fun _=>⟨[],rfl⟩
  | cons v r ih=>
   intro hv
   obtain ⟨a,e⟩:=hv v (.head _)
   obtain ⟨as,e'⟩:=ih fun u hu=>hv u (.tail _ hu)
   exact ⟨a :: as,by rw [e,e']; rfl⟩
 obtain ⟨as,e⟩:=this acc.toList fun v hv=>by
  obtain ⟨j,hj⟩:=List.mem_iff_getElem?.mp hv
  exact hp j v (g.2.1 j v (by simpa using hj))
 exact ⟨as,by rw [← e,Array.toArray_toList]⟩
theorem b3h {m:Nat} {h₀:Heap} {xs ys:Array Value} {Q:Value → Shared → Prop} (hh:A.handled = none) (Z:a69 s.heap m xs ys) (k₀:∀ c o,h₀.get? c = some o → s.heap.get? c = some o) (hm:h₀.objs.size = m) (hn:xs.size ≤ sizeLine)
  (hQ:∀ S h' as c,LZ h₀ h' S xs ys as c → Q (.ref S) { s with heap:=h' }):wpAny (model prog w) A (call (.type "list") [.ref (m + 4)]) Q E s:=by
 obtain ⟨l1,l2,D,b1,b2,sz,st⟩:=Z
 have st0:=st s.heap.objs.size (by omega)
 have tz:s.TypeIs (.ref (m + 4)) "zip":= by
  rcases st0.zz with ⟨hz,_⟩ | ⟨T,f,oT,hz,_⟩ <;> exact ⟨_,hz,rfl⟩
 refine b3G (T := "zip") (b1l (A:=A.in1.in1) hh D (show (m + 3:Nat) < s.heap.objs.size by omega) (by
  simp only [List.mem_cons,List.not_mem_nil,or_false,not_or]
  have ms:m ≤ s.heap.objs.size:=by omega
  exact ⟨show (s.heap.objs.size:Nat) ≠ m + 4 by omega,show (s.heap.objs.size:Nat) ≠ m + 2 by omega,show (s.heap.objs.size:Nat) ≠ m + 3 by omega,show (s.heap.objs.size:Nat) ≠ m by omega,show (s.heap.objs.size:Nat) ≠ m + 1 by omega,
   Nat.ne_of_gt (Nat.lt_of_lt_of_le b1 ms),Nat.ne_of_gt (Nat.lt_of_lt_of_le b2 ms)⟩) (by
  simp only [List.mem_cons,List.not_mem_nil,or_false]
  intro b hb
  have ml:∀ j,j ≤ 4 → m + j < s.heap.objs.size:=fun j _=>by omega
  rcases hb with e | e | e | e
  ·rw [e]; exact ml 4 (by omega)
  ·rw [e]; exact ml 3 (by omega)
  ·rw [e]; exact ml 0 (by omega)
  ·rw [e]; exact ml 1 (by omega))) (Nat.le_trans (Nat.min_le_left ..) hn) tz (by decide) (by decide) b2r b4X st0 fun h' acc c k l g=>?_
 obtain ⟨as,ea⟩:=a95 g fun j v ⟨a,_,_,e,_⟩=>⟨a,e⟩
 subst ea
 refine hQ _ h' as c ⟨fun b o e=>k b o (fun hb=>?_) (k₀ b o e),by omega,l,by simpa using g.1,fun a ha=>?_,?_,fun j a e=>?_⟩
 ·have hl:b < m:=hm ▸ Heap.lt_size e
  simp only [List.mem_cons,List.not_mem_nil,or_false] at hb
  have up:∀ j:Nat,¬ (m + j < m):=fun j=>by omega
  rcases hb with e | e | e | e
  ·exact up 4 (e ▸ hl)
  ·exact up 3 (e ▸ hl)
  ·exact up 0 (e ▸ hl)
  ·exact up 1 (e ▸ hl)
 ·obtain ⟨j,hj⟩:=List.mem_iff_getElem?.mp ha
  obtain ⟨a',x,y,e,q1,q2,_⟩:=g.2.1 j (.ref a) (by simp [hj])
  cases e
  exact ⟨Nat.le_trans (show (h₀.objs.size:Nat) ≤ s.heap.objs.size by omega) q1,q2⟩
 ·have nd:=g.2.2
  simp only [List.toList_toArray] at nd
  exact (List.pairwise_map.mp nd).imp fun h e=>h (by rw [e])
 ·obtain ⟨a',x,y,e',q1,q2,q3,q4,q5⟩:=g.2.1 j (.ref a) (by simp [e])
  cases e'
  exact ⟨x,y,q3,q4,q5⟩
end
noncomputable def F4 (H:Hp):List (Addr × List V) → Hp
 | []=>H
 | (a,p) :: r=>upd (F4 H r) a (.tup p)
section
variable {H:Hp}
theorem a0c:∀ {ps:List (Addr × List V)} {b:Addr},(∀ q ∈ ps,q.1 ≠ b) → F4 H ps b = H b
 | [],b,h=>rfl
 | (a,p) :: r,b,h=>by
  show upd (F4 H r) a (.tup p) b = H b
  rw [m9 (Ne.symm (h _ (.head _)))]
  exact a0c fun q hq=>h q (.tail _ hq)
theorem a8j:∀ {ps:List (Addr × List V)} {b:Addr} {u:HO},F4 H ps b = some u → (∃ p,(b,p) ∈ ps ∧ u = .tup p) ∨ H b = some u
 | [],b,u,h=>.inr h
 | (a,p) :: r,b,u,h=>by
  replace h:upd (F4 H r) a (.tup p) b = some u:=h
  by_cases hb:b = a
  ·subst hb; rw [u8] at h; cases h; exact .inl ⟨p,.head _,rfl⟩
  ·rw [m9 hb] at h
   rcases a8j h with ⟨p',q,e⟩ | e
   ·exact .inl ⟨p',.tail _ q,e⟩
   ·exact .inr e
theorem a6y:∀ {ps:List (Addr × List V)} {b:Addr} {p:List V},(ps.map (·.1)).Nodup → (b,p) ∈ ps → F4 H ps b = some (.tup p)
 | (a,p') :: r,b,p,nd,h=>by
  show upd (F4 H r) a (.tup p') b = _
  rcases List.mem_cons.mp h with e | h
  ·cases e; exact u8
  ·have nd':=List.nodup_cons.mp nd
   have hb:b ≠ a:=fun e=>nd'.1 (e ▸ List.mem_map.mpr ⟨(b,p),h,rfl⟩)
   rw [m9 hb]
   exact a6y nd'.2 h
end
theorem b2t {fs ex:List Addr} {H H':Hp} {h h':Heap} (k:∀ b u,h.get? b = some u → h'.get? b = some u) (hn:∀ b,b < h.objs.size → H' b = H b) (hs:∀ b u,H b = some u → H' b = some u):Un fs ex H H' h h' where
 keep:=fun b u q _ _ _=>k b u q
 slot:=fun b u q _ _ _=>⟨u.slots,k b u q⟩
 free:=fun b u q n _=>by rw [hn b (Heap.lt_size q)]; exact n
 there:=fun b u q _=>⟨u,k b u q⟩
 tups:=fun b xs q=>hs b _ q
 frzs:=fun b u xs q=>hs b _ q
 tbls:=fun b ps q=>⟨#[],by rw [hs b _ q]; simp⟩
noncomputable def prs (xs ys:List V):List (List V):=List.zipWith (fun x y=>[x,y]) xs ys
theorem b5C {xs ys:List V} {j:Nat} {p:List V} (e:(prs xs ys)[j]? = some p):∃ x y,xs[j]? = some x ∧ ys[j]? = some y ∧ p = [x,y]:=by
 unfold prs at e
 rw [List.getElem?_zipWith] at e
 cases hx:xs[j]? with
 | none=>rw [hx] at e; simp at e
 | some x=>
  cases hy:ys[j]? with
  | none=>rw [hx,hy] at e; simp at e
  | some y=>rw [hx,hy] at e; simp at e; exact ⟨x,y,rfl,rfl,e.symm⟩
noncomputable def Sq (K:PySem.W.Frag) (H:Hp) (a:Addr) (xs:List V):Prop:=SqL K H a xs ∨ SqT K H a xs
noncomputable def rLZ (K:PySem.W.Frag):List V → Hp → VK → Prop:=fun vs H Q=>∃ p q xs ys,vs = [.ref p,.ref q] ∧ Sq K H p xs ∧ Sq K H q ys ∧
 ∀ S as,(S :: as).Nodup → (∀ a ∈ S :: as,H a = none) → as.length = (prs xs ys).length → Q (.ref S) (upd (F4 H (as.zip (prs xs ys))) S (.lst (as.map V.ref)))
section
variable {X:Cx} {pins:List (Addr × Obj)} {σ:St} {H:Hp} {s:Shared}
theorem a6e (I:Inv X pins σ H s) {p:Addr} {xs:List V} (h:Sq X.K H p xs):∃ (t:Bool) (its:List Value),Vals xs its ∧ RwB t s.heap p its.toArray ∧ xs.length ≤ sizeLine:=by
 rcases h with h | h
 ·obtain ⟨its,r,⟨o,n,e,c,_,d⟩,z⟩:=I.list h
  exact ⟨false,its,r,⟨o,e,c,n,d⟩,z⟩
 ·obtain ⟨its,r,⟨o,e,c,n,d⟩,z⟩:=I.tuple h
  exact ⟨true,its,r,⟨o,e,c,n,d⟩,z⟩
theorem a5m {as:List Addr} {ps:List (List V)} (h:as.length = ps.length):(as.zip ps).map (·.1) = as:=by
 rw [List.map_fst_zip (by omega)]
theorem Inv.lz {xs ys:List V} {it jt:List Value} {S:Addr} {h':Heap} {as:List Addr} {c:Nat} (I:Inv X pins σ H s) (rx:Vals xs it) (ry:Vals ys jt) (zx:xs.length ≤ sizeLine) (Z:LZ s.heap h' S it.toArray jt.toArray as c) :
  (S :: as).Nodup ∧ (∀ a ∈ S :: as,H a = none) ∧ as.length = (prs xs ys).length ∧ Inv X pins σ (upd (F4 H (as.zip (prs xs ys))) S (.lst (as.map V.ref))) { s with heap:=h' }:=by
 have hl:as.length = (prs xs ys).length:=by
  have e:=Z.len
  simp only [List.size_toArray] at e
  rw [e,prs,List.length_zipWith,rx.length,ry.length]
 have fr:∀ a ∈ S :: as,s.heap.objs.size ≤ a:=fun a ha=>by
  rcases List.mem_cons.mp ha with e | e
  ·rw [e]; exact Z.low
  ·exact (Z.new a e).1
 have nn:∀ a ∈ S :: as,H a = none:=fun a ha=>I.hok.fresh (fr a ha)
 have nd:(S :: as).Nodup:=List.nodup_cons.mpr ⟨fun h=>(Z.new S h).2 rfl,Z.nd⟩
 have ky:=a5m hl
 have ndz:((as.zip (prs xs ys)).map (·.1)).Nodup:=by rw [ky]; exact Z.nd
 have kin:∀ q ∈ as.zip (prs xs ys),q.1 ∈ as:=fun q hq=>(List.of_mem_zip hq).1
 refine ⟨nd,nn,hl,?_⟩
 have hs:∀ b u,H b = some u → upd (F4 H (as.zip (prs xs ys))) S (.lst (as.map V.ref)) b = some u:=fun b u e=>by
  have n:∀ a ∈ S :: as,a ≠ b:=fun a ha z=>by rw [z] at ha; rw [nn b ha] at e; cases e
  rw [m9 (Ne.symm (n S (.head _))),a0c fun q hq=>n _ (.tail _ (kin q hq))]
  exact e
 refine I.un (t':=s.toks) (b2t Z.keep (fun b hb=>?_) hs) fun b u e=>?_
 ·have n:∀ a ∈ S :: as,a ≠ b:=fun a ha z=>absurd (Nat.lt_of_lt_of_le hb (z ▸ fr a ha)) (Nat.lt_irrefl _)
  rw [m9 (Ne.symm (n S (.head _))),a0c fun q hq=>n _ (.tail _ (kin q hq))]
 ·by_cases hb:b = S
  ·subst hb
   rw [u8] at e; cases e
   refine ⟨?_,as.map Value.ref,c,?_,Z.lst⟩
   ·rw [List.length_map,hl,prs,List.length_zipWith]
    exact Nat.le_trans (Nat.min_le_left ..) zx
   ·have:∀ l:List Addr,Vals (l.map V.ref) (l.map Value.ref):=fun l=>by
     induction l with
     | nil=>exact .nil
     | cons a r ih=>exact .cons rfl ih
    exact this as
  ·rw [m9 hb] at e
   rcases a8j e with ⟨p,hp,rfl⟩ | e0
   ·obtain ⟨j,hj⟩:=List.mem_iff_getElem?.mp hp
    obtain ⟨ha,hpj⟩:=List.getElem?_zip_eq_some.mp hj
    obtain ⟨x,y,ex,ey,rfl⟩:=b5C hpj
    obtain ⟨x',y',ex',ey',q⟩:=Z.at' j b ha
    obtain ⟨u1,f1,g1⟩:=rx.get ex
    obtain ⟨u2,f2,g2⟩:=ry.get ey
    have e1:u1 = x':=by simpa [f1] using ex'
    have e2:u2 = y':=by simpa [f2] using ey'
    subst e1; subst e2
    exact ⟨show 2 ≤ sizeLine by decide,[u1,u2],.cons g1 (.cons g2 .nil),⟨_,q,rfl,_,rfl⟩⟩
   ·exact (I.hok b u e0).stay (fun c v _ q=>Z.keep c v q) (fun c q=>hs c _ q) fun c xs q=>hs c _ q
end
section
variable {X:Cx} {p p' pos pos':Pos} {e:Expr} {es:List Expr} {t:TA}
theorem b0y (hc:X.calm = true) (hgl:Gl X "list") (hml:X.mg "list" = none) (hgz:Gl X "zip") (hmz:X.mg "zip" = none) (ha:PA X (e :: es) t)
  (he:starEach (e :: es) X.env = (false,eval e X.env) :: starEach es X.env:=by rfl) (hpl:(backTo pos' (starEach es X.env)).any (·.1) = false:=by rfl)
  (he2:starEach [.Call (.Name "zip" p') (e :: es) [] pos'] X.env = [(false,eval (.Call (.Name "zip" p') (e :: es) [] pos') X.env)]:=by rfl) :
  PE X (.Call (.Name "list" p) [.Call (.Name "zip" p') (e :: es) [] pos'] [] pos) (tCB (rLZ X.K) t):=by
 intro pins s σ H Q I h
 refine wpAny_Call_Name_kw (P9 I hgl hml (show bootBuiltins ("list" : Str) = some (.type "list") by decide +kernel) ?_ (by decide) (by decide))
 refine PyProof.Rows.callWith_type1 ?_ he2 rfl
 rw [he2]
 show wpAny _ _ (spliced [(false,eval (.Call (.Name "zip" p') (e :: es) [] pos') X.env)]) _ _ s
 refine Calls.spliced_cons ?_
 refine wpAny_Call_Name_kw (P9 I hgz hmz (show bootBuiltins ("zip" : Str) = some (.type "zip") by decide +kernel) ?_ (by decide) (by decide))
 refine PyProof.Rows.callWith_type1 (thn (ha pos' pins s σ H _ I h) fun us s1 ⟨vs,H1,I1,r1,q1⟩=>?_) he hpl
 obtain ⟨a,b,xs,ys,rfl,qa,qb,k⟩:=q1
 obtain ⟨u1,u2,rfl,e1,e2⟩:∃ u1 u2,us = [u1,u2] ∧ u1 = Value.ref a ∧ u2 = Value.ref b:=by
  cases r1 with
  | cons h1 r1=>
   cases r1 with
   | cons h2 r1=>cases r1; exact ⟨_,_,rfl,h1,h2⟩
 subst e1; subst e2
 obtain ⟨ta,it,rx,wa,za⟩:=a6e I1 qa
 obtain ⟨tb,jt,ry,wb,zb⟩:=a6e I1 qb
 refine a8u wa wb fun h1 Z1 k1 _=>?_
 refine Calls.spliced_nil ?_
 refine b3h (h₀:=s1.heap) (I.ok.hd hc) Z1 k1 rfl (by simpa [← rx.length] using za) fun S h2 as c Z=>?_
 obtain ⟨nd,nn,hl,I2⟩:=Inv.lz I1 rx ry za Z
 exact ⟨.ref S,_,I2,rfl,k S as nd nn hl⟩
end
noncomputable def E9:D → Option (List D)
 | .tup ds=>some ds
 | .lst ds=>some ds
 | _=>none
noncomputable def G6 (x y:D):D:=.tup [x,y]
noncomputable def P2:List D → Option (List D)
 | [a,b]=>(E9 a).bind fun xs=>(E9 b).map fun ys=>List.zipWith G6 xs ys
 | _=>none
theorem a8c {g:Gh} {K:PySem.W.Frag} {σ:L2.St} {H:Hp} {fa:Option Addr} {O:List Addr} {s:DS} (I:GI K g σ H fa O s):∀ (ps:List (Addr × List V)),(ps.map (·.1)).Nodup → (∀ q ∈ ps,H q.1 = none) → GI K g σ (F4 H ps) fa O s ∧ StE fa O H fa O (F4 H ps)
 | [],_,_=>⟨I,StE.refl⟩
 | (a,p) :: r,nd,h=>by
  have nd':=List.nodup_cons.mp nd
  obtain ⟨I1,s1⟩:=a8c I r nd'.2 fun q hq=>h q (.tail _ hq)
  have hn:F4 H r a = none:=by
   rw [a0c fun q hq z=>nd'.1 (List.mem_map.mpr ⟨q,hq,z⟩)]
   exact h _ (.head _)
  exact ⟨I1.new hn,s1.trans (A3 hn)⟩
theorem a57 {K:PySem.W.Frag} {N:Addr → Prop} {fa:Option Addr} {H:Hp}:∀ {ds es:List D} {xs ys:List V} {as:List Addr},Reps K N fa H ds xs → Reps K N fa H es ys → as.length = (prs xs ys).length → (∀ q ∈ as.zip (prs xs ys),H q.1 = some (.tup q.2)) →
  Reps K N fa H (List.zipWith G6 ds es) (as.map V.ref)
 | [],es,xs,ys,as,h,q,l,k=>by
  simp only [Reps] at h; subst h
  simp only [prs,List.zipWith_nil_left,List.length_nil] at l
  rw [List.eq_nil_of_length_eq_zero l]
  simp only [List.zipWith_nil_left,List.map_nil,Reps]
 | d :: r,[],xs,ys,as,h,q,l,k=>by
  simp only [Reps] at q; subst q
  simp only [prs,List.zipWith_nil_right,List.length_nil] at l
  rw [List.eq_nil_of_length_eq_zero l]
  simp only [List.zipWith_nil_right,List.map_nil,Reps]
 | d :: r,e :: f,xs,ys,as,h,q,l,k=>by
  simp only [Reps] at h q
  obtain ⟨x,xs',rfl,h1,h2⟩:=h
  obtain ⟨y,ys',rfl,q1,q2⟩:=q
  cases as with
  | nil=>simp [prs] at l
  | cons a as=>
   have hz:(a :: as).zip (prs (x :: xs') (y :: ys')) = (a,[x,y]) :: as.zip (prs xs' ys'):=rfl
   rw [hz] at k
   simp only [List.zipWith_cons_cons,List.map_cons,Reps]
   refine ⟨_,_,rfl,?_,a57 h2 q2 (by simpa [prs] using l) fun q hq=>k q (.tail _ hq)⟩
   simp only [G6,Rep,Reps]
   exact ⟨a,[x,y],rfl,SqT.of (k _ (.head _)),x,[y],rfl,h1,y,[],rfl,q1,rfl⟩
theorem a4Q {K:PySem.W.Frag} {N:Addr → Prop} {fa:Option Addr} {H:Hp} {d:D} {v:V} {ds:List D} (r:RepB K N fa H d v) (e:E9 d = some ds):∃ a xs,v = .ref a ∧ Sq K H a xs ∧ Reps K N fa H ds xs:=by
 cases d with
 | tup es=>
  cases e
  simp only [RepB,Rep] at r
  obtain ⟨a,ys,rfl,q,w⟩:=r
  exact ⟨a,ys,rfl,.inr q,w⟩
 | lst es=>
  cases e
  obtain ⟨a,ys,rfl,_,q,w⟩:=r
  exact ⟨a,ys,rfl,.inl (SqL.of q),w⟩
 | _=>cases e
theorem b1L {K:PySem.W.Frag}:RCF K (rLZ K) P2:=by
 intro g σ H fa O s xs ds es Q I rs e k
 match ds,e with
 | [d1,d2],e=>
  refine J6 (show (E9 d1).bind (fun xs=>(E9 d2).map fun ys=>List.zipWith G6 xs ys) = some es from e) fun xs1 e1 e=>?_
  refine E7 e fun ys1 e2 e=>?_
  subst e
  simp only [O5] at rs
  obtain ⟨x,zs,rfl,r1,y,zs',rfl,r2,rfl⟩:=rs
  obtain ⟨a,vs,rfl,q1,w1⟩:=a4Q r1 e1
  obtain ⟨b,us,rfl,q2,w2⟩:=a4Q r2 e2
  refine ⟨a,b,vs,us,rfl,q1,q2,fun S as nd nn hl=>?_⟩
  have nd':=List.nodup_cons.mp nd
  have ky:=a5m hl
  have kin:∀ q ∈ as.zip (prs vs us),q.1 ∈ as:=fun q hq=>(List.of_mem_zip hq).1
  have ndz:((as.zip (prs vs us)).map (·.1)).Nodup:=by rw [ky]; exact nd'.2
  obtain ⟨I1,s1⟩:=a8c I (as.zip (prs vs us)) ndz fun q hq=>nn _ (.tail _ (kin q hq))
  have hS:F4 H (as.zip (prs vs us)) S = none:=by
   rw [a0c fun q hq (z:q.1 = S)=>nd'.1 (by rw [← z]; exact kin q hq)]
   exact nn S (.head _)
  have rp:=a57 (Reps.stp I s1.stp w1) (Reps.stp I s1.stp w2) hl fun q hq=>a6y (b:=q.1) (p:=q.2) ndz hq
  exact k S (as.map V.ref) _ (s1.trans (A3 hS)) (R5 I1 hS rp) (nn S (.head _))
section
variable {X:Cx} {g:Gh} {p p' pos pos':Pos} {e:Expr} {es:List Expr} {t:DA}
theorem a5e (hc:X.calm = true) (hgl:Gl X "list") (hml:X.mg "list" = none) (hgz:Gl X "zip") (hmz:X.mg "zip" = none) (ha:BAO X g (e :: es) t)
  (he:starEach (e :: es) X.env = (false,eval e X.env) :: starEach es X.env:=by rfl) (hpl:(backTo pos' (starEach es X.env)).any (·.1) = false:=by rfl)
  (he2:starEach [.Call (.Name "zip" p') (e :: es) [] pos'] X.env = [(false,eval (.Call (.Name "zip" p') (e :: es) [] pos') X.env)]:=by rfl) :
  FO X g (.Call (.Name "list" p) [.Call (.Name "zip" p') (e :: es) [] pos'] [] pos) (dCF P2 t):=
 FO.w (b0y hc hgl hml hgz hmz ha.pe he hpl he2) (a80 b1L)
end
section
variable {X:Cx} {g:Gh} {scope:Scope} {cl:List (Str × Addr)} {idx:List Nat} {iter elt:Expr} {ifs:List Expr} {pos:Pos} {fi:DA} {fc:DT} {fe:DE} {x y:Str} {px py pp:Pos} {kt:Nat} {caps:List Str}
theorem b0P (hc:X.calm = true) (k:CompOk X scope cl (x :: y :: caps) 2 idx) (hi:IO X g (.Tuple [.Name x px,.Name y py] kt pp) iter fi) (nd:(x :: y :: caps).Nodup)
  (hx:∀ C s0 H0 ex,(blk X (x :: y :: caps) scope cl C s0 H0 ex).env.scope.names.lookup x = some .local) (hy:∀ C s0 H0 ex,(blk X (x :: y :: caps) scope cl C s0 H0 ex).env.scope.names.lookup y = some .local)
  (ht:∀ C s0 H0 ex g',U2 (blk X (x :: y :: caps) scope cl C s0 H0 ex) g' ifs fc) (he:∀ C s0 H0 ex g',EO (blk X (x :: y :: caps) scope cl C s0 H0 ex) g' elt fe) (hs:∀ x,foldedSetIterable iter X.env x = pure x:=by intro _; rfl) :
  FO X g (.ListComp elt [⟨.Tuple [.Name x px,.Name y py] kt pp,iter,ifs,0⟩] scope pos) (L8 idx fi fc fe):=
 b29 (G:=a4e X.K 2 (X2 (K7 0) (X2 (K7 1) a3R))) hc k hi (fun C s0 H0 ex=>a3S (X:=blk X (x :: y :: caps) scope cl C s0 H0 ex) (n:=2) hc (a0h (X:=blk X (x :: y :: caps) scope cl C s0 H0 ex) (F8 (X:=blk X (x :: y :: caps) scope cl C s0 H0 ex) (i:=0) nd rfl (Or.inl (hx C s0 H0 ex)) (Or.inr (hx C s0 H0 ex))) (a0h (X:=blk X (x :: y :: caps) scope cl C s0 H0 ex) (F8 (X:=blk X (x :: y :: caps) scope cl C s0 H0 ex) (i:=1) nd rfl (Or.inl (hy C s0 H0 ex)) (Or.inr (hy C s0 H0 ex))) a3e)))
  (fun a x y σ H Q h q=>⟨a,[x,y],rfl,h,rfl,x,[y],rfl,y,[],rfl,rfl,q⟩) ht he hs
end
noncomputable def PC (X:Cx) (e:Expr) (te:TE):Prop:=∀ (i:Nat) (y:Str) (py spos:Pos),X.N.Nodup → X.N[i]? = some y → Loc X.env.scope y → swapsWith e (some (.Name y py)) spos.line X.env = pure true → (X.fn y = true ∨ X.env.scope.names.lookup y = some .local) → PS X (.Assign [.Name y py] e spos) (a0g te (K7 i))
structure CO (X:Cx) (g:Gh) (e:Expr) (f:DA):Prop where
 pe:PC X e (liftF X.K g f)
theorem CO.w {X:Cx} {g:Gh} {e:Expr} {f:DA} {t:TE} (h:PC X e t) (w:∀ σ H Q,liftF X.K g f σ H Q → t σ H Q):CO X g e f:=
 ⟨fun i y py spos h1 h2 h3 h4 h5 pins s σ H D I q=>h i y py spos h1 h2 h3 h4 h5 pins s σ H D I (w σ H _ q)⟩
section
variable {X:Cx} {g:Gh} {scope:Scope} {cl:List (Str × Addr)} {N':List Str} {idx:List Nat} {iter elt tg:Expr} {ifs:List Expr} {pos:Pos} {fi:DA} {fc:DT} {fe:DE}
theorem b4L {G:TG} (hc:X.calm = true) (k:CompOk X scope cl N' 2 idx) (hi:IO X g tg iter fi) (hg:∀ C s0 H0 ex,PG (blk X N' scope cl C s0 H0 ex) tg G)
  (hG:∀ (a:Addr) (x y:V) (σ:L2.St) (H:Hp) (Q:L2.St → Hp → Prop),SqT X.K H a [x,y] → Q ((σ.set 0 (some x)).set 1 (some y)) H → G (.ref a) σ H Q)
  (ht:∀ C s0 H0 ex g',U2 (blk X N' scope cl C s0 H0 ex) g' ifs fc) (he:∀ C s0 H0 ex g',EO (blk X N' scope cl C s0 H0 ex) g' elt fe) (hs:∀ x,foldedSetIterable iter X.env x = pure x:=by intro _; rfl) :
  CO X g (.ListComp elt [⟨tg,iter,ifs,0⟩] scope pos) (L8 idx fi fc fe):=
 CO.w (fun i y py spos h1 h2 h3 h4 h5=>b5s (tc:=fun σ H Q=>∃ g',liftT X.K g' fc σ H Q) (te:=fun σ H Q=>∃ g',liftE X.K g' fe σ H Q) h1 h2 h3 hc k hi.pe hg (fun C s0 H0 ex pins s σ H Q I ⟨g',h⟩=>ht C s0 H0 ex g' pins s σ H Q I h) (fun C s0 H0 ex pins s σ H Q I ⟨g',h⟩=>(he C s0 H0 ex g').pe pins s σ H Q I h) hs h4 h5) (a8B k hG)
theorem b1r {e:Expr} {i:Nat} {x:Str} {f:DA} {pos':Pos} (hN:X.N.Nodup) (hi:X.N[i]? = some x) (hx:Loc X.env.scope x) (he:CO X g e f) (hs:swapsWith e (some (.Name x pos')) pos.line X.env = pure true:=by rfl) (hf:X.fn x = true ∨ X.env.scope.names.lookup x = some .local:=by first | exact .inl rfl | exact .inr rfl | assumption) :
  SO X g (.Assign [.Name x pos'] e pos) (F5 i f):=SO.w (he.pe i x pos' pos hN hi hx hs hf) fun E σ H hQ=>by
 refine hQ.elim fun fa O s fl s' I q k=>?_
 refine t9 q fun ds s1 h1 h2=>?_
 by_cases hl:i < s1.sl.length
 ·simp only [] at h2
  rw [if_pos hl] at h2
  cases h2
  refine ⟨fa,O,s,ds,s1,I,h1,fun p xs H1 f1 O1 a1 L hp=>?_⟩
  have np:p ∉ O1:=fun z=>by
   obtain ⟨ys,e⟩:=I.owned (a1.sub p z)
   rw [hp] at e; cases e
  obtain ⟨P,sub,I'⟩:=L.put i hl (I.st.mon p hp) np
  refine k _ H1 f1 P ⟨fun b hb=>?_,a1.fe,fun b u e _ n=>a1.same b u e n,a1.mon⟩ I'
  rcases sub b hb with y | y
  ·exact .inr (by rw [y]; exact hp)
  ·exact .inl (a1.sub b y)
 ·simp only [] at h2
  rw [if_neg hl] at h2; cases h2
end
section
variable {X:Cx} {g:Gh} {scope:Scope} {cl:List (Str × Addr)} {idx:List Nat} {iter elt:Expr} {ifs:List Expr} {pos:Pos} {fi:DA} {fc:DT} {fe:DE} {x y:Str} {px py pp:Pos} {kt:Nat} {caps:List Str}
theorem b0j (hc:X.calm = true) (k:CompOk X scope cl (x :: y :: caps) 2 idx) (hi:IO X g (.Tuple [.Name x px,.Name y py] kt pp) iter fi) (nd:(x :: y :: caps).Nodup)
  (hx:∀ C s0 H0 ex,(blk X (x :: y :: caps) scope cl C s0 H0 ex).env.scope.names.lookup x = some .local) (hy:∀ C s0 H0 ex,(blk X (x :: y :: caps) scope cl C s0 H0 ex).env.scope.names.lookup y = some .local)
  (ht:∀ C s0 H0 ex g',U2 (blk X (x :: y :: caps) scope cl C s0 H0 ex) g' ifs fc) (he:∀ C s0 H0 ex g',EO (blk X (x :: y :: caps) scope cl C s0 H0 ex) g' elt fe) (hs:∀ x,foldedSetIterable iter X.env x = pure x:=by intro _; rfl) :
  CO X g (.ListComp elt [⟨.Tuple [.Name x px,.Name y py] kt pp,iter,ifs,0⟩] scope pos) (L8 idx fi fc fe):=
 b4L (G:=a4e X.K 2 (X2 (K7 0) (X2 (K7 1) a3R))) hc k hi (fun C s0 H0 ex=>a3S (X:=blk X (x :: y :: caps) scope cl C s0 H0 ex) (n:=2) hc (a0h (X:=blk X (x :: y :: caps) scope cl C s0 H0 ex) (F8 (X:=blk X (x :: y :: caps) scope cl C s0 H0 ex) (i:=0) nd rfl (Or.inl (hx C s0 H0 ex)) (Or.inr (hx C s0 H0 ex))) (a0h (X:=blk X (x :: y :: caps) scope cl C s0 H0 ex) (F8 (X:=blk X (x :: y :: caps) scope cl C s0 H0 ex) (i:=1) nd rfl (Or.inl (hy C s0 H0 ex)) (Or.inr (hy C s0 H0 ex))) a3e)))
  (fun a x y σ H Q h q=>⟨a,[x,y],rfl,h,rfl,x,[y],rfl,y,[],rfl,rfl,q⟩) ht he hs
end
theorem a3z:∀ ns:List Int,D.plains (ns.map .int) = true
 | []=>rfl
 | n :: r=>by simp only [List.map_cons,D.plains,D.plain,a3z r,Bool.and_self]
theorem a40:∀ ns:List Int,PyData.canLayAll0 (D.pys (ns.map .int)) = true
 | []=>rfl
 | n :: r=>by simp only [List.map_cons,D.pys,D.py,PyData.canLayAll0,PyData.canLay0,a40 r,Bool.and_self]
theorem a5I:∀ ns:List Int,PyData.depthAll (D.pys (ns.map .int)) = 0
 | []=>rfl
 | n :: r=>by simp only [List.map_cons,D.pys,D.py,PyData.depthAll,PyData.depth,a5I r,Nat.max_self]
theorem a8s (ns:List Int):t6 (.lst (ns.map .int)) = true:=by
 simp [t6,D.plain,a3z,D.py,SeqAt.shaped,PyData.canLay0,a40,PyData.depth,a5I]
theorem a92 (ns:List Int):PyData.eqv (D.py (.lst (ns.map .int))) (D.py (.lst [])) = decide (ns = []):=by
 cases ns with
 | nil=>rfl
 | cons n r=>simp [D.py,D.pys,PyData.eqv,PyData.eqvAll]
section
variable {X:Cx} {g:Gh}
theorem b1U (hu:X.A.units + 64 < cLine):OpR X (compareOp .Eq) (fun x y H Q=>∃ a ns b,x = .ref a ∧ y = .ref b ∧ SqL X.K H a ((ns:List Int).map V.int) ∧ H b = some (.lst []) ∧ Q (.bl (decide (ns = []))) H):=by
 intro pins s σ H x y v u Q I rx ry h
 obtain ⟨a,ns,b,rfl,rfl,sq,hb,q⟩:=h
 cases rx
 have o1:=a8s ns
 have o2:t6 (.lst []) = true:=a8s []
 unfold t6 at o1 o2
 rw [Bool.and_eq_true] at o1 o2
 obtain ⟨its,rv,⟨o,n,h1,h2,h3,h4⟩,_⟩:=I.list sq
 obtain ⟨as,ra⟩:=a07 (N:=fun _=>False) (fa:=none) I (ns.map .int) (ns.map V.int) its Reps.ints rv (a3z ns)
 have r1:∃ as,Reads s.heap (.ref a) (D.py (.lst (ns.map .int))) as:=by
  simp only [D.py]
  exact ⟨_,.list h1 h2 h4 (by simpa using ra)⟩
 obtain ⟨as1,r1⟩:=r1
 obtain ⟨bs,r2⟩:=K9 I (.lst []) (.ref b) u (show K8 X.K (fun _=>False) none H (.lst []) (.ref b) from ⟨b,[],rfl,hb,Reps.nil⟩) ry rfl
 rw [← a92] at q
 exact PyProof.Rows.eq_dataH r1 r2 o1.2 o2.2 hu ⟨.bl _,H,I,rfl,q⟩
theorem SqF.new {K:PySem.W.Frag} {H:Hp} {a p:Addr} {xs:List V} {o:HO} (h:SqF K H a xs) (hp:H p = none):SqF K (upd H p o) a xs:=by
 rcases h with ⟨o',h⟩ | h
 ·exact .inl ⟨o',by rw [m9 (J2 h hp)]; exact h⟩
 ·exact .inr h
theorem a9v {K:PySem.W.Frag} {σ:L2.St} {H:Hp} {O:List Addr} {s:DS} (I:GI K g σ H none O s) (hf:s.fs = none) (f:FS) (hk:f.kind ≠ 0) (l63:f.cells.length ≤ 63) {c p:Addr} (hcH:H c = none) (hp':upd H c (.lst (f.cells.map V.int)) p = none) :
  StE none O H (some p) O (upd (upd H c (.lst (f.cells.map V.int))) p (.lst (B9 c f))) ∧ GI K g σ (upd (upd H c (.lst (f.cells.map V.int))) p (.lst (B9 c f))) (some p) O { s with fs:=some f }:=by
 have npc:c ≠ p:=fun z=>by rw [← z,u8] at hp'; cases hp'
 have hp:H p = none:=by rw [m9 (Ne.symm npc)] at hp'; exact hp'
 have fresh:∀ b u,H b = some u → b ≠ p ∧ b ≠ c:=fun b u e=>⟨J2 e hp,J2 e hcH⟩
 have a2:StE none O H (some p) O (upd (upd H c (.lst (f.cells.map V.int))) p (.lst (B9 c f))):=by
  refine ⟨fun _ h=>h,.inr ⟨rfl,fun b z=>by cases z; exact hp⟩,fun b u e _=>?_,fun b z=>?_⟩
  ·obtain ⟨n1,n2⟩:=fresh b u e
   rw [m9 n1,m9 n2]; exact e
  ·by_cases h1:b = p
   ·subst h1; exact hp
   ·by_cases h2:b = c
    ·subst h2; exact hcH
    ·rw [m9 h1,m9 h2] at z; exact z
 have cr:=I.car a2.stp
 refine ⟨a2,⟨I.nd,SlR.go cr (fun b xs hb e=>a2.same b _ e (by simp)) I.sl,I.fr,I.st.trans ⟨fun b hb=>(by cases hb),a2.fe,fun b u e _ n=>a2.same b u e n,a2.mon⟩,I.tr,I.ff,?_,I.nf_step a2.fe⟩⟩
 refine ⟨l63,c,by rw [a1E hk,u8],?_,?_⟩
 ·rintro (z | z | z)
  ·exact I.trF z hcH
  ·obtain ⟨xs,e⟩:=I.owned z
   rw [hcH] at e; cases e
  ·exact npc (Option.some.inj z).symm
 ·rw [m9 npc,u8]
noncomputable def E8 (ns:List Int):List Int:=ns ++ (List.replicate (if ns = [] then 1 else 0) [0]).flatten
noncomputable def a04 (i:Nat):DE:=fun s=>match s.sl[i]?,s.fs with
 | some (.val (.scr ns)),none=>if (E8 ns).length ≤ 63 then some (.feed,{ s with fs:=some ⟨E8 ns,0,0,0,2⟩ }) else none
 | _,_=>none
theorem b2B {i:Nat} {x xl xi:Str} {p1 p1' pl pi pos q1 q2 q3 q4 q5 q6 q7 q8 q9 q10 q11 q12 q13 q14:Pos} {j63 j0 j1 j2 j3:Nat} (hu:X.A.units + 64 < cLine) (hv:PE X (.Name x p1) (N5 i)) (hv':PE X (.Name x p1') (N5 i))
  (hgl:Gl X xl) (hml:X.mg xl = none) (hbl:bootBuiltins xl = some (.type "list")) (hgi:Gl X xi) (hmi:X.mg xi = none) (hbi:bootBuiltins xi = some (.type "int"))
  (hnl:xl ≠ "__name__" := by decide) (hdl:(xl == ("__debug__" : Str)) = false:=by decide) (hni:xi ≠ "__name__" := by decide) (hdi:(xi == ("__debug__" : Str)) = false:=by decide) :
  EO X g (.List [.BinOp (.Call (.Name xl pl) [.Subscript (.Name x p1) (.Slice none (some (.Constant (.int 63) j63 q1)) none q2) q3] [] q4) .Add (.BinOp (.List [.Constant (.int 0) j0 q5] q6) .Mult (.Call (.Name xi pi) [.Compare (.Name x p1') [.Eq] [.List [] q7] q8] [] q9) q10) q11,.Constant (.int 0) j1 q12,.Constant (.int 0) j2 q13,.Constant (.int 0) j3 q14] pos) (a04 i):=
 EO.w (a0P (G9 (a1B a1Q (a1C a7h hgl hml hbl (G9 (a6W a6p hv a6v (a6F P6)) N9) hnl hdl) (a1B a7Z (a0P (G9 P6 N9)) (a1C b6n hgi hmi hbi (G9 (a7B (b1U hu) hv' (a0P N9) (U5 _)) N9) hni hdi))) (G9 P6 (G9 P6 (G9 P6 N9))))) fun σ H Q hQ=>by
  refine hQ.elim fun fa O s d s' I e k=>?_
  unfold a04 at e
  cases q:s.sl[i]? with
  | none=>rw [q] at e; cases e
  | some z=>
   rw [q] at e
   cases z with
   | no=>cases e
   | own _=>cases e
   | val dz=>
    cases dz with
    | scr ns=>
     cases hf:s.fs with
     | some f=>rw [hf] at e; cases e
     | none=>
      rw [hf] at e
      simp only [] at e
      split at e
      case isFalse=>cases e
      rename_i l4
      cases e
      obtain ⟨u,e1,r⟩:=SlR.val I.sl q
      simp only [Rep] at r
      obtain ⟨l63,a,rfl,sq⟩:=r
      have fd:=I.fd
      rw [hf] at fd
      have fan:fa = none:=by cases fa with | none=>rfl | some _=>exact fd.elim
      subst fan
      refine ⟨_,e1,63,rfl,a,_,rfl,sq.sq,fun c1 h1=>?_⟩
      rw [b3j _ (by rw [List.length_map]; exact l63)]
      have I1:=I.new (o:=.lst (ns.map V.int)) h1
      have sq1:=sq.new (o:=.lst (ns.map V.int)) h1
      refine ⟨c1,_,rfl,.inl (SqL.of u8),fun c2 h2=>?_⟩
      have I2:=I1.new (o:=.lst (ns.map V.int)) h2
      have sq2:=sq1.new (o:=.lst (ns.map V.int)) h2
      refine ⟨by show 1 ≤ sizeLine; decide,fun c3 h3=>?_⟩
      have I3:=I2.new (o:=.lst [V.int 0]) h3
      have sq3:=sq2.new (o:=.lst [V.int 0]) h3
      refine ⟨_,e1,by show 0 ≤ sizeLine; decide,fun c4 h4=>?_⟩
      have I4:=I3.new (o:=.lst []) h4
      have sq4:=sq3.new (o:=.lst []) h4
      refine ⟨a,ns,c4,rfl,rfl,sq4.sq,u8,.inr ⟨decide (ns = []),rfl,?_⟩⟩
      have n34:c3 ≠ c4:=fun z=>by rw [← z,u8] at h4; cases h4
      have n23:c2 ≠ c3:=fun z=>by rw [← z,u8] at h3; cases h3
      have n24:c2 ≠ c4:=fun z=>by rw [← z,m9 n23,u8] at h4; cases h4
      refine ⟨c3,if decide (ns = []) then 1 else 0,[V.int 0],rfl,rfl,by rw [m9 n34,u8],by split <;> decide,by split <;> decide,by split <;> decide,fun c5 h5=>?_⟩
      have I5:=I4.new (o:=.lst (List.replicate (if decide (ns = []) then (1:Int) else 0).toNat [V.int 0]).flatten) h5
      have n25:c2 ≠ c5:=fun z=>by rw [← z,m9 n24,m9 n23,u8] at h5; cases h5
      have ecells:ns.map V.int ++ (List.replicate (if decide (ns = []) then (1:Int) else 0).toNat [V.int 0]).flatten = (E8 ns).map V.int:=by
       unfold E8
       cases ns with
       | nil=>rfl
       | cons n r=>simp
      have l4':((E8 ns).map V.int).length ≤ sizeLine:=by rw [List.length_map]; exact Nat.le_trans l4 (by decide)
      refine ⟨c2,c5,_,_,rfl,rfl,by rw [m9 n25,m9 n24,m9 n23,u8],u8,by rw [← List.length_append,ecells]; exact l4',fun c6 h6=>?_⟩
      rw [ecells]
      refine ⟨by show 4 ≤ sizeLine; decide,fun p hp=>?_⟩
      obtain ⟨a6,I6⟩:=a9v I5 hf ⟨E8 ns,0,0,0,2⟩ (show (2:Nat) ≠ 0 by decide) l4 h6 hp
      have aa:=(((((A3 (fa:=none) (O:=O) (o:=.lst (ns.map V.int)) h1).trans (A3 h2)).trans (A3 h3)).trans (A3 h4)).trans (A3 h5)).trans a6
      exact k _ _ (some p) O aa I6 (by simp only [Rep]; exact ⟨p,rfl,rfl⟩)
    | _=>cases e
end
end DL
namespace DL
open PySem PySem.Spec L2 PyProof.Rows
noncomputable def K4:List D → Option (List Int)
 | []=>some []
 | .int i :: r=>(K4 r).map fun l=>i :: l
 | _ :: _=>none
noncomputable def J8:List Int → Int
 | []=>0
 | i :: r=>r.foldl max i
noncomputable def K2:List Int → Int
 | []=>0
 | i :: r=>r.foldl min i
noncomputable def a0u:D → Option D
 | .lst ds=>(K4 ds).bind fun is=>if 0 < is.length then some (.int (J8 is)) else none
 | _=>none
noncomputable def a4a:D → Option D
 | .lst ds=>(K4 ds).bind fun is=>if 0 < is.length then some (.int (K2 is)) else none
 | _=>none
theorem a2i:∀ is:List Int,K4 (is.map D.int) = some is
 | []=>rfl
 | i :: r=>by rw [List.map_cons,K4,a2i r]; rfl
theorem a2w:∀ {ds:List D} {is:List Int},K4 ds = some is → ds = is.map D.int
 | [],is,h=>by cases h; rfl
 | .int i :: r,is,h=>by
  rw [K4] at h
  refine E7 h fun l h1 h2=>?_
  rw [← h2,a2w h1]
  rfl
 | .bl _ :: r,is,h=>by cases h
 | .non :: r,is,h=>by cases h
 | .str _ :: r,is,h=>by cases h
 | .tup _ :: r,is,h=>by cases h
 | .lst _ :: r,is,h=>by cases h
 | .feed :: r,is,h=>by cases h
 | .scr _ :: r,is,h=>by cases h
 | .fn _ :: r,is,h=>by cases h
theorem a3Q:∀ (l:List Int) (i:Int),(l.foldl max i = i ∨ l.foldl max i ∈ l) ∧ i ≤ l.foldl max i ∧ ∀ x ∈ l,x ≤ l.foldl max i
 | [],i=>⟨.inl rfl,Int.le_refl _,fun x hx=>by cases hx⟩
 | y :: r,i=>by
  obtain ⟨a,b,c⟩:=a3Q r (max i y)
  rw [List.foldl_cons]
  refine ⟨?_,by omega,fun x hx=>?_⟩
  ·rcases a with a | a
   ·rw [a]
    rcases Int.le_total i y with h | h
    ·exact .inr (by rw [Int.max_eq_right h]; exact List.mem_cons_self ..)
    ·exact .inl (Int.max_eq_left h)
   ·exact .inr (List.mem_cons_of_mem _ a)
  ·rcases List.mem_cons.mp hx with rfl | hx
   ·omega
   ·exact c x hx
theorem a2q:∀ (l:List Int) (i:Int),(l.foldl min i = i ∨ l.foldl min i ∈ l) ∧ l.foldl min i ≤ i ∧ ∀ x ∈ l,l.foldl min i ≤ x
 | [],i=>⟨.inl rfl,Int.le_refl _,fun x hx=>by cases hx⟩
 | y :: r,i=>by
  obtain ⟨a,b,c⟩:=a2q r (min i y)
  rw [List.foldl_cons]
  refine ⟨?_,by omega,fun x hx=>?_⟩
  ·rcases a with a | a
   ·rw [a]
    rcases Int.le_total i y with h | h
    ·exact .inl (Int.min_eq_left h)
    ·exact .inr (by rw [Int.min_eq_right h]; exact List.mem_cons_self ..)
   ·exact .inr (List.mem_cons_of_mem _ a)
  ·rcases List.mem_cons.mp hx with rfl | hx
   ·omega
   ·exact c x hx
theorem b2a {l:List Int} (h:0 < l.length):J8 l ∈ l ∧ ∀ x ∈ l,x ≤ J8 l:=by
 cases l with
 | nil=>cases h
 | cons i r=>
  obtain ⟨a,b,c⟩:=a3Q r i
  refine ⟨?_,fun x hx=>?_⟩
  ·rcases a with a | a
   ·show r.foldl max i ∈ _
    rw [a]; exact List.mem_cons_self ..
   ·exact List.mem_cons_of_mem _ a
  ·rcases List.mem_cons.mp hx with rfl | hx
   ·exact b
   ·exact c x hx
theorem b4i {l:List Int} (h:0 < l.length):K2 l ∈ l ∧ ∀ x ∈ l,K2 l ≤ x:=by
 cases l with
 | nil=>cases h
 | cons i r=>
  obtain ⟨a,b,c⟩:=a2q r i
  refine ⟨?_,fun x hx=>?_⟩
  ·rcases a with a | a
   ·show r.foldl min i ∈ _
    rw [a]; exact List.mem_cons_self ..
   ·exact List.mem_cons_of_mem _ a
  ·rcases List.mem_cons.mp hx with rfl | hx
   ·exact b
   ·exact c x hx
theorem a2j:∀ {is:List Int} {us:List Value},Vals (is.map V.int) us → ∃ ps:List (Int × Tok),us = (intItems ps.toArray).toList ∧ ps.map (·.1) = is
 | [],_,.nil=>⟨[],by simp [intItems],rfl⟩
 | i :: r,_,.cons q t=>by
  obtain ⟨ps,e1,e2⟩:=a2j t
  obtain ⟨k,e3⟩:=(show ∃ k,_ = Value.int i k from q)
  exact ⟨(i,k) :: ps,by rw [e3,e1]; simp [intItems],by rw [List.map_cons,e2]⟩
theorem a0F {ps:List (Int × Tok)} {is:List Int} (h:ps.map (·.1) = is) {j:Nat} {x:Int} (hj:is[j]? = some x):numAt ps.toArray j = x:=by
 rw [← h,List.getElem?_map] at hj
 unfold numAt
 rw [List.getElem?_toArray,hj]
 rfl
theorem a6n {val:Nat → Int}:∀ k:Nat,argBest (fun i j=>decide (val i > val j)) k ≤ k ∧ ∀ j,j ≤ k → val j ≤ val (argBest (fun i j=>decide (val i > val j)) k)
 | 0=>⟨Nat.le_refl _,fun j hj=>by
  have e:j = 0:=Nat.le_zero.mp hj
  subst e
  exact Int.le_refl _⟩
 | k + 1=>by
  obtain ⟨a,b⟩:=a6n (val:=val) k
  unfold argBest
  by_cases c:val (k + 1) > val (argBest (fun i j=>decide (val i > val j)) k)
  ·rw [if_pos (decide_eq_true c)]
   refine ⟨Nat.le_refl _,fun j hj=>?_⟩
   by_cases e:j = k + 1
   ·subst e; exact Int.le_refl _
   ·have:=b j (by omega); omega
  ·rw [if_neg (by rw [decide_eq_false c]; exact Bool.false_ne_true)]
   refine ⟨by omega,fun j hj=>?_⟩
   by_cases e:j = k + 1
   ·subst e; omega
   ·exact b j (by omega)
theorem a6z {val:Nat → Int}:∀ k:Nat,argBest (fun i j=>decide (val i < val j)) k ≤ k ∧ ∀ j,j ≤ k → val (argBest (fun i j=>decide (val i < val j)) k) ≤ val j
 | 0=>⟨Nat.le_refl _,fun j hj=>by
  have e:j = 0:=Nat.le_zero.mp hj
  subst e
  exact Int.le_refl _⟩
 | k + 1=>by
  obtain ⟨a,b⟩:=a6z (val:=val) k
  unfold argBest
  by_cases c:val (k + 1) < val (argBest (fun i j=>decide (val i < val j)) k)
  ·rw [if_pos (decide_eq_true c)]
   refine ⟨Nat.le_refl _,fun j hj=>?_⟩
   by_cases e:j = k + 1
   ·subst e; exact Int.le_refl _
   ·have:=b j (by omega); omega
  ·rw [if_neg (by rw [decide_eq_false c]; exact Bool.false_ne_true)]
   refine ⟨by omega,fun j hj=>?_⟩
   by_cases e:j = k + 1
   ·subst e; omega
   ·exact b j (by omega)
theorem a8a:bootBuiltins ("max" : Str) = some (.builtin "max"):=by decide +kernel
theorem a5r:bootBuiltins ("min" : Str) = some (.builtin "min"):=by decide +kernel
section
variable {X:Cx} {K:PySem.W.Frag}
noncomputable def Z8 (K:PySem.W.Frag) (f:List Int → Int) (c:List Int → Prop):List V → Hp → VK → Prop:=fun xs H Q=>∃ (a:Addr) (is:List Int),xs = [.ref a] ∧ SqL K H a (is.map V.int) ∧ c is ∧ Q (.int (f is)) H
theorem a5Y (hc:X.calm = true):CallR X (.builtin "max") (Z8 X.K J8 fun is=>0 < is.length):=by
 intro pins s σ H xs us Q I r h
 obtain ⟨a,is,rfl,hq,hne,q⟩:=h
 obtain ⟨u,rfl,ru⟩:=K5 r
 cases ru
 obtain ⟨its,rv,p,_⟩:=I.list hq
 obtain ⟨ps,e,hp⟩:=a2j rv
 have hl:s.heap.IsList a (intItems ps.toArray):=by
  have:=p.isList
  rw [e] at this
  simpa using this
 have hn:ps.toArray.size = is.length:=by rw [← hp]; simp
 refine max_intList (I.ok.hd hc) hl (by rw [hn]; exact hne) fun v h' tk hv hk=>?_
 obtain ⟨t,rfl⟩:=intItems_at hv
 obtain ⟨b1,b2⟩:=a6n (val:=numAt ps.toArray) (ps.toArray.size - 1)
 have e1:numAt ps.toArray (argBest (fun i j=>decide (numAt ps.toArray i > numAt ps.toArray j)) (ps.toArray.size - 1)) = J8 is:=by
  generalize argBest (fun i j=>decide (numAt ps.toArray i > numAt ps.toArray j)) (ps.toArray.size - 1) = k at *
  obtain ⟨m1,m2⟩:=b2a hne
  have hk:is[k]? = some (is[k]'(by omega)):=List.getElem?_eq_getElem (by omega)
  have k1:=a0F hp hk
  have k2:=m2 _ (List.mem_of_getElem? hk)
  obtain ⟨j,hj⟩:=List.getElem?_of_mem m1
  have k3:=b2 j (by have:=(List.getElem?_eq_some_iff.mp hj).1; omega)
  rw [a0F hp hj] at k3
  omega
 rw [e1]
 exact ⟨.int _,H,I.kept hk,⟨t,rfl⟩,q⟩
theorem a5O (hc:X.calm = true):CallR X (.builtin "min") (Z8 X.K K2 fun is=>0 < is.length):=by
 intro pins s σ H xs us Q I r h
 obtain ⟨a,is,rfl,hq,hne,q⟩:=h
 obtain ⟨u,rfl,ru⟩:=K5 r
 cases ru
 obtain ⟨its,rv,p,_⟩:=I.list hq
 obtain ⟨ps,e,hp⟩:=a2j rv
 have hl:s.heap.IsList a (intItems ps.toArray):=by
  have:=p.isList
  rw [e] at this
  simpa using this
 have hn:ps.toArray.size = is.length:=by rw [← hp]; simp
 refine min_intList (I.ok.hd hc) hl (by rw [hn]; exact hne) fun v h' tk hv hk=>?_
 obtain ⟨t,rfl⟩:=intItems_at hv
 obtain ⟨b1,b2⟩:=a6z (val:=numAt ps.toArray) (ps.toArray.size - 1)
 have e1:numAt ps.toArray (argBest (fun i j=>decide (numAt ps.toArray i < numAt ps.toArray j)) (ps.toArray.size - 1)) = K2 is:=by
  generalize argBest (fun i j=>decide (numAt ps.toArray i < numAt ps.toArray j)) (ps.toArray.size - 1) = k at *
  obtain ⟨m1,m2⟩:=b4i hne
  have hk:is[k]? = some (is[k]'(by omega)):=List.getElem?_eq_getElem (by omega)
  have k1:=a0F hp hk
  have k2:=m2 _ (List.mem_of_getElem? hk)
  obtain ⟨j,hj⟩:=List.getElem?_of_mem m1
  have k3:=b2 j (by have:=(List.getElem?_eq_some_iff.mp hj).1; omega)
  rw [a0F hp hj] at k3
  omega
 rw [e1]
 exact ⟨.int _,H,I.kept hk,⟨t,rfl⟩,q⟩
theorem a7G {N:Addr → Prop} {fa:Option Addr} {H:Hp}:∀ {is:List Int} {xs:List V},Reps K N fa H (is.map D.int) xs → xs = is.map V.int
 | [],xs,h=>by simpa only [List.map_nil,Reps] using h
 | b :: r,xs,h=>by
  simp only [List.map_cons,Reps,Rep] at h
  obtain ⟨x,ys,rfl,rfl,h⟩:=h
  rw [a7G h]
  rfl
theorem a6Z {p:D → Option D} {f:List Int → Int} {c:List Int → Prop} (hp:∀ d1 d,p d1 = some d → ∃ is:List Int,d1 = .lst (is.map D.int) ∧ c is ∧ d = .int (f is)):RCD K (Z8 K f c) (one p):=rc1 fun g σ H fa O s x d1 d Q I r e k=>by
 obtain ⟨is,rfl,hc,rfl⟩:=hp _ _ e
 obtain ⟨a,ys,rfl,_,q,w⟩:=r
 have:=a7G w
 subst this
 exact ⟨a,is,rfl,SqL.of q,hc,k _ H StE.refl I (by simp only [Rep])⟩
theorem a56:RCD K (Z8 K J8 fun is=>0 < is.length) (one a0u):=a6Z fun d1 d e=>by
 cases d1 with
 | lst es=>
  refine J6 (show (K4 es).bind (fun is=>if 0 < is.length then some (D.int (J8 is)) else none) = some d from e) fun is h1 h2=>?_
  by_cases h:0 < is.length
  ·rw [if_pos h] at h2
   cases h2
   exact ⟨is,by rw [a2w h1],h,rfl⟩
  ·rw [if_neg h] at h2; cases h2
 | _=>cases e
theorem a5K:RCD K (Z8 K K2 fun is=>0 < is.length) (one a4a):=a6Z fun d1 d e=>by
 cases d1 with
 | lst es=>
  refine J6 (show (K4 es).bind (fun is=>if 0 < is.length then some (D.int (K2 is)) else none) = some d from e) fun is h1 h2=>?_
  by_cases h:0 < is.length
  ·rw [if_pos h] at h2
   cases h2
   exact ⟨is,by rw [a2w h1],h,rfl⟩
  ·rw [if_neg h] at h2; cases h2
 | _=>cases e
end
end DL
namespace L2
open PySem PySem.Spec PyProof.Rows
section
variable {X:Cx} {pins:List (Addr × Obj)} {σ:List (Option V)} {H:Hp} {s:Shared} {h':Heap}
theorem Inv.turned2 {t':Nat} {a b:Addr} (I:Inv X pins σ H s) (k:∀ c o,c ≠ a → c ≠ b → s.heap.get? c = some o → h'.get? c = some o) (fa:E3 X pins H a) (fb:E3 X pins H b):Inv X pins σ H { s with heap:=h',toks:=t' }:=by
 have na:∀ c u,H c = some u → c ≠ a:=fun c u e z=>by rw [z,fa.1] at e; cases e
 have nb:∀ c u,H c = some u → c ≠ b:=fun c u e z=>by rw [z,fb.1] at e; cases e
 refine I.step (g':=s.gens) (d':=s.drawn) (ch:=[a,b]) (fun c hc=>?_) (fun c o _ _ hc e _=>k c o (fun z=>hc (by simp [z])) (fun z=>hc (by simp [z])) e) (fun c o _ _ hc e _=>⟨o.slots,k c o (fun z=>hc (by simp [z])) (fun z=>hc (by simp [z])) e⟩) (fun _ _ _ _ n=>n)
  (fun c o hc e=>⟨o,k c o (fun z=>hc (by simp [z])) (fun z=>hc (by simp [z])) e⟩) (fun _ _ e=>e) (fun _ _ _ e=>e) (fun c ps e=>⟨#[],by rw [e]; simp⟩) (fun m hm=>?_) (fun c u e=>?_) I.bare
 ·simp only [List.mem_cons,List.not_mem_nil,or_false] at hc
  rcases hc with rfl | rfl
  ·exact ⟨fa.2.2.2.1,fa.2.1,fa.2.2.2.2.1,fa.2.2.2.2.2⟩
  ·exact ⟨fb.2.2.2.1,fb.2.1,fb.2.2.2.2.1,fb.2.2.2.2.2⟩
 ·obtain ⟨o,es,ep,ho,r⟩:=hm
  exact ⟨o,es,ep,k _ o (Ne.symm fa.2.1) (Ne.symm fb.2.1) ho,r⟩
 ·refine (I.hok c u e).stay (fun d v hd q=>k d v ?_ ?_ q) (fun _ q=>q) fun _ _ q=>q
  ·rcases hd with z | z
   ·rw [z]; exact na c u e
   ·exact na d _ z
  ·rcases hd with z | z
   ·rw [z]; exact nb c u e
   ·exact nb d _ z
end
section
variable {X:Cx}
theorem b2A:bootBuiltins ("enumerate" : Str) = some (.type "enumerate"):=by decide +kernel
end
end L2
namespace DL
open PySem PySem.Spec L2 PyProof.Rows
noncomputable def M1 (ds:List D):List D:=ds.zipIdx.map fun p=>.tup [.int (p.2:Int),p.1]
theorem a7r {ds:List D} {i:Nat} {d:D} (h:ds[i]? = some d):(M1 ds)[i]? = some (.tup [.int (i:Int),d]):=by
 unfold M1
 rw [List.getElem?_map,List.getElem?_zipIdx,h]
 simp
end DL
namespace L2
open PySem PySem.Spec PyProof.Rows
section
variable {X:Cx} {pins:List (Addr × Obj)} {σ:List (Option V)} {H:Hp} {s:Shared} {h':Heap}
theorem Inv.turnedL {t':Nat} {ch:List Addr} (I:Inv X pins σ H s) (k:∀ c o,c ∉ ch → s.heap.get? c = some o → h'.get? c = some o) (f:∀ b ∈ ch,E3 X pins H b):Inv X pins σ H { s with heap:=h',toks:=t' }:=by
 have nn:∀ c u,H c = some u → c ∉ ch:=fun c u e hc=>by rw [(f c hc).1] at e; cases e
 refine I.step (g':=s.gens) (d':=s.drawn) (ch:=ch) (fun c hc=>⟨(f c hc).2.2.2.1,(f c hc).2.1,(f c hc).2.2.2.2.1,(f c hc).2.2.2.2.2⟩) (fun c o _ _ hc e _=>k c o hc e) (fun c o _ _ hc e _=>⟨o.slots,k c o hc e⟩) (fun _ _ _ _ n=>n)
  (fun c o hc e=>⟨o,k c o hc e⟩) (fun _ _ e=>e) (fun _ _ _ e=>e) (fun c ps e=>⟨#[],by rw [e]; simp⟩) (fun m hm=>?_) (fun c u e=>?_) I.bare
 ·obtain ⟨o,es,ep,ho,r⟩:=hm
  exact ⟨o,es,ep,k _ o (fun z=>(f _ z).2.1 rfl) ho,r⟩
 ·refine (I.hok c u e).stay (fun d v hd q=>k d v ?_ q) (fun _ q=>q) fun _ _ q=>q
  rcases hd with z | z
  ·rw [z]; exact nn c u e
  ·exact nn d _ z
end
end L2
namespace DL
open PySem PySem.Spec L2 PyProof.Rows
noncomputable def SqB (K:PySem.W.Frag) (t:Bool) (H:Hp) (a:Addr) (xs:List V):Prop:=if t then SqT K H a xs else SqL K H a xs
noncomputable def RwI (t:Bool) (h:Heap) (i l:Addr) (k:Nat):Prop:=if t then h.IsTupleIter i l k else h.IsListIter i l k
theorem RwI.it {t:Bool} {h:Heap} {i l:Addr} {xs:Array Value} {k:Nat} (x:RwI t h i l k) (y:RwB t h l xs):RwIt h i l xs k:=by
 cases t with
 | true=>exact .inr ⟨x,y⟩
 | false=>exact .inl ⟨x,y⟩
theorem RwI.at {t:Bool} {h h':Heap} {i l:Addr} {k:Nat} (x:RwI t h i l k) (e:∀ o,h.get? i = some o → h'.get? i = some o):RwI t h' i l k:=by
 cases t with
 | true=>obtain ⟨o,q,r⟩:=x; exact ⟨o,e o q,r⟩
 | false=>obtain ⟨o,q,r⟩:=x; exact ⟨o,e o q,r⟩
theorem RwI.ob {t:Bool} {h:Heap} {i l:Addr} {k:Nat} (x:RwI t h i l k):∃ o,h.get? i = some o ∧ ∀ v,o.data ≠ .cell v:=by
 cases t with
 | true=>obtain ⟨o,q,c,d⟩:=x; exact ⟨o,q,fun v z=>by rw [d] at z; cases z⟩
 | false=>obtain ⟨o,q,c,d⟩:=x; exact ⟨o,q,fun v z=>by rw [d] at z; cases z⟩
theorem RwIt.kind {t:Bool} {h:Heap} {i l:Addr} {xs ys:Array Value} {k:Nat} (x:RwIt h i l xs k) (y:RwB t h l ys):RwI t h i l k:=by
 cases t with
 | true=>
  rcases x with ⟨_,o,q,c,_⟩ | ⟨x,_⟩
  ·obtain ⟨o',q',c',_⟩:=y
   rw [q] at q'; cases q'
   rw [c] at c'
   exact absurd c' (by decide)
  ·exact x
 | false=>
  rcases x with ⟨x,_⟩ | ⟨_,o,q,c,_⟩
  ·exact x
  ·obtain ⟨o',q',c',_⟩:=y
   rw [q] at q'; cases q'
   rw [c] at c'
   exact absurd c' (by decide)
theorem V9 {X:Cx} {pins:List (Addr × Obj)} {σ:List (Option V)} {H:Hp} {s:Shared} {t:Bool} (I:Inv X pins σ H s) {p:Addr} {xs:List V} (h:SqB X.K t H p xs):∃ its:List Value,Vals xs its ∧ RwB t s.heap p its.toArray ∧ xs.length ≤ sizeLine:=by
 cases t with
 | false=>
  obtain ⟨its,r,⟨o,n,e,c,_,d⟩,z⟩:=I.list h
  exact ⟨its,r,⟨o,e,c,n,d⟩,z⟩
 | true=>
  obtain ⟨its,r,⟨o,e,c,n,d⟩,z⟩:=I.tuple h
  exact ⟨its,r,⟨o,e,c,n,d⟩,z⟩
theorem a6u {X:Cx} {pins:List (Addr × Obj)} {σ:List (Option V)} {H:Hp} {s:Shared} {t:Bool} (I:Inv X pins σ H s) {p:Addr} {xs ys:List V} (h:SqB X.K t H p xs) (h':SqB X.K t H p ys):xs = ys:=by
 cases t with
 | false=>exact I.list_inj h h'
 | true=>exact I.tuple_inj h h'
section
variable {prog:Program} {w:World} {A:Around} {E:Value → Shared → Prop} {s:Shared} {z TI TO i1 i2 l1 l2:Addr} {xs ys:Array Value} {k:Nat}
theorem b3x {x y a b:Value} {Q:Option Value → Shared → Prop} (D:ZipApart z TI TO i1 i2 l1 l2) (hz:A5 s.heap z TI TO .none (.bool false)) (hTI:IsPair s.heap TI (.ref i1) (.ref i2)) (hTO:IsPair s.heap TO a b) (h1:RwIt s.heap i1 l1 xs k) (h2:RwIt s.heap i2 l2 ys k) (hx:xs[k]? = some x) (hy:ys[k]? = some y)
  (hQ:∀ h',A5 h' z TI TO (rawInt s.heap.objs.size) (.bool false) → RwIt h' i1 l1 xs (k + 1) → RwIt h' i2 l2 ys (k + 1) → IsPair h' s.heap.objs.size x y →
   (∀ c o,c ≠ z → c ≠ TO → c ≠ i1 → c ≠ i2 → s.heap.get? c = some o → h'.get? c = some o) → IsPair h' TO x y → Q (some (.ref s.heap.objs.size)) { s with heap:=h' }):wpAny (model prog w) A (pyNext (.ref z)) Q E s:=by
 unfold pyNext
 have tz:s.TypeIs (.ref z) "zip" := ⟨_,hz,rfl⟩
 exact wpAny_bind (wpAny_attempt (wpAny_callSpecial?_slot (name:=Str.ofString "__next__") tz PySem.F.slot_zip_next (wpAny_call_entry PySem.F.slot_zip_next tz PySem.F.entry_zip_next
  (a5F D hz hTI hTO h1 h2 hx hy fun h' a1 a2 a3 a4 a5 a6=>wpAny_pure (hQ h' a1 a2 a3 a4 a5 a6)) (PySem.F.args_zip_next_1 _))))
theorem b6Z {a b:Value} {Q:Option Value → Shared → Prop} (hh:A.handled = none) (D:ZipApart z TI TO i1 i2 l1 l2) (hz:A5 s.heap z TI TO .none (.bool false)) (hTI:IsPair s.heap TI (.ref i1) (.ref i2)) (hTO:IsPair s.heap TO a b) (h1:RwIt s.heap i1 l1 xs k) (h2:RwIt s.heap i2 l2 ys k) (hend:xs[k]? = none ∨ ys[k]? = none)
  (hQ:∀ h',(∀ c o,c ≠ z → c ≠ TO → c ≠ i1 → c ≠ i2 → s.heap.get? c = some o → h'.get? c = some o) → Q none { s with heap:=h' }):wpAny (model prog w) A (pyNext (.ref z)) Q E s:=by
 unfold pyNext
 have tz:s.TypeIs (.ref z) "zip" := ⟨_,hz,rfl⟩
 refine wpAny_bind (wpAny_attempt (wpAny_callSpecial?_slot (name:=Str.ofString "__next__") tz PySem.F.slot_zip_next (wpAny_call_entry PySem.F.slot_zip_next tz PySem.F.entry_zip_next (a5j hh D hz hTI hTO h1 h2 hend fun h' e hk he=>?_) (PySem.F.args_zip_next_1 _))))
 obtain ⟨o,ho,hc⟩:=he
 refine wpAny_bind (wpAny_isInstance (T := "StopIteration") (b:=true) ⟨o,ho,hc⟩ isSubtype_stop ?_)
 exact wpAny_pure (hQ _ hk)
theorem b4s {elts:List Expr} {x1} {pos:Pos} {a:Addr} {Q:Unit → Shared → Prop} (hz:A5 s.heap z TI TO (rawInt a) (.bool false))
  (hQ:∀ h',A5 h' z TI TO .none (.bool false) → Heap.SameBut z s.heap h' → Q () { s with heap:=h' }):wpAny (model prog w) A (letOwnedTupleGo (.Tuple elts x1 pos) (.ref z) (.ref a)) Q E s:=by
 unfold letOwnedTupleGo
 refine wpAny_bind (wpAny_load hz ?_)
 show wpAny _ A (if (["enumerate", "zip", "dict_itemiterator", "dict_reverseitemiterator", "odict_iterator", "itertools.zip_longest", "itertools.pairwise"].contains "zip" &&
   (#[rawInt a,.bool false,.bool false,.ref TI,.ref TO]:Array Value)[0]? == some (rawInt a)) = true then _ else _) Q E s
 rw [if_pos (by simp)]
 refine wpAny_bind (wpAny_rule ?_)
 show wpAny _ A (setField (.ref z) 0 .none) Q E s
 exact wpAny_setField_rec hz (by simp) fun h' he' hs'=>hQ h' he' hs'
end
noncomputable def Itz (K:PySem.W.Frag) (t u:Bool) (a b:Addr):It:=
 ⟨fun i H=>∃ xs ys x y,SqB K t H a xs ∧ SqB K u H b ys ∧ xs[i]? = some x ∧ ys[i]? = some y,fun i H v H'=>∃ p x y,H p = none ∧ v = .ref p ∧ H' = upd H p (.tup [x,y]) ∧ (∀ xs,SqB K t H a xs → xs[i]? = some x) ∧ ∀ ys,SqB K u H b ys → ys[i]? = some y,fun i H=>∃ xs ys,SqB K t H a xs ∧ SqB K u H b ys ∧ (xs.length ≤ i ∨ ys.length ≤ i)⟩
noncomputable def Ztn (t u:Bool) (z TI TO i1 i2 a b:Addr) (i:Nat) (h:Heap):Prop:=A5 h z TI TO .none (.bool false) ∧ IsPair h TI (.ref i1) (.ref i2) ∧ (∃ x y,IsPair h TO x y) ∧ RwI t h i1 a i ∧ RwI u h i2 b i
theorem b5L {P:Program} {w:World} {K:PySem.W.Frag} {elts:List Expr} {x1} {pos:Pos} {t u:Bool} {z TI TO i1 i2 a b:Addr} (D:ZipApart z TI TO i1 i2 a b):Turn P w K (.Tuple elts x1 pos) (Itz K t u a b) [z,TI,TO,i1,i2] z (Ztn t u z TI TO i1 i2 a b) where
 mem:=by simp
 obj:=fun i h st c hc=>by
  obtain ⟨hz,ti,⟨x,y,ho⟩,r1,r2⟩:=st
  simp only [List.mem_cons,List.not_mem_nil,or_false] at hc
  rcases hc with rfl | rfl | rfl | rfl | rfl
  ·exact ⟨_,hz,fun v q=>by
    have q':Data.fields _ = Data.cell v:=q
    cases q'⟩
  ·exact ⟨_,ti,fun v q=>by
    have q':Data.seq _ _ = Data.cell v:=q
    cases q'⟩
  ·exact ⟨_,ho,fun v q=>by
    have q':Data.seq _ _ = Data.cell v:=q
    cases q'⟩
  ·exact r1.ob
  ·exact r2.ob
 keep:=fun i h h' st k=>by
  obtain ⟨hz,ti,⟨x,y,ho⟩,r1,r2⟩:=st
  exact ⟨k z (by simp) _ hz,k TI (by simp) _ ti,⟨x,y,k TO (by simp) _ ho⟩,r1.at fun o q=>k i1 (by simp) o q,r2.at fun o q=>k i2 (by simp) o q⟩
 item:=by
  intro X hP hw hK hc i pins s σ H E I hf st hg
  subst hP hw hK
  obtain ⟨xs,ys,x,y,q1,q2,hx,hy⟩:=hg
  obtain ⟨hz,ti,⟨o1,o2,ho⟩,r1,r2⟩:=st
  obtain ⟨its,rv,w1,_⟩:=V9 I q1
  obtain ⟨jts,rw_,w2,_⟩:=V9 I q2
  obtain ⟨p,hp,rp⟩:=rv.get hx
  obtain ⟨q,hq,rq⟩:=rw_.get hy
  have hx':its.toArray[i]? = some p:=by simpa using hp
  have hy':jts.toArray[i]? = some q:=by simpa using hq
  have lz:∀ c ∈ [z,TI,TO,i1,i2],c < s.heap.objs.size:=fun c hc=>by
   simp only [List.mem_cons,List.not_mem_nil,or_false] at hc
   rcases hc with rfl | rfl | rfl | rfl | rfl
   ·exact Heap.lt_size hz
   ·exact Heap.lt_size ti
   ·exact Heap.lt_size ho
   ·obtain ⟨o,e,_⟩:=r1.ob; exact Heap.lt_size e
   ·obtain ⟨o,e,_⟩:=r2.ob; exact Heap.lt_size e
  refine b3x D hz ti ho (r1.it w1) (r2.it w2) hx' hy' fun h1 a1 a2 a3 a4 a5 a6=>?_
  refine ⟨_,rfl,b4s a1 fun h2 hz2 hs2=>?_⟩
  replace hs2:Heap.SameBut z h1 h2:=hs2
  have hn:H s.heap.objs.size = none:=I.hok.fresh (Nat.le_refl _)
  have I1:Inv X pins σ (upd H s.heap.objs.size (.tup [x,y])) { s with heap:=s.heap.push { cls:=.type "tuple",data:=.seq #[p,q] },toks:=s.toks }:=
   I.laid (t':=s.toks) (fun b o q=>Heap.get?_push_of_some _ q) (Nat.le_refl _) ⟨by show 2 ≤ sizeLine; decide,[p,q],.cons rp (.cons rq .nil),⟨_,Heap.get?_push_size _ rfl,rfl,_,rfl⟩⟩
  have up:∀ c,c < s.heap.objs.size → E3 X pins H c → E3 X pins (upd H s.heap.objs.size (.tup [x,y])) c:=fun c hc f=>⟨by rw [m9 (Nat.ne_of_lt hc)]; exact f.1,f.2⟩
  have k2:∀ c o,c ≠ z → c ≠ TO → c ≠ i1 → c ≠ i2 → s.heap.get? c = some o → h2.get? c = some o:=fun c o c1 c2 c3 c4 e=>(hs2.2 _ c1).trans (a5 c o c1 c2 c3 c4 e)
  have I2:=I1.turnedL (h':=h2) (t':=s.toks) (ch:=[z,TO,i1,i2]) (fun c o hc e=>by
   simp only [List.mem_cons,List.not_mem_nil,or_false,not_or] at hc
   rcases Heap.get?_push_cases e with ⟨rfl,rfl⟩ | e1
   ·exact (hs2.2 _ hc.1).trans a4
   ·exact k2 c o hc.1 hc.2.1 hc.2.2.1 hc.2.2.2 e1) (fun c hc=>by
   have hc':c ∈ [z,TI,TO,i1,i2]:=by
    simp only [List.mem_cons,List.not_mem_nil,or_false] at hc ⊢
    rcases hc with h | h | h | h <;> simp [h]
   exact up c (lz c hc') (hf c hc'))
  have wa:RwB t h1 a its.toArray:=w1.at fun o e=>a5 a o D.l1z D.l1TO D.l1i1 D.l1i2 e
  have wb:RwB u h1 b jts.toArray:=w2.at fun o e=>a5 b o D.l2z D.l2TO D.l2i1 D.l2i2 e
  refine ⟨.ref s.heap.objs.size,_,I2,rfl,⟨_,x,y,hn,rfl,rfl,fun xs' h=>by rw [a6u I h q1]; exact hx,fun ys' h=>by rw [a6u I h q2]; exact hy⟩,⟨hz2,k2 _ _ D.TIz D.TITO D.TIi1 D.TIi2 ti,⟨p,q,(hs2.2 _ D.TOz).trans a6⟩,(a2.kind wa).at fun o e=>(hs2.2 _ D.i1z).trans e,(a3.kind wb).at fun o e=>(hs2.2 _ D.i2z).trans e⟩,fun c hc=>(up c (lz c hc) (hf c hc)).1⟩
 done:=by
  intro X hP hw hK hc i pins s σ H E I hf st hg
  subst hP hw hK
  obtain ⟨xs,ys,q1,q2,hl⟩:=hg
  obtain ⟨hz,ti,⟨o1,o2,ho⟩,r1,r2⟩:=st
  obtain ⟨its,rv,w1,_⟩:=V9 I q1
  obtain ⟨jts,rw_,w2,_⟩:=V9 I q2
  have e1:=rv.length
  have e2:=rw_.length
  refine b6Z (I.ok.hd hc) D hz ti ho (r1.it w1) (r2.it w2) (by
   rcases hl with h | h
   ·exact .inl (by simp; omega)
   ·exact .inr (by simp; omega)) fun h' k=>⟨rfl,I.turnedL (t':=s.toks) (ch:=[z,TO,i1,i2]) (fun c o hc e=>by
    simp only [List.mem_cons,List.not_mem_nil,or_false,not_or] at hc
    exact k c o hc.1 hc.2.1 hc.2.2.1 hc.2.2.2 e) fun c hc=>hf c (by
    simp only [List.mem_cons,List.not_mem_nil,or_false] at hc ⊢
    rcases hc with h | h | h | h <;> simp [h])⟩
 self:=fun A i s Q E st hQ=>by
  have tz:s.TypeIs (.ref z) "zip" := ⟨_,st.1,rfl⟩
  refine wpAny_pyIter_slot tz PySem.F.slot_zip_iter (wpAny_call_entry PySem.F.slot_zip_iter tz PySem.F.entry_zip_iter ?_ (PySem.F.args_zip_iter_1 _))
  show wpAny _ _ (ret (.ref z)) _ _ s
  exact wpAny_pure ⟨_,rfl, "zip",_,tz,PySem.F.slot_zip_next.lookup,hQ⟩
section
variable {X:Cx}
noncomputable def b4k (K:PySem.W.Frag) (ta:TA):TI:=fun σ H R=>ta σ H fun vs H1=>∃ a b t u,vs = [.ref a,.ref b] ∧ (∃ xs,SqB K t H1 a xs) ∧ (∃ ys,SqB K u H1 b ys) ∧ R (Itz K t u a b) H1
theorem b35 {e:Expr} {es:List Expr} {ta:TA} {p pos pt:Pos} {elts:List Expr} {x1} (hg:Gl X "zip") (hm:X.mg "zip" = none) (ha:PA X (e :: es) ta) (he:starEach (e :: es) X.env = (false,eval e X.env) :: starEach es X.env:=by rfl) (hpl:(backTo pos (starEach es X.env)).any (·.1) = false:=by rfl) :
  PI X (.Tuple elts x1 pt) (.Call (.Name "zip" p) (e :: es) [] pos) (b4k X.K ta):=by
 intro pins s σ H R I h
 refine wpAny_Call_Name_kw (P9 I hg hm (show bootBuiltins ("zip" : Str) = some (.type "zip") by decide +kernel) ?_ (by decide) (by decide))
 refine PyProof.Rows.callWith_type1 (thn (ha pos pins s σ H _ I h) fun us s1 ⟨vs,H1,I1,r1,q1⟩=>?_) he hpl
 obtain ⟨a,b,t,u,rfl,⟨xs,qa⟩,⟨ys,qb⟩,k⟩:=q1
 obtain ⟨u1,u2,rfl,e1,e2⟩:∃ u1 u2,us = [u1,u2] ∧ u1 = Value.ref a ∧ u2 = Value.ref b:=by
  cases r1 with
  | cons h1 r1=>
   cases r1 with
   | cons h2 r1=>cases r1; exact ⟨_,_,rfl,h1,h2⟩
 subst e1; subst e2
 obtain ⟨it,rx,wa,za⟩:=V9 I1 qa
 obtain ⟨jt,ry,wb,zb⟩:=V9 I1 qb
 refine a8u wa wb fun h1 _ k1 Z=>?_
 obtain ⟨D,g1,g2,g3,g5,x1,x2,g4⟩:=Z
 have tz:({ s1 with heap:=h1 }:Shared).TypeIs (.ref (s1.heap.objs.size + 4)) "zip" := ⟨_,g5,rfl⟩
 refine wpAny_pyIter_slot tz PySem.F.slot_zip_iter (wpAny_call_entry PySem.F.slot_zip_iter tz PySem.F.entry_zip_iter ?_ (PySem.F.args_zip_iter_1 _))
 show wpAny _ _ (ret (.ref (s1.heap.objs.size + 4))) _ _ _
 refine wpAny_pure ⟨_,rfl, "zip",_,tz,PySem.F.slot_zip_next.lookup,?_⟩
 refine ⟨s1.heap.objs.size + 4,[s1.heap.objs.size + 4,s1.heap.objs.size + 2,s1.heap.objs.size + 3,s1.heap.objs.size,s1.heap.objs.size + 1],_,_,H1,rfl,I1.kept (t':=s1.toks) k1,b5L (t:=t) (u:=u) D,⟨g5,g3,⟨x1,x2,g4⟩,?_,?_⟩,fun c hc=>?_,k⟩
 ·cases t with
  | true=>exact ⟨_,g1,rfl,rfl⟩
  | false=>exact ⟨_,g1,rfl,rfl⟩
 ·cases u with
  | true=>exact ⟨_,g2,rfl,rfl⟩
  | false=>exact ⟨_,g2,rfl,rfl⟩
 ·have hc:s1.heap.objs.size ≤ c:=by
   simp only [List.mem_cons,List.not_mem_nil,or_false] at hc
   rcases hc with h | h | h | h | h <;> rw [h] <;> omega
  exact I1.fpOk hc (I1.hok.fresh hc)
theorem a91 {K:PySem.W.Frag} {t u:Bool} {a b:Addr} {xs ys:List V} {g:TG} {tb:TS} {D:Ends} {σ:L2.St} {H:Hp} (Pv:Nat → L2.St → Hp → Prop) (h0:Pv 0 σ H) (hl:∀ i σ H,Pv i σ H → SqB K t H a xs ∧ SqB K u H b ys)
  (hs:∀ i x y p σ H,xs[i]? = some x → ys[i]? = some y → H p = none → Pv i σ H → g (.ref p) σ (upd H p (.tup [x,y])) fun σ2 H2=>tb { D with nx:=Pv (i + 1),ct:=Pv (i + 1),bk:=D.nx } σ2 H2) (hd:∀ σ H,Pv (min xs.length ys.length) σ H → D.nx σ H) :
  ∃ W:Nat → Nat → L2.St → Hp → Prop,(∃ m,W 0 m σ H) ∧ ∀ i m σ H,W i m σ H →
   ((Itz K t u a b).stop i H ∧ D.nx σ H) ∨ ((Itz K t u a b).go i H ∧ ∃ N:L2.St → Hp → Prop,(∀ σ' H',N σ' H' → ∃ m',m' < m ∧ W (i + 1) m' σ' H') ∧ ∀ x H',(Itz K t u a b).yld i H x H' → g x σ H' fun σ2 H2=>tb { D with nx:=N,ct:=N,bk:=D.nx } σ2 H2):=by
 refine ⟨fun i m σ H=>m = min xs.length ys.length - i ∧ i ≤ min xs.length ys.length ∧ Pv i σ H,⟨min xs.length ys.length,by simp,Nat.zero_le _,h0⟩,?_⟩
 rintro i m σ H ⟨rfl,hi,p⟩
 obtain ⟨q1,q2⟩:=hl i σ H p
 by_cases hlt:i < min xs.length ys.length
 ·have l1:i < xs.length:=by omega
  have l2:i < ys.length:=by omega
  refine .inr ⟨⟨xs,ys,xs[i],ys[i],q1,q2,by simp [l1],by simp [l2]⟩,Pv (i + 1),fun σ' H' p'=>⟨min xs.length ys.length - (i + 1),by omega,rfl,hlt,p'⟩,fun v H' y=>?_⟩
  obtain ⟨pp,x,y,hp,rfl,rfl,y1,y2⟩:=y
  exact hs i x y pp σ _ (y1 xs q1) (y2 ys q2) hp p
 ·have e:i = min xs.length ys.length:=by omega
  refine .inl ⟨⟨xs,ys,q1,q2,by omega⟩,hd σ H ?_⟩
  rw [← e]
  exact p
end
noncomputable def a4G (f:DA) (t:D → DS → Option DS) (b:DM):DM:=fun s=>(f s).bind fun x=>match x.1 with
 | [d1,d2]=>(E9 d1).bind fun xs=>(E9 d2).bind fun ys=>u9 t b (List.zipWith G6 xs ys) x.2
 | _=>none
theorem a6S {K:PySem.W.Frag} {N:Addr → Prop} {fa:Option Addr} {H:Hp} {d:D} {v:V} {ds:List D} (r:Rep K N fa H d v) (e:E9 d = some ds):∃ t a xs,v = .ref a ∧ SqB K t H a xs ∧ (t = false → ¬ N a ∧ H a = some (.lst xs)) ∧ Reps K N fa H ds xs:=by
 cases d with
 | tup es=>
  cases e
  simp only [Rep] at r
  obtain ⟨a,ys,rfl,q,w⟩:=r
  exact ⟨true,a,ys,rfl,q,fun z=>(by cases z),w⟩
 | lst es=>
  cases e
  simp only [Rep] at r
  obtain ⟨a,ys,rfl,na,q,w⟩:=r
  exact ⟨false,a,ys,rfl,SqL.of q,fun _=>⟨na,q⟩,w⟩
 | _=>cases e
theorem b6h {f:DA} {t:D → DS → Option DS} {b:DM} {s:DS} {r:Fl × DS} (q:a4G f t b s = some r):∃ d1 d2 xs ys s1,f s = some ([d1,d2],s1) ∧ E9 d1 = some xs ∧ E9 d2 = some ys ∧ u9 t b (List.zipWith G6 xs ys) s1 = some r:=by
 refine t9 q fun as s1 h1 h2=>?_
 cases as with
 | nil=>cases h2
 | cons d1 as=>
  cases as with
  | nil=>cases h2
  | cons d2 as=>
   cases as with
   | cons _ _=>cases h2
   | nil=>
    refine J6 h2 fun xs e1 h2=>?_
    refine J6 h2 fun ys e2 h2=>?_
    exact ⟨d1,d2,xs,ys,s1,h1,e1,e2,h2⟩
section
variable {X:Cx} {g:Gh} {e:Expr} {es:List Expr} {body:List Stmt} {f:DA} {t:D → DS → Option DS} {b:DM} {pos p1 p2 pt:Pos} {elts:List Expr} {x1:Nat}
theorem b2G (hp:PassesOwn (model X.prog X.w) X.A X.env X.xe) (hc:X.calm = true) (hgl:Gl X "zip") (hm:X.mg "zip" = none) (he:AO X g (e :: es) f) (hg:GO X g (.Tuple elts x1 pt) t) (hb:SSO X g body b)
  (hst:starEach (e :: es) X.env = (false,eval e X.env) :: starEach es X.env:=by rfl) (hpl:(backTo p2 (starEach es X.env)).any (·.1) = false:=by rfl) (hs:∀ x,foldedSetIterable (.Call (.Name "zip" p1) (e :: es) [] p2) X.env x = pure x:=by intro _; rfl) :
  SO X g (.For (.Tuple elts x1 pt) (.Call (.Name "zip" p1) (e :: es) [] p2) body [] pos) (a4G f t b):=SO.w (a00 hp hc (b35 hgl hm he.pe hst hpl) hg.pe hb.pe hs) fun E σ H hQ=>by
 refine hQ.elim fun fa O s fl sf I q k=>?_
 obtain ⟨d1,d2,xs1,ys1,s1,h1,e1,e2,h2⟩:=b6h q
 refine ⟨fa,O,s,_,s1,I,h1,fun vs H1 f1 O1 a1 I1 r=>?_⟩
 have k1:=k.shift a1.stp
 ·simp only [Reps] at r
  obtain ⟨v1,zs,rfl,r1,v2,zs',rfl,r2,rfl⟩:=r
  obtain ⟨ta,a,vs,rfl,q1,c1,w1⟩:=a6S r1 e1
  obtain ⟨tb,c,us,rfl,q2,c2,w2⟩:=a6S r2 e2
  have stay:∀ {t:Bool} {p:Addr} {xs:List V} {fa' O' H'},Stp f1 O1 H1 fa' O' H' → SqB X.K t H1 p xs → (t = false → ¬ NN g.F f1 O1 p ∧ H1 p = some (.lst xs)) → SqB X.K t H' p xs:=fun {t p xs fa' O' H'} st q z=>by
   cases t with
   | true=>exact (I1.car st).tp p xs q
   | false=>exact SqL.of ((I1.car st).ls p xs (z rfl).1 (z rfl).2).1
  refine ⟨a,c,ta,tb,rfl,⟨vs,q1⟩,⟨us,q2⟩,a91 (xs:=vs) (ys:=us) (PvD X.K g f1 O1 H1 t b (List.zipWith G6 xs1 ys1) fl sf) ⟨f1,O1,s1,Stp.refl,I1,h2⟩ ?_ ?_ ?_⟩
  ·rintro i σ' H' ⟨fa',O',s',st,I',e⟩
   exact ⟨stay st q1 c1,stay st q2 c2⟩
  ·intro i x y p σ' H' hx hy hpn h
   obtain ⟨dx,hdx,rx⟩:=Reps.get' w1 hx
   obtain ⟨dy,hdy,ry⟩:=Reps.get' w2 hy
   have h':PvD X.K g f1 O1 H1 t b (List.zipWith G6 xs1 ys1) fl sf i σ' (upd H' p (.tup [x,y])):=by
    obtain ⟨fa',O',s',st,I',e⟩:=h
    exact ⟨fa',O',s',st.trans (A3 hpn).stp,I'.new hpn,e⟩
   have hd:(List.zipWith G6 xs1 ys1)[i]? = some (G6 dx dy):=by rw [List.getElem?_zipWith,hdx,hdy]
   refine Y9 k1 hd (fun fa' O' st=>?_) h'
   simp only [G6,Rep,Reps]
   exact ⟨p,[x,y],rfl,SqT.of u8,_,_,rfl,Rep.stp I1 st rx,_,_,rfl,Rep.stp I1 st ry,rfl⟩
  ·intro σ' H' h
   refine X4 k1 ?_ h
   rw [List.length_zipWith,w1.length,w2.length]
   exact Nat.le_refl _
end
end DL
namespace DL
open PySem PySem.Spec L2
noncomputable def V1:DM:=fun _=>none
theorem a6H {X:Cx} {g:Gh} {st:Stmt}:SO X g st V1:=⟨fun _ _ _ _ _ _ ⟨_,_,_,_,_,_,q,_⟩=>by cases q⟩
theorem on1 {α:Type _} {P:List α → Prop} (h:∀ a1:α,P [a1]):∀ us:List α,us.length = 1 → P us:=by
 intro us e
 match us,e with | [a1],_=>exact h a1
theorem on2 {α:Type _} {P:List α → Prop} (h:∀ a1 a2:α,P [a1,a2]):∀ us:List α,us.length = 2 → P us:=by
 intro us e
 match us,e with | [a1,a2],_=>exact h a1 a2
theorem on3 {α:Type _} {P:List α → Prop} (h:∀ a1 a2 a3:α,P [a1,a2,a3]):∀ us:List α,us.length = 3 → P us:=by
 intro us e
 match us,e with | [a1,a2,a3],_=>exact h a1 a2 a3
theorem on4 {α:Type _} {P:List α → Prop} (h:∀ a1 a2 a3 a4:α,P [a1,a2,a3,a4]):∀ us:List α,us.length = 4 → P us:=by
 intro us e
 match us,e with | [a1,a2,a3,a4],_=>exact h a1 a2 a3 a4
structure GF (K:PySem.W.Frag) (mg:Str → Option Value) (n:Str) (st:Stmt) (f:Addr) (fd:FuncData):Prop where
 F:Fun K n n st f fd
 m:mg n = some (.ref f)
section
variable {K:PySem.W.Frag} {h:Heap} {mg:Str → Option Value} {n:Str} {st:Stmt} {f:Addr} {fd:FuncData}
theorem gf_mk (X:K.In h) (G:h.Ns mainGlobals mg) {oc:Value} {od an:Option Addr} {osl:Array (Option Value)} {kV doc pm cdv ct:Value} (a:PySem.W.nsIn K mainGlobals n = some (some (.ref f))) (l:K.lookup f = some ⟨oc,od,.func (PySem.W.fnOf n n (P8 st) (J3 st) (k9 st) .none kV doc pm an cdv ct),osl⟩)
  (c:PySem.W.codeIn K cdv n = true) (k:PySem.W.keepIn K (.ref f) = true):GF K mg n st f (PySem.W.fnOf n n (P8 st) (J3 st) (k9 st) .none kV doc pm an cdv ct):=⟨b5J l c k,PySem.W.mg_of X G a⟩
theorem b0L {x:Str} (F:Fun K n n st f fd) (q:∀ (kV doc pm:Value) (an:Option Addr) (cdv ct:Value) (s:Shared) (v:Value),BindsTo s (PySem.W.fnOf n n (P8 st) (J3 st) (k9 st) .none kV doc pm an cdv ct) ⟨[v],[]⟩ [(x,v)]):∀ (s:Shared) (v:Value),BindsTo s fd ⟨[v],[]⟩ [(x,v)]:=by
 obtain ⟨oc,od,kV,doc,pm,an,cdv,ct,osl,rfl,lk,hcd⟩:=F.ex
 exact fun s v=>q kV doc pm an cdv ct s v
theorem blt_mk (X:K.In h) (G:h.Ns mainGlobals mg) (z0:PySem.W.nsIn K mainGlobals "len" = some none) (z1:PySem.W.nsIn K mainGlobals "range" = some none) (z2:PySem.W.nsIn K mainGlobals "abs" = some none) (z3:PySem.W.nsIn K mainGlobals "tuple" = some none) (z4:PySem.W.nsIn K mainGlobals "list" = some none) (z5:PySem.W.nsIn K mainGlobals "int" = some none) (z6:PySem.W.nsIn K mainGlobals "bool" = some none) (z7:PySem.W.nsIn K mainGlobals "str" = some none) (z8:PySem.W.nsIn K mainGlobals "repr" = some none) (z9:PySem.W.nsIn K mainGlobals "all" = some none) (z10:PySem.W.nsIn K mainGlobals "isinstance" = some none) (z11:PySem.W.nsIn K mainGlobals "zip" = some none) (z12:PySem.W.nsIn K mainGlobals "enumerate" = some none) (z13:PySem.W.nsIn K mainGlobals "min" = some none) (z14:PySem.W.nsIn K mainGlobals "max" = some none) (z15:PySem.W.nsIn K mainGlobals "reversed" = some none) (z16:PySem.W.nsIn K mainGlobals "any" = some none) (z17:PySem.W.nsIn K mainGlobals "sum" = some none) (z18:PySem.W.nsIn K mainGlobals "sorted" = some none):Blt mg:=⟨PySem.W.mg_none_of X G z0,PySem.W.mg_none_of X G z1,PySem.W.mg_none_of X G z2,PySem.W.mg_none_of X G z3,PySem.W.mg_none_of X G z4,PySem.W.mg_none_of X G z5,PySem.W.mg_none_of X G z6,PySem.W.mg_none_of X G z7,PySem.W.mg_none_of X G z8,PySem.W.mg_none_of X G z9,PySem.W.mg_none_of X G z10,PySem.W.mg_none_of X G z11,PySem.W.mg_none_of X G z12,PySem.W.mg_none_of X G z13,PySem.W.mg_none_of X G z14,PySem.W.mg_none_of X G z15,PySem.W.mg_none_of X G z16,PySem.W.mg_none_of X G z17,PySem.W.mg_none_of X G z18⟩
theorem t7 {P:Program} {w:World} {base:Heap} {N ps:List Str} {k:Nat} {b:DM} (F:GF K mg n st f fd) (q:∀ (kV doc pm:Value) (an:Option Addr) (cdv ct:Value) (us:List Value),us.length = ps.length → bindArgs (PySem.W.fnOf n n (P8 st) (J3 st) (k9 st) .none kV doc pm an cdv ct) ⟨us,[]⟩ = pure (ps.zip us)) (S:FnScope N ps (k9 st))
  (hbody:∀ (cdv:Value) (A:Around) (outer:List Env) (s:Shared) (H:Hp) (E:XK) (g:Gh),Room k (A.deeper (PyProof.Rows.envOfC n (k9 st) s.heap.objs.size f cdv)) → SSO (N7 CX0 P w K mg base N n (k9 st) f cdv A outer s H E).nox g (J3 st) b) :
  Cal P w K mg base (k + 1) n ps (mFn N.length b):=b6u F.F F.m (F.F.binds q) S hbody
end
end DL
namespace L2
open PySem PySem.Spec PyProof.Rows
open AutoSeq1 (wpAny_loadPart')
noncomputable abbrev a0e (l:Addr):Obj:={ cls:=.type "tuple_iterator",data:=.fields #[.ref l,.int 0 0] }
noncomputable abbrev a3I (a:Addr):Obj:={ cls:=.type "enumerate",data:=.fields #[.none,.bool false,.ref a,rawInt 0,.none,.none] }
theorem b3n (l:Addr) (its:Array Value) (n:Nat) (dc:Option Addr) (sl:Array (Option Value)) :
  Meets (Builtin.«enumerate.__new__» ⟨[.type "enumerate",.ref l],[]⟩) (fun _ R s=>s.heap.get? l = some { cls:=.type "tuple",dict:=dc,data:=.seq its n,slots:=sl } ∧
   R (.ok (.ret (.ref (s.heap.push (a0e l)).objs.size))) { s with heap:=(s.heap.push (a0e l)).push (a3I s.heap.objs.size) }):=
 .of_wp fun prog w A R s q=>by
  obtain ⟨hp,g,d,tk,os⟩:=s
  obtain ⟨hl,q⟩:=q
  have hu:=sub_enumerate
  have hT:Heap.IsTuple (Shared.heap ⟨hp,g,d,tk,os⟩) l its:=⟨_,hl,rfl,n,rfl⟩
  wp_walk using wpAny_loadPart' hl
  refine wpAny_stack_any fun st0=>wpAny_pure ?_
  split
  ·rename_i c _ _ _ _ _
   cases (c == Value.type "enumerate")
   ·wp_walk using wpAny_loadPart' hl,wpAny_pyIter_tuple hT
    exact ⟨_,rfl,q⟩
   ·wp_walk using wpAny_loadPart' hl,wpAny_pyIter_tuple hT
    exact ⟨_,rfl,q⟩
  ·wp_walk using wpAny_loadPart' hl,wpAny_pyIter_tuple hT
   exact ⟨_,rfl,q⟩
section
variable {prog:Program} {w:World} {A:Around} {E:Value → Shared → Prop} {s:Shared}
theorem b1b {l:Addr} {its:Array Value} {Q:Value → Shared → Prop} (hT:s.heap.IsTuple l its)
  (h:∀ h',IsEnum h' (s.heap.objs.size + 1) s.heap.objs.size 0 .none → h'.IsTupleIter s.heap.objs.size l 0 →
   (∀ b o,s.heap.get? b = some o → h'.get? b = some o) → Q (.ref (s.heap.objs.size + 1)) { s with heap:=h' }):wpAny (model prog w) A (call (.type "enumerate") [.ref l]) Q E s:=by
 obtain ⟨⟨c,dc,dt,sl⟩,hl,hc,n,hd⟩:=hT
 replace hc:c = .type "tuple" := hc
 replace hd:dt = .seq its n:=hd
 subst hc hd
 refine callType_new F.called_enumerate (by decide) (F.typeCall_enumerate_1 _) (F.newCall_enumerate_1 _) (fun o=>F.args_object_init_2 o _) F.entry_enumerate_new (b3n l its n dc sl) ⟨hl,?_⟩
 have hz:(s.heap.push (a0e l)).objs.size = s.heap.objs.size + 1:=Heap.size_push ..
 show _ ∧ _
 rw [hz]
 have he:IsEnum ((s.heap.push (a0e l)).push (a3I s.heap.objs.size)) (s.heap.objs.size + 1) s.heap.objs.size 0 .none:=by
  have z:=Heap.get?_push_size (s.heap.push (a0e l)) (o:=a3I s.heap.objs.size) rfl
  rw [hz] at z; exact z
 exact ⟨⟨_,he,rfl⟩,h _ he ⟨_,Heap.get?_push_of_some _ (Heap.get?_push_size _ rfl),rfl,rfl⟩ fun b o x=>Heap.get?_push_of_some _ (Heap.get?_push_of_some _ x)⟩
theorem b6l {it l:Addr} {its:Array Value} (hh:A.handled = none) (hne:l ≠ it):Draws prog w A it [it,l] its.size (fun i x=>its[i]? = some x) (fun i h=>h.IsTupleIter it l i ∧ h.IsTuple l its) where
 live:=fun i h st=>by obtain ⟨o,q,_⟩:=st.1; exact ⟨o,q⟩
 frame:=fun i h h' st k=>by
  obtain ⟨⟨o,q,r⟩,⟨o',q',r'⟩⟩:=st
  exact ⟨⟨o,k it (by simp) o q,r⟩,⟨o',k l (by simp) o' q',r'⟩⟩
 item:=fun i s Q E hi st hQ=>DL.nextOf_tup_item st.1 st.2 (Array.getElem?_eq_getElem hi) fun h' a hs=>hQ _ h' s.toks (Array.getElem?_eq_getElem hi) ⟨a,st.2.extBut hs.extBut hne⟩ hs
 done:=fun s Q E st hE=>DL.nextOf_tup_end hh st.1 st.2 (by simp) hE
end
noncomputable def X7 (K:PySem.W.Frag) (a:Addr):It:=
 ⟨fun i H=>∃ xs x,SqT K H a xs ∧ xs[i]? = some x,fun i H v H'=>∃ p x,H p = none ∧ v = .ref p ∧ H' = upd H p (.tup [.int (i:Int),x]) ∧ ∀ xs,SqT K H a xs → xs[i]? = some x,fun i H=>∃ xs,SqT K H a xs ∧ xs.length ≤ i⟩
theorem b33 {P:Program} {w:World} {K:PySem.W.Frag} {elts:List Expr} {x1} {pos:Pos} (a e it:Addr) (hne:e ≠ it):Turn P w K (.Tuple elts x1 pos) (X7 K a) [e,it] e (fun i h=>(∃ old,IsEnum h e it ((i:Nat):Int) old) ∧ h.IsTupleIter it a i) where
 mem:=by simp
 obj:=fun i h st b hb=>by
  obtain ⟨⟨old,he⟩,hi⟩:=st
  simp only [List.mem_cons,List.not_mem_nil,or_false] at hb
  rcases hb with rfl | rfl
  ·exact ⟨_,he,fun v z=>by
    have z':Data.fields _ = Data.cell v:=z
    cases z'⟩
  ·obtain ⟨o,q,c,d⟩:=hi
   exact ⟨o,q,fun v z=>by rw [d] at z; cases z⟩
 keep:=fun i h h' st k=>by
  obtain ⟨⟨old,he⟩,o,q,r⟩:=st
  exact ⟨⟨old,k e (by simp) _ he⟩,o,k it (by simp) o q,r⟩
 item:=by
  intro X hP hw hK hc i pins s σ H E I hf st hg
  subst hP hw hK
  obtain ⟨xs,x,hq,hx⟩:=hg
  obtain ⟨⟨old,he⟩,hit⟩:=st
  obtain ⟨its,rv,p,hz⟩:=I.tuple hq
  obtain ⟨u,hu,ru⟩:=rv.get hx
  have fe:=hf e (by simp)
  have fi:=hf it (by simp)
  have hes:e < s.heap.objs.size:=Heap.lt_size he
  have his:it < s.heap.objs.size:=by obtain ⟨o,q,_⟩:=id hit; exact Heap.lt_size q
  have hai:a ≠ it:=fun z=>by
   obtain ⟨o,q,c,_⟩:=id hit
   obtain ⟨o',q',c',_⟩:=id p
   rw [z,q] at q'; cases q'
   rw [c] at c'; exact absurd c' (by decide)
  have hea:e ≠ a:=fun z=>by
   obtain ⟨o',q',c',_⟩:=id p
   rw [← z] at q'
   have he':=he.symm.trans q'
   cases he'
   exact absurd (show Value.type "enumerate" = Value.type "tuple" from c') (by decide)
  have hil:i < its.toArray.size:=by
   rw [List.size_toArray]
   exact (List.getElem?_eq_some_iff.mp hu).1
  refine wpAny_pyNext_enum_itemD (b6l (l:=a) (its:=its.toArray) (I.ok.hd hc) hai) he ⟨hit,p⟩ hil hne (by simp [hne,hea]) fun v h₁ tk hv heo hit₁ ht₁ hz₁ hk₁=>?_
  have ev:v = u:=by
   have hv:its[i]? = some v:=by simpa using hv
   rw [hu] at hv; exact (Option.some.inj hv).symm
  subst ev
  refine ⟨_,rfl,wpAny_letOwnedTupleGo_enum heo fun h₂ he₂ hs₂=>?_⟩
  replace hs₂:Heap.SameBut e h₁ h₂:=hs₂
  have hn:H s.heap.objs.size = none:=I.hok.fresh (Nat.le_refl _)
  have I1:Inv X pins σ (upd H s.heap.objs.size (.tup [.int (i:Int),x])) { s with heap:=s.heap.push { cls:=.type "tuple",data:=.seq #[.int i tk,v] },toks:=tk }:=
   I.laid (t':=tk) (fun b o q=>Heap.get?_push_of_some _ q) (Nat.le_refl _) ⟨by show 2 ≤ sizeLine; decide,[.int i tk,v],.cons ⟨_,rfl⟩ (.cons ru .nil),⟨_,Heap.get?_push_size _ rfl,rfl,_,rfl⟩⟩
  have up:∀ b,b < s.heap.objs.size → E3 X pins H b → E3 X pins (upd H s.heap.objs.size (.tup [.int (i:Int),x])) b:=fun b hb f=>⟨by rw [m9 (Nat.ne_of_lt hb)]; exact f.1,f.2⟩
  have I2:=I1.turned2 (h':=h₂) (t':=tk + 1) (a:=e) (b:=it) (fun c o ce ci q=>by
   rcases Heap.get?_push_cases q with ⟨rfl,rfl⟩ | q1
   ·exact (hs₂.2 _ ce).trans ht₁
   ·exact (hs₂.2 _ ce).trans (hk₁ c o ce ci q1)) (up e hes fe) (up it his fi)
  refine ⟨.ref s.heap.objs.size,_,I2,rfl,⟨_,x,hn,rfl,rfl,fun ys hy=>by rw [I.tuple_inj hy hq]; exact hx⟩,⟨⟨v,?_⟩,?_⟩,fun b hb=>?_⟩
  ·have:((i + 1:Nat):Int) = (i:Int) + 1:=by push_cast; rfl
   rw [this]; exact he₂
  ·obtain ⟨o,q,r⟩:=hit₁.1
   exact ⟨o,hs₂.extBut _ _ (Ne.symm hne) q,r⟩
  ·simp only [List.mem_cons,List.not_mem_nil,or_false] at hb
   rcases hb with rfl | rfl
   ·exact (up _ hes fe).1
   ·exact (up _ his fi).1
 done:=by
  intro X hP hw hK hc i pins s σ H E I hf st hg
  subst hP hw hK
  obtain ⟨xs,hq,hx⟩:=hg
  obtain ⟨⟨old,he⟩,hit⟩:=st
  obtain ⟨its,rv,p,hz⟩:=I.tuple hq
  obtain ⟨f0,f1,f2,f3,f4,f5⟩:=hf it (by simp)
  have hl:=rv.length
  unfold pyNext
  refine wpAny_bind (wpAny_attempt (wpAny_callSpecial?_slot (name:=Str.ofString "__next__") ⟨_,he,rfl⟩ F.slot_enumerate_next (wpAny_call_entry F.slot_enumerate_next ⟨_,he,rfl⟩ F.entry_enumerate_next ?_ (F.args_enumerate_next_1 _))))
  show wpAny _ _ (field (.ref e) 2 >>= fun v=>_) _ _ _
  refine wpAny_bind (wpAny_field he rfl (x:=.ref it) rfl ?_)
  refine wpAny_bind (DL.nextOf_tup_end (I.ok.hd hc) hit p (by simp; omega) fun h' y eb hy=>?_)
  obtain ⟨o,ho,hcl⟩:=hy
  refine wpAny_bind (wpAny_isInstance (T := "StopIteration") (b:=true) ⟨o,ho,hcl⟩ isSubtype_stop ?_)
  exact wpAny_pure ⟨rfl,I.turned (t':=s.toks) (fun b o hb q=>eb b o hb q) f0 f1 f3 f4 f5⟩
 self:=fun _ _ _ _ _ st h=>by obtain ⟨⟨old,he⟩,_⟩:=st; exact wpAny_pyIter_enum he h
section
variable {X:Cx}
noncomputable def a9B (K:PySem.W.Frag) (ta:TA):TI:=fun σ H R=>ta σ H fun vs H1=>∃ a,vs = [.ref a] ∧ (∃ xs,SqT K H1 a xs) ∧ R (X7 K a) H1
theorem b4u {a:Expr} {ta:TA} {p pos pt:Pos} {elts:List Expr} {x1} (hg:Gl X "enumerate") (hm:X.mg "enumerate" = none) (ha:PA X [a] ta) (hs:starEach [a] X.env = [(false,eval a X.env)]:=by rfl):PI X (.Tuple elts x1 pt) (.Call (.Name "enumerate" p) [a] [] pos) (a9B X.K ta):=by
 intro pins s σ H R I h
 refine Call_ (P9 I hg hm b2A (PyProof.Rows.callWith_type1 (thn (ha pos pins s σ H _ I h) fun us s1 ⟨vs,H1,I1,r1,q1⟩=>?_) hs rfl))
 obtain ⟨l,e,⟨xs,hq⟩,q⟩:=q1
 subst e
 cases r1 with
 | cons r rr=>
  cases rr
  cases r
  obtain ⟨its,rv,pp,hz⟩:=I1.tuple hq
  refine b1b pp fun h' he hit hk=>wpAny_pyIter_enum he ?_
  refine ⟨s1.heap.objs.size + 1,[s1.heap.objs.size + 1,s1.heap.objs.size],_,_,H1,rfl,I1.kept (t':=s1.toks) hk,b33 l (s1.heap.objs.size + 1) s1.heap.objs.size (Nat.succ_ne_self _),⟨⟨_,he⟩,hit⟩,fun b hb=>?_,q⟩
  simp only [List.mem_cons,List.not_mem_nil,or_false] at hb
  rcases hb with rfl | rfl
  ·exact I1.fpOk (Nat.le_succ _) (I1.hok.fresh (Nat.le_succ _))
  ·exact I1.fpOk (Nat.le_refl _) (I1.hok.fresh (Nat.le_refl _))
theorem b2F {K:PySem.W.Frag} {a:Addr} {xs:List V} {g:TG} {tb:TS} {D:Ends} {σ:St} {H:Hp} (Pv:Nat → St → Hp → Prop) (h0:Pv 0 σ H) (hl:∀ i σ H,i ≤ xs.length → Pv i σ H → SqT K H a xs)
  (hs:∀ i x p σ H,xs[i]? = some x → H p = none → Pv i σ H → g (.ref p) σ (upd H p (.tup [.int (i:Int),x])) fun σ2 H2=>tb { D with nx:=Pv (i + 1),ct:=Pv (i + 1),bk:=D.nx } σ2 H2) (hd:∀ σ H,Pv xs.length σ H → D.nx σ H) :
  ∃ W:Nat → Nat → St → Hp → Prop,(∃ m,W 0 m σ H) ∧ ∀ i m σ H,W i m σ H →
   ((X7 K a).stop i H ∧ D.nx σ H) ∨ ((X7 K a).go i H ∧ ∃ N:St → Hp → Prop,(∀ σ' H',N σ' H' → ∃ m',m' < m ∧ W (i + 1) m' σ' H') ∧ ∀ x H',(X7 K a).yld i H x H' → g x σ H' fun σ2 H2=>tb { D with nx:=N,ct:=N,bk:=D.nx } σ2 H2):=by
 refine ⟨fun i m σ H=>m = xs.length - i ∧ i ≤ xs.length ∧ Pv i σ H,⟨xs.length,by simp,Nat.zero_le _,h0⟩,?_⟩
 rintro i m σ H ⟨rfl,hi,p⟩
 have q:=hl i σ H hi p
 by_cases hlt:i < xs.length
 ·refine .inr ⟨⟨xs,xs[i],q,by simp [hlt]⟩,Pv (i + 1),fun σ' H' p'=>⟨xs.length - (i + 1),by omega,rfl,hlt,p'⟩,fun v H' y=>?_⟩
  obtain ⟨pp,x,hp,rfl,rfl,y⟩:=y
  exact hs i x pp σ _ (y xs q) hp p
 ·have e:i = xs.length:=by omega
  subst e
  exact .inl ⟨⟨xs,q,Nat.le_refl _⟩,hd σ H p⟩
end
end L2
namespace DL
open PySem PySem.Spec L2 PyProof.Rows
noncomputable def a0d (f:DA) (t:D → DS → Option DS) (b:DM):DM:=fun s=>(f s).bind fun x=>match x.1 with
 | [.tup ds]=>u9 t b (M1 ds) x.2
 | _=>none
theorem b3O {f:DA} {t:D → DS → Option DS} {b:DM} {s:DS} {r:Fl × DS} (q:a0d f t b s = some r):∃ ds s1,f s = some ([.tup ds],s1) ∧ u9 t b (M1 ds) s1 = some r:=by
 refine t9 q fun xs s1 h1 h2=>?_
 cases xs with
 | nil=>cases h2
 | cons d xs=>
  cases xs with
  | cons _ _=>cases d <;> cases h2
  | nil=>
   cases d with
   | tup ds=>exact ⟨ds,s1,h1,h2⟩
   | _=>cases h2
theorem b1E {f:DA} {t:D → DS → Option DS} {b:DM} {s s1:DS} {ds:List D} (h:f s = some ([.tup ds],s1)):a0d f t b s = u9 t b (M1 ds) s1:=by
 unfold a0d
 rw [h,Option.bind_some]
section
variable {X:Cx} {g:Gh} {e:Expr} {body:List Stmt} {f:DA} {t:D → DS → Option DS} {b:DM} {pos p1 p2 pt:Pos} {elts:List Expr} {x1:Nat}
theorem b41 (hp:PassesOwn (model X.prog X.w) X.A X.env X.xe) (hc:X.calm = true) (hgl:Gl X "enumerate") (hm:X.mg "enumerate" = none) (he:AO X g [e] f) (hg:GO X g (.Tuple elts x1 pt) t) (hb:SSO X g body b)
  (hst:starEach [e] X.env = [(false,eval e X.env)]:=by rfl) (hs:∀ x,foldedSetIterable (.Call (.Name "enumerate" p1) [e] [] p2) X.env x = pure x:=by intro _; rfl) :
  SO X g (.For (.Tuple elts x1 pt) (.Call (.Name "enumerate" p1) [e] [] p2) body [] pos) (a0d f t b):=SO.w (a00 hp hc (b4u hgl hm he.pe hst) hg.pe hb.pe hs) fun E σ H hQ=>by
 refine hQ.elim fun fa O s fl sf I q k=>?_
 obtain ⟨ds,s1,h1,h2⟩:=b3O q
 refine ⟨fa,O,s,_,s1,I,h1,fun vs H1 f1 O1 a1 I1 r=>?_⟩
 have k1:=k.shift a1.stp
 ·simp only [Reps,Rep] at r
  obtain ⟨v,ys,rfl,⟨a,xs,rfl,q,w⟩,rfl⟩:=r
  refine ⟨a,rfl,⟨xs,q⟩,b2F (xs:=xs) (PvD X.K g f1 O1 H1 t b (M1 ds) fl sf) ⟨f1,O1,s1,Stp.refl,I1,h2⟩ ?_ ?_ ?_⟩
  ·rintro i σ' H' _ ⟨fa',O',s',st,I',e⟩
   exact (I1.car st).tp a xs q
  ·intro i x p σ' H' hx hpn h
   obtain ⟨d,hd,rd⟩:=Reps.get' w hx
   have h':PvD X.K g f1 O1 H1 t b (M1 ds) fl sf i σ' (upd H' p (.tup [.int (i:Int),x])):=by
    obtain ⟨fa',O',s',st,I',e⟩:=h
    exact ⟨fa',O',s',st.trans (A3 hpn).stp,I'.new hpn,e⟩
   refine Y9 k1 (a7r hd) (fun fa' O' st=>?_) h'
   simp only [Rep,Reps]
   exact ⟨p,[.int (i:Int),x],rfl,SqT.of u8,_,_,rfl,rfl,_,_,rfl,Rep.stp I1 st rd,rfl⟩
  ·intro σ' H' h
   refine X4 k1 ?_ h
   unfold M1
   rw [List.length_map,List.length_zipIdx,w.length]
   exact Nat.le_refl _
end
end DL
namespace HT2
open PySem PySem.SeqAt PyProof.Rows
open AutoSeq1 (wpAny_loadPart')
theorem b2b (l:Addr) (items:Array Value) (n:Nat) (dd:Option Addr) (sl:Array (Option Value)) (t:Tok) :
  Meets (Builtin.«tuple.__mul__» ⟨[.ref l,.int 1 t],[]⟩) (fun _ R s=>s.heap.get? l = some { cls:=.type "tuple",dict:=dd,data:=.seq items n,slots:=sl } ∧ R (.ok (.ret (Value.ref l))) { s with heap:=s.heap,toks:=s.toks }):=
 .of_wp fun prog w A R s h=>by
  obtain ⟨hp,g,d,tk,os⟩:=s; obtain ⟨hl,h⟩:=h
  have f1:=AutoSeq1.idx_int
  have f2:=AutoSeq1.sub_tuple_tuple
  have hc:(items.isEmpty || (1:Int) == 1) = true:=by simp
  wp_walk using wpAny_loadPart' hl
  exact ⟨_,rfl,h⟩
theorem b0u (a:Int) (t:Tok) (l:Addr) (items:Array Value) (n:Nat) (dd:Option Addr) (sl:Array (Option Value)) :
  Meets (Builtin.«int.__rmul__» ⟨[.int a t,.ref l],[]⟩) (fun _ R s=>s.heap.get? l = some { cls:=.type "tuple",dict:=dd,data:=.seq items n,slots:=sl } ∧ R (.ok (.ret Value.notImplemented)) s):=
 .of_wp fun prog w A R s h=>by obtain ⟨hp,g,d,tk,os⟩:=s; obtain ⟨hl,h⟩:=h; wp_walk using wpAny_loadPart' hl; exact ⟨_,rfl,h⟩
theorem b5T (l:Addr) (items:Array Value) (n:Nat) (dd:Option Addr) (sl:Array (Option Value)) (x:Int) (t:Tok) (h2:2 ≤ x) (h3:x < 2 ^ 63) (hi:¬ items.isEmpty = true) (hz:items.size * x.toNat ≤ sizeLine) :
  Meets (Builtin.«tuple.__mul__» ⟨[.ref l,.int x t],[]⟩) (fun _ R s=>s.heap.get? l = some { cls:=.type "tuple",dict:=dd,data:=.seq items n,slots:=sl } ∧ R (.ok (.ret (Value.ref s.heap.objs.size))) { s with heap:=s.heap.push { cls:=Value.type "tuple",data:=Data.seq (List.foldl (fun x1 x2=>x1 ++ x2) #[] (List.replicate x.toNat items)) },toks:=s.toks }):=
 .of_wp fun prog w A R s h=>by
  obtain ⟨hp,g,d,tk,os⟩:=s; obtain ⟨hl,h⟩:=h
  have f1:=AutoSeq1.idx_int
  have f2:=AutoSeq1.sub_tuple_tuple
  have f3:¬ (decide (x < -2 ^ 63) || decide (x ≥ 2 ^ 63)) = true:=by simp; omega
  have f4:¬ (items.isEmpty || x == 1) = true:=by simp at hi ⊢; exact ⟨hi,by omega⟩
  have f5:¬ (decide (x ≤ 0) || items.isEmpty) = true:=by simp at hi ⊢; exact ⟨by omega,hi⟩
  have e0:(items.size:Int) * x = ((items.size * x.toNat:Nat):Int):=by rw [Int.natCast_mul,Int.toNat_of_nonneg (by omega)]
  have hz':items.size * x.toNat ≤ 16777216:=by rw [← sizeLine_eq]; exact hz
  have f6:¬ (items.size:Int) * x > (2 ^ 63 - 1) / 8:=by rw [e0]; omega
  have f7:¬ Builtin.Tuple.tupleTooMany ((items.size:Int) * x) = true:=by rw [e0]; unfold Builtin.Tuple.tupleTooMany; rw [decide_eq_true_eq]; omega
  have hsz:(List.foldl (fun x1 x2=>x1 ++ x2) #[] (List.replicate x.toNat items)).size ≤ sizeLine:=by rw [AutoListH.size_joined,Array.size_empty,Nat.zero_add,Nat.mul_comm]; exact hz
  wp_walk using wpAny_loadPart' hl
  refine wpAny_ite_false (decide_eq_false f3) ?_
  wp_walk using wpAny_loadPart' hl
  refine wpAny_ite_false (decide_eq_false f4) ?_
  wp_walk using wpAny_loadPart' hl
  refine wpAny_ite_false (decide_eq_false f5) ?_
  wp_walk using wpAny_loadPart' hl
  refine wpAny_ite_false (decide_eq_false f6) ?_
  wp_walk using wpAny_loadPart' hl
  refine wpAny_ite_false (decide_eq_false f7) ?_
  wp_walk using wpAny_loadPart' hl
  exact ⟨_,rfl,h⟩
theorem b1d:fillsNumberSlot (.type "tuple") "mul" = pure false:=
 PySem.fillsNumberSlot_seq (id := "tuple.__mul__") (r:=some (.builtin "tuple.__rmul__")) F.slot_tuple_mul.lookup (by decide +kernel) F.slot_tuple_rmul.lookup (by decide +kernel)
theorem b6J:seqRepeat? (.type "tuple") = pure (some (.builtin "tuple.__mul__")):=by
 unfold seqRepeat?
 rw [PySem.seqSlot_of (T := "tuple") (name := "__mul__") (id := "tuple.__mul__") F.slot_tuple_mul.lookup (by decide +kernel),PySem.seqSlot_of (T := "tuple") (name := "__rmul__") (id := "tuple.__rmul__") F.slot_tuple_rmul.lookup (by decide +kernel)]
 rfl
theorem rep_tup {prog:Program} {w:World} {A:Around} {E:Value → Shared → Prop} {s:Shared} {t:Addr} {vs:List Value} {k:Int} {u:Tok} {Q:Value → Shared → Prop} (ht:IsTup s.heap t vs.toArray) (hv:vs ≠ []) (h1:1 ≤ k) (h3:k < 2 ^ 63) (hz:vs.length * k.toNat ≤ sizeLine)
  (q1:k = 1 → Q (.ref t) s) (q2:Q (.ref s.heap.objs.size) { s with heap:=s.heap.push { cls:=.type "tuple",data:=.seq (List.replicate k.toNat vs).flatten.toArray } }):wpAny (model prog w) A (binaryOp .Mult (.ref t) (.int k u)) Q E s:=by
 obtain ⟨⟨cls,dd,data,sl⟩,ho,hc,n,hd⟩:=id ht
 simp only at hc hd
 subst hc hd
 refine wpAny_binaryOp_repeat_ref (T := "tuple") (U := "int") (by decide) ⟨_,ho,rfl⟩ (fun s'=>typeIs_int s' k u) b1d F.fills_int_mul F.slot_int_rmul b6J F.slot_int_index.lookup
  (call_meets F.slot_int_rmul (typeIs_int s k u) F.entry_int_rmul (F.args_int_rmul_2 _ _) (b0u k u t vs.toArray n dd sl)
   ⟨ho,rfl,⟨_,ho,rfl⟩,?_⟩)
 by_cases e:k = 1
 ·subst e
  exact call_meets F.slot_tuple_mul ⟨_,ho,rfl⟩ F.entry_tuple_mul (F.args_tuple_mul_2 _ _) (b2b t vs.toArray n dd sl u) ⟨ho,q1 rfl⟩
 ·refine call_meets F.slot_tuple_mul ⟨_,ho,rfl⟩ F.entry_tuple_mul (F.args_tuple_mul_2 _ _) (b5T t vs.toArray n dd sl k u (by omega) h3 (by simpa using hv) (by rw [List.size_toArray]; exact hz)) ⟨ho,?_⟩
  have hn:List.foldl (fun x1 x2=>x1 ++ x2) #[] (List.replicate k.toNat vs.toArray) = (List.replicate k.toNat vs).flatten.toArray:=by
   have:=L2.foldl_rep vs k.toNat []
   rw [List.nil_append] at this
   exact this
  rw [hn]
  exact q2
end HT2
namespace DL
open PySem PySem.Spec L2
noncomputable def a8n (K:PySem.W.Frag):R2:=fun x y H Q=>∃ a k xs,x = .ref a ∧ y = .int k ∧ SqT K H a xs ∧ xs ≠ [] ∧ 1 ≤ k ∧ k < 2 ^ 63 ∧ xs.length * k.toNat ≤ sizeLine ∧
 (k = 1 → Q (.ref a) H) ∧ ∀ p,H p = none → Q (.ref p) (upd H p (.tup (List.replicate k.toNat xs).flatten))
theorem b3E {X:Cx}:OpR X (binaryOp .Mult) (a8n X.K):=by
 intro pins s σ H x y v u Q I rx ry h
 obtain ⟨a,k,xs,rfl,rfl,ha,hx,h1,h3,hz,q1,q2⟩:=h
 cases rx
 obtain ⟨t,rfl⟩:=ry
 obtain ⟨its,r1,p1,_⟩:=I.tuple ha
 refine HT2.rep_tup p1 (fun z=>hx (r1.nil_iff.mp z)) h1 h3 (by rw [← r1.length]; exact hz) (fun z=>⟨.ref a,H,I,rfl,q1 z⟩) ?_
 refine ⟨.ref s.heap.objs.size,_,I.laid (t':=s.toks) (o:=.tup (List.replicate k.toNat xs).flatten) (fun b ob q=>Heap.get?_push_of_some _ q) (Nat.le_refl _) ?_,rfl,q2 _ (I.hok.fresh (Nat.le_refl _))⟩
 exact ⟨by rw [a6r,Nat.mul_comm]; exact hz,_,r1.rep k.toNat,PyProof.Rows.IsTup.new _ _⟩
noncomputable def a0p:D → D → Option D
 | .tup xs,.int k=>if xs ≠ [] ∧ 1 ≤ k ∧ k < 2 ^ 63 ∧ xs.length * k.toNat ≤ sizeLine then some (.tup (List.replicate k.toNat xs).flatten) else none
 | _,_=>none
theorem b32 {K:PySem.W.Frag}:R2D K (a8n K) a0p:=by
 intro g σ H fa O s x y d1 d2 d Q I r1 r2 e k
 cases d1 with
 | tup as=>
  cases d2 with
  | int j=>
   have e:(if as ≠ [] ∧ 1 ≤ j ∧ j < 2 ^ 63 ∧ as.length * j.toNat ≤ sizeLine then some (D.tup (List.replicate j.toNat as).flatten) else none) = some d:=e
   by_cases h:as ≠ [] ∧ 1 ≤ j ∧ j < 2 ^ 63 ∧ as.length * j.toNat ≤ sizeLine
   ·rw [if_pos h] at e
    cases e
    simp only [RepB,Rep] at r1 r2
    obtain ⟨a,xs,rfl,qa,wa⟩:=r1
    subst r2
    refine ⟨a,j,xs,rfl,rfl,qa,fun z=>h.1 ((a3K wa).mp z),h.2.1,h.2.2.1,by rw [wa.length]; exact h.2.2.2,fun z=>?_,fun p hp=>?_⟩
    ·subst z
     refine k _ H StE.refl I ?_
     have e1:(List.replicate (Int.toNat 1) as).flatten = as:=by simp
     simp only [Rep,e1]
     exact ⟨a,xs,rfl,qa,wa⟩
    ·have a2:StE fa O H fa O (upd H p (.tup (List.replicate j.toNat xs).flatten)):=A3 hp
     refine k _ _ a2 (I.new hp) ?_
     simp only [Rep]
     exact ⟨p,_,rfl,SqT.of u8,Reps.stp I a2.stp (wa.flat j.toNat)⟩
   ·rw [if_neg h] at e; cases e
  | _=>cases e
 | _=>cases e
end DL
namespace T
open PySem PySem.Spec L2 DL
noncomputable abbrev a9p:DM:=(c7 (e8 (dOp v6 (dL 2) (dL 3)) (c8 4)) (c7 (e8 (dV 3) (c8 2)) (e8 (dV 4) (c8 3))))
noncomputable def a1b:DM:=(c7 (e8 (dCB (one M0) (a7 (dL 0) a9)) (c8 2)) (c7 (e8 (dCB (one M0) (a7 (dL 1) a9)) (c8 3)) (c7 (F9 (dB (dOp pNe (dL 3) (dC (.int 0)))) (a9p)) (e7 (dV 2)))))
noncomputable def D0:DFn:=mFn 5 (a1b)
noncomputable abbrev Y0 (m_divisor_of_two:DFn):DM:=(e8 (e5 m_divisor_of_two (a7 (dV 1) (a7 (dV 2) a9))) (c8 1))
noncomputable def a03 (m_divisor_of_two:DFn):DM:=(c7 (e8 (dC (.int 0)) (c8 1)) (c7 (C0 (dV 0) (c8 2) (Y0 m_divisor_of_two)) (e7 (dV 1))))
noncomputable def K0 (m_divisor_of_two:DFn):DFn:=mFn 3 (a03 m_divisor_of_two)
noncomputable def a3X (m_divisor:DFn):DM:=(c7 (e8 (e5 m_divisor (a7 (dV 0) a9)) (c8 1)) (c7 (i7 (dB (dOp (j6 (fun i j=>decide (i < j))) (dOp pIx (dL 0) (dUn j9 (dC (.int 1)))) (dC (.int 0)))) (e8 (dUn j9 (dL 1)) (c8 1)) i8) (e7 (dCB (one M9) (a7 (j8 (A6 [1] (B1 (dV 0)) w8 (dOp C3 (dL 0) (dL 1)))) a9)))))
noncomputable def a3f (m_divisor:DFn):DFn:=mFn 2 (a3X m_divisor)
noncomputable def a3x:DM:=(e7 (o8 (dUn (u7 "int") (dL 0)) (r8 (dUn (u7 "bool") (dL 0)))))
noncomputable def M4:DFn:=mFn 1 (a3x)
noncomputable def a0f (m_divisor:DFn) (m_is_whole:DFn):DM:=(c7 (i7 (dOr (j7 (dTr (dUn (u7 "tuple") (dL 0)))) (dB (dOp pNe (dCB (one i9) (a7 (dL 0) a9)) (dL 1)))) (e7 (dC (.bl false))) i8) (c7 (i7 (j7 (dTr (dCB (one Z9) (a7 (j8 (A6 [] (B1 (dV 0)) w8 (e5 m_is_whole (a7 (dV 0) a9)))) a9)))) (e7 (dC (.bl false))) i8) (e7 (o8 (dOp (j6 (fun i j=>decide (j ≤ i))) (dOp pIx (dL 0) (dUn j9 (dC (.int 1)))) (dC (.int 1))) (dOp pEq (e5 m_divisor (a7 (dV 0) a9)) (dC (.int 1)))))))
noncomputable def a4h (m_divisor:DFn) (m_is_whole:DFn):DFn:=mFn 2 (a0f m_divisor m_is_whole)
noncomputable def a1q (m_is_lowest:DFn):DM:=(e7 (e5 m_is_lowest (a7 (dV 0) (a7 (dC (.int 3)) a9))))
noncomputable def a4o (m_is_lowest:DFn):DFn:=mFn 1 (a1q m_is_lowest)
noncomputable def U9:DM:=(c7 (i7 (dB (dOp (j6 (fun i j=>decide (j < i))) (dL 0) (dC (.int 0)))) (e7 (dC (.int 1))) i8) (c7 (i7 (dB (dOp (j6 (fun i j=>decide (i < j))) (dL 0) (dC (.int 0)))) (e7 (dUn j9 (dC (.int 1)))) i8) (e7 (dC (.int 0)))))
noncomputable def R7:DFn:=mFn 1 (U9)
noncomputable def a0w (m_sign:DFn):DM:=(c7 (e8 (dOp o7 (dOp pIx (dL 0) (dC (.int 0))) (dOp l8 (dOp o7 (dOp pIx (dL 1) (dC (.int 1))) (dOp pIx (dL 2) (dC (.int 2)))) (dOp o7 (dOp pIx (dL 2) (dC (.int 1))) (dOp pIx (dL 1) (dC (.int 2)))))) (c8 3)) (c7 (e8 (dOp l8 (dL 3) (dOp o7 (dOp pIx (dL 0) (dC (.int 1))) (dOp l8 (dOp o7 (dOp pIx (dL 1) (dC (.int 0))) (dOp pIx (dL 2) (dC (.int 2)))) (dOp o7 (dOp pIx (dL 2) (dC (.int 0))) (dOp pIx (dL 1) (dC (.int 2))))))) (c8 3)) (c7 (e8 (dOp j4 (dL 3) (dOp o7 (dOp pIx (dL 0) (dC (.int 2))) (dOp l8 (dOp o7 (dOp pIx (dL 1) (dC (.int 0))) (dOp pIx (dL 2) (dC (.int 1)))) (dOp o7 (dOp pIx (dL 2) (dC (.int 0))) (dOp pIx (dL 1) (dC (.int 1))))))) (c8 3)) (e7 (e5 m_sign (a7 (dV 3) a9))))))
noncomputable def W7 (m_sign:DFn):DFn:=mFn 4 (a0w m_sign)
noncomputable def U4:DM:=(c7 (i7 (dTr (dL 1)) (e7 (j8 (dCF P2 (a7 (dL 0) (a7 (dOp j4 (dSl (dL 0) (dAt (dC (.int 1))) dNo) (dSl (dL 0) dNo (dAt (dC (.int 1))))) a9))))) i8) (e7 (j8 (dCF P2 (a7 (dL 0) (a7 (dSl (dL 0) (dAt (dC (.int 1))) dNo) a9))))))
noncomputable def M8:DFn:=mFn 2 (U4)
noncomputable abbrev b4G:DM:=(o0 0 1 (a7 (dV 1) (a7 (dOp v6 (dL 0) (dL 1)) a9)))
noncomputable def a3O:DM:=(c7 (o0 0 1 (a7 (dCB (one M0) (a7 (dL 0) a9)) (a7 (dCB (one M0) (a7 (dL 1) a9)) a9))) (c7 (F9 (dB (dOp (j6 (fun i j=>decide (j < i))) (dL 1) (dC (.int 0)))) (b4G)) (e7 (dV 0))))
noncomputable def b1t:DFn:=mFn 2 (a3O)
noncomputable def a14:DM:=(e7 (a04 0))
noncomputable def V2:DFn:=mFn 1 (a14)
noncomputable def Q5:DM:=(c7 (dTP 0 3 (dOp j4 (dTG 0 3) (dC (.int 1)))) (c7 (i7 (dB (dOp (j6 (fun i j=>decide (j < i))) (dTG 0 2) (dC (.int 0)))) (c7 (e8 (dOp v6 (dTG 0 2) (dL 1)) (c8 2)) (c7 (dTP 0 2 (dOp C3 (dTG 0 2) (dL 1))) (e7 (dV 2)))) i8) (c7 (e8 (dTG 0 1) (c8 3)) (c7 (dTP 0 1 (dOp j4 (dL 3) (dC (.int 1)))) (c7 (e8 (dOp pIx (dTG 0 0) (dOp v6 (dL 3) (dCB (one i9) (a7 (dTG 0 0) a9)))) (c8 4)) (c7 (i7 (n8 (dB (dOp (j6 (fun i j=>decide (j ≤ i))) (dL 4) (dOp Y3 (dC (.int 10)) (dC (.int 18))))) (dB (dOp (j6 (fun i j=>decide (i < j))) (dL 3) (dCB (one i9) (a7 (dTG 0 0) a9))))) (c7 (dTP 0 2 (dOp C3 (dL 4) (dL 1))) (e7 (dOp v6 (dL 4) (dL 1)))) i8) (c7 (e8 (dOp v6 (dOp j4 (dOp j4 (dOp o7 (dOp v6 (dL 4) (dC (.int 1000003))) (dC (.int 48271))) (dOp o7 (dC (.int 7919)) (dTG 0 3))) (dC (.int 104729))) (dC (.int 2147483647))) (c8 5)) (c7 (e8 (dOp v6 (dOp j4 (dOp j4 (dOp o7 (dOp C3 (dL 5) (dC (.int 64))) (dC (.int 69621))) (dOp o7 (dOp o7 (dC (.int 31)) (dTG 0 3)) (dTG 0 3))) (dL 3)) (dC (.int 2147483587))) (c8 5)) (e7 (dOp v6 (dOp C3 (dL 5) (dC (.int 64))) (dL 1)))))))))))
noncomputable def X1:DFn:=mFn 6 (Q5)
noncomputable abbrev b4f:DM:=(o0 0 1 (a7 (dV 1) (a7 (dOp v6 (dL 0) (dL 1)) a9)))
noncomputable def a82:DM:=(c7 (o0 0 1 (a7 (dCB (one M0) (a7 (dL 0) a9)) (a7 (dCB (one M0) (a7 (dL 1) a9)) a9))) (c7 (F9 (dB (dOp (j6 (fun i j=>decide (j < i))) (dL 1) (dC (.int 0)))) (b4f)) (e7 (dV 0))))
noncomputable def R4:DFn:=mFn 2 (a82)
noncomputable def a0G (m_law_common:DFn):DM:=(c7 (e8 (e5 m_law_common (a7 (e5 m_law_common (a7 (dV 0) (a7 (dV 1) a9))) (a7 (dV 2) a9))) (c8 3)) (c7 (i7 (dB (dOp (j6 (fun i j=>decide (i < j))) (dL 2) (dC (.int 0)))) (e8 (dOp l8 (dC (.int 0)) (dL 3)) (c8 3)) i8) (e7 (e6 (a7 (dOp C3 (dL 0) (dL 3)) (a7 (dOp C3 (dL 1) (dL 3)) (a7 (dOp C3 (dL 2) (dL 3)) a9)))))))
noncomputable def a3V (m_law_common:DFn):DFn:=mFn 4 (a0G m_law_common)
noncomputable def a7d (m_neighbours:DFn):DM:=(e7 (e5 m_neighbours (a7 (dV 0) (a7 (dC (.bl true)) a9))))
noncomputable def U1 (m_neighbours:DFn):DFn:=mFn 1 (a7d m_neighbours)
noncomputable def M7 (m_law_common:DFn):DM:=(c7 (i7 (dOr (j7 (dTr (dUn (u7 "tuple") (dL 0)))) (dB (dOp pNe (dCB (one i9) (a7 (dL 0) a9)) (dC (.int 3))))) (e7 (dC (.bl false))) i8) (c7 (i7 (dOr (dB (dOp pNe (j8 (A6 [] (B1 (dV 0)) (dOr (j7 (dTr (dUn (u7 "int") (dL 0)))) (dTr (dUn (u7 "bool") (dL 0)))) (dV 0))) (j8 (m6 a9)))) (dB (dOp (j6 (fun i j=>decide (i < j))) (dOp pIx (dL 0) (dC (.int 2))) (dC (.int 1))))) (e7 (dC (.bl false))) i8) (e7 (dOp pEq (e5 m_law_common (a7 (e5 m_law_common (a7 (dOp pIx (dL 0) (dC (.int 0))) (a7 (dOp pIx (dL 0) (dC (.int 1))) a9))) (a7 (dOp pIx (dL 0) (dC (.int 2))) a9))) (dC (.int 1))))))
noncomputable def a4f (m_law_common:DFn):DFn:=mFn 1 (M7 m_law_common)
noncomputable def a38:DM:=(e7 (j8 (A6 [0] (N8 (a7 (dCB (one i9) (a7 (dL 0) a9)) a9)) w8 (e6 (a7 (dOp pIx (dL 1) (dL 0)) (a7 (dOp pIx (dL 1) (dOp v6 (dOp j4 (dL 0) (dC (.int 1))) (dCB (one i9) (a7 (dL 1) a9)))) a9))))))
noncomputable def J5:DFn:=mFn 1 (a38)
noncomputable def a0E:DM:=(c7 (e8 (dOp o7 (dOp pIx (dL 0) (dC (.int 0))) (dOp l8 (dOp o7 (dOp pIx (dL 1) (dC (.int 1))) (dOp pIx (dL 2) (dC (.int 2)))) (dOp o7 (dOp pIx (dL 1) (dC (.int 2))) (dOp pIx (dL 2) (dC (.int 1)))))) (c8 3)) (c7 (e8 (dOp o7 (dOp pIx (dL 0) (dC (.int 1))) (dOp l8 (dOp o7 (dOp pIx (dL 1) (dC (.int 0))) (dOp pIx (dL 2) (dC (.int 2)))) (dOp o7 (dOp pIx (dL 1) (dC (.int 2))) (dOp pIx (dL 2) (dC (.int 0)))))) (c8 4)) (e7 (dOp j4 (dOp l8 (dL 3) (dL 4)) (dOp o7 (dOp pIx (dL 0) (dC (.int 2))) (dOp l8 (dOp o7 (dOp pIx (dL 1) (dC (.int 0))) (dOp pIx (dL 2) (dC (.int 1)))) (dOp o7 (dOp pIx (dL 1) (dC (.int 1))) (dOp pIx (dL 2) (dC (.int 0))))))))))
noncomputable def G1:DFn:=mFn 5 (a0E)
noncomputable def a1z:DM:=(c7 (e8 (dOp l8 (dOp o7 (dOp pIx (dL 0) (dC (.int 0))) (dOp pIx (dL 1) (dC (.int 2)))) (dOp o7 (dOp pIx (dL 1) (dC (.int 0))) (dOp pIx (dL 0) (dC (.int 2))))) (c8 2)) (e7 (p9 (dOp (j6 (fun i j=>decide (i < j))) (dL 2) (dC (.int 0))) (o8 (dOp pEq (dL 2) (dC (.int 0))) (dOp (j6 (fun i j=>decide (i < j))) (dOp o7 (dOp pIx (dL 0) (dC (.int 1))) (dOp pIx (dL 1) (dC (.int 2)))) (dOp o7 (dOp pIx (dL 1) (dC (.int 1))) (dOp pIx (dL 0) (dC (.int 2)))))))))
noncomputable def Q8:DFn:=mFn 3 (a1z)
noncomputable abbrev a1y (m_turn:DFn) (m_edges:DFn):DM:=(i7 (dB (dOp pEq (e5 m_turn (a7 (dV 2) (a7 (dV 3) (a7 (dV 1) a9)))) (dUn j9 (dC (.int 1))))) (e7 (dC (.bl false))) i8)
noncomputable def a1D (m_turn:DFn) (m_edges:DFn):DM:=(c7 (C0 (e5 m_edges (a7 (dV 0) a9)) (k6 2 (j5 (c8 2) (j5 (c8 3) l3))) (a1y m_turn m_edges)) (e7 (dC (.bl true))))
noncomputable def a3i (m_turn:DFn) (m_edges:DFn):DFn:=mFn 4 (a1D m_turn m_edges)
noncomputable abbrev a05 (m_belongs:DFn):DM:=(i7 (dTr (e5 m_belongs (a7 (dV 2) (a7 (dV 1) a9)))) (e7 (dC (.bl true))) i8)
noncomputable def a1H (m_belongs:DFn):DM:=(c7 (C0 (dV 0) (c8 2) (a05 m_belongs)) (e7 (dC (.bl false))))
noncomputable def a2Z (m_belongs:DFn):DFn:=mFn 3 (a1H m_belongs)
noncomputable def a7N:DM:=(e7 (e6 (a7 (dOp l8 (dOp o7 (dOp pIx (dL 0) (dC (.int 1))) (dOp pIx (dL 1) (dC (.int 2)))) (dOp o7 (dOp pIx (dL 0) (dC (.int 2))) (dOp pIx (dL 1) (dC (.int 1))))) (a7 (dOp l8 (dOp o7 (dOp pIx (dL 0) (dC (.int 2))) (dOp pIx (dL 1) (dC (.int 0)))) (dOp o7 (dOp pIx (dL 0) (dC (.int 0))) (dOp pIx (dL 1) (dC (.int 2))))) (a7 (dOp l8 (dOp o7 (dOp pIx (dL 0) (dC (.int 0))) (dOp pIx (dL 1) (dC (.int 1)))) (dOp o7 (dOp pIx (dL 0) (dC (.int 1))) (dOp pIx (dL 1) (dC (.int 0))))) a9)))))
noncomputable def V6:DFn:=mFn 2 (a7N)
noncomputable def a7m (m_upright:DFn):DM:=(e7 (e5 m_upright (a7 (dV 0) (a7 (dV 1) a9))))
noncomputable def a2b (m_upright:DFn):DFn:=mFn 2 (a7m m_upright)
noncomputable def a5w (m_lowest:DFn) (m_upright:DFn):DM:=(e7 (e5 m_lowest (a7 (e5 m_upright (a7 (dV 0) (a7 (dV 1) a9))) a9)))
noncomputable def a37 (m_lowest:DFn) (m_upright:DFn):DFn:=mFn 2 (a5w m_lowest m_upright)
noncomputable abbrev a06 (m_turn:DFn) (m_crossing:DFn) (m_straight:DFn) (m_edges:DFn):DM:=(c7 (e8 (e5 m_turn (a7 (dV 1) (a7 (dV 2) (a7 (dV 5) a9)))) (c8 7)) (c7 (i7 (dB (dOp pNe (dL 7) (dUn j9 (dC (.int 1))))) (C5 4 (dV 5)) i8) (i7 (dB (dOp pEq (dOp o7 (dL 7) (e5 m_turn (a7 (dV 1) (a7 (dV 2) (a7 (dV 6) a9))))) (dUn j9 (dC (.int 1))))) (C5 4 (e5 m_crossing (a7 (dV 3) (a7 (e5 m_straight (a7 (dV 5) (a7 (dV 6) a9))) a9)))) i8)))
noncomputable def a0I (m_turn:DFn) (m_crossing:DFn) (m_straight:DFn) (m_edges:DFn):DM:=(c7 (e8 (e5 m_straight (a7 (dV 1) (a7 (dV 2) a9))) (c8 3)) (c7 (F5 4 (m6 a9)) (c7 (C0 (e5 m_edges (a7 (dV 0) a9)) (k6 2 (j5 (c8 5) (j5 (c8 6) l3))) (a06 m_turn m_crossing m_straight m_edges)) (e7 (dV 4)))))
noncomputable def a2d (m_turn:DFn) (m_crossing:DFn) (m_straight:DFn) (m_edges:DFn):DFn:=mFn 8 (a0I m_turn m_crossing m_straight m_edges)
noncomputable def a0A (m_law_draw:DFn):DM:=(c7 (F5 1 (m6 (a7 (e6 (a7 (dC (.int 1)) (a7 (dC (.int 0)) (a7 (dC (.int 0)) (a7 (dC (.int 1)) a9))))) (a7 (e6 (a7 (dC (.int 1)) (a7 (dUn j9 (dC (.int 1))) (a7 (dC (.int 1)) (a7 (dC (.int 1)) a9))))) (a7 (e6 (a7 (dC (.int 3)) (a7 (dUn j9 (dC (.int 4))) (a7 (dC (.int 4)) (a7 (dC (.int 3)) a9))))) (a7 (e6 (a7 (dC (.int 1)) (a7 (dC (.int 1)) (a7 (dC (.int 0)) (a7 (dC (.int 1)) a9))))) (a7 (e6 (a7 (dC (.int 0)) (a7 (dUn j9 (dC (.int 1))) (a7 (dC (.int 1)) (a7 (dC (.int 0)) a9))))) (a7 (e6 (a7 (dC (.int 2)) (a7 (dC (.int 1)) (a7 (dC (.int 1)) (a7 (dC (.int 1)) a9))))) a9)))))))) (c7 (e8 (dOp pIx (dL 1) (e5 m_law_draw (a7 (dV 0) (a7 (dC (.int 6)) a9)))) (c8 2)) (c7 (e8 (dOp l8 (e5 m_law_draw (a7 (dV 0) (a7 (dC (.int 19)) a9))) (dC (.int 9))) (c8 3)) (c7 (e8 (dOp l8 (e5 m_law_draw (a7 (dV 0) (a7 (dC (.int 19)) a9))) (dC (.int 9))) (c8 4)) (e7 (dOp j4 (dL 2) (e6 (a7 (dV 3) (a7 (dV 4) (a7 (dOp pIx (j8 (m6 (a7 (dC (.int 1)) (a7 (dC (.int 2)) (a7 (dC (.int 3)) (a7 (dC (.int 7)) a9)))))) (e5 m_law_draw (a7 (dV 0) (a7 (dC (.int 4)) a9)))) a9))))))))))
noncomputable def a3D (m_law_draw:DFn):DFn:=mFn 5 (a0A m_law_draw)
noncomputable def a1G (m_law_place:DFn):DM:=(c7 (e8 (dOp j4 (dOp j4 (dOp o7 (dOp pIx (dL 0) (dC (.int 0))) (dL 1)) (dOp o7 (dOp pIx (dL 0) (dC (.int 1))) (dL 2))) (dOp pIx (dL 0) (dC (.int 4)))) (c8 3)) (e7 (e5 m_law_place (a7 (dV 3) (a7 (dOp j4 (dOp j4 (dOp o7 (dOp pIx (dL 0) (dC (.int 2))) (dL 1)) (dOp o7 (dOp pIx (dL 0) (dC (.int 3))) (dL 2))) (dOp pIx (dL 0) (dC (.int 5)))) (a7 (dOp pIx (dL 0) (dC (.int 6))) a9))))))
noncomputable def a28 (m_law_place:DFn):DFn:=mFn 4 (a1G m_law_place)
noncomputable def a0o (m_law_draw:DFn):DM:=(c7 (o0 1 2 (a7 (dOp j4 (dC (.int 1)) (e5 m_law_draw (a7 (dV 0) (a7 (dC (.int 4)) a9)))) (a7 (dOp j4 (dC (.int 1)) (e5 m_law_draw (a7 (dV 0) (a7 (dC (.int 4)) a9)))) a9))) (c7 (F5 3 (m6 (a7 (e6 (a7 (e6 (a7 (dC (.int 0)) (a7 (dC (.int 0)) a9))) (a7 (e6 (a7 (dV 1) (a7 (dC (.int 0)) a9))) (a7 (e6 (a7 (dV 1) (a7 (dV 2) a9))) (a7 (e6 (a7 (dC (.int 0)) (a7 (dV 2) a9))) a9))))) (a7 (e6 (a7 (e6 (a7 (dC (.int 0)) (a7 (dC (.int 0)) a9))) (a7 (e6 (a7 (dV 1) (a7 (dC (.int 0)) a9))) (a7 (e6 (a7 (dC (.int 0)) (a7 (dV 2) a9))) a9)))) (a7 (e6 (a7 (e6 (a7 (dC (.int 0)) (a7 (dC (.int 0)) a9))) (a7 (e6 (a7 (dV 1) (a7 (dC (.int 0)) a9))) (a7 (e6 (a7 (dV 1) (a7 (dV 2) a9))) a9)))) a9))))) (c7 (F5 3 (Y7 a1X (dL 3) (j8 (m6 (a7 (e6 (a7 (e6 (a7 (dC (.int 0)) (a7 (dC (.int 0)) a9))) (a7 (e6 (a7 (dV 1) (a7 (dV 2) a9))) (a7 (e6 (a7 (dC (.int 0)) (a7 (dV 2) a9))) a9)))) (a7 (e6 (a7 (e6 (a7 (dC (.int 0)) (a7 (dC (.int 0)) a9))) (a7 (e6 (a7 (dOp j4 (dL 1) (dC (.int 1))) (a7 (dC (.int 1)) a9))) (a7 (e6 (a7 (dC (.int 1)) (a7 (dOp j4 (dL 2) (dC (.int 1))) a9))) a9)))) (a7 (e6 (a7 (e6 (a7 (dC (.int 0)) (a7 (dC (.int 0)) a9))) (a7 (e6 (a7 (dV 1) (a7 (dC (.int 0)) a9))) (a7 (e6 (a7 (dV 1) (a7 (dV 2) a9))) (a7 (e6 (a7 (dC (.int 0)) (a7 (dV 2) a9))) a9))))) a9))))))) (c7 (C5 3 (e6 (a7 (e6 (a7 (dC (.int 0)) (a7 (dV 2) a9))) (a7 (e6 (a7 (dV 1) (a7 (dC (.int 0)) a9))) (a7 (e6 (a7 (dOp o7 (dC (.int 2)) (dL 1)) (a7 (dV 2) a9))) (a7 (e6 (a7 (dV 1) (a7 (dOp o7 (dC (.int 2)) (dL 2)) a9))) a9)))))) (c7 (C5 3 (e6 (a7 (e6 (a7 (dC (.int 0)) (a7 (dC (.int 1)) a9))) (a7 (e6 (a7 (dC (.int 1)) (a7 (dC (.int 0)) a9))) (a7 (e6 (a7 (dOp j4 (dL 1) (dC (.int 1))) (a7 (dC (.int 0)) a9))) (a7 (e6 (a7 (dOp j4 (dL 1) (dC (.int 2))) (a7 (dC (.int 1)) a9))) (a7 (e6 (a7 (dOp j4 (dL 1) (dC (.int 1))) (a7 (dC (.int 2)) a9))) (a7 (e6 (a7 (dC (.int 1)) (a7 (dC (.int 2)) a9))) a9)))))))) (e7 (dOp pIx (dL 3) (e5 m_law_draw (a7 (dV 0) (a7 (dC (.int 8)) a9))))))))))
noncomputable def a3u (m_law_draw:DFn):DFn:=mFn 4 (a0o m_law_draw)
noncomputable abbrev a68 (m_law_less:DFn):DM:=(i7 (dTr (e5 m_law_less (a7 (dOp pIx (dL 0) (dL 2)) (a7 (dOp pIx (dL 0) (dL 1)) a9)))) (e8 (dV 2) (c8 1)) i8)
noncomputable def a1c (m_law_less:DFn):DM:=(c7 (e8 (dC (.int 0)) (c8 1)) (c7 (P1 (a7 (dCB (one i9) (a7 (dL 0) a9)) a9) (c8 2) (a68 m_law_less)) (e7 (dCB (one M9) (a7 (dOp j4 (dSl (dL 0) (dAt (dL 1)) dNo) (dSl (dL 0) dNo (dAt (dL 1)))) a9)))))
noncomputable def a4t (m_law_less:DFn):DFn:=mFn 3 (a1c m_law_less)
noncomputable abbrev U6 (m_law_draw:DFn) (m_law_begun:DFn) (m_law_form:DFn) (m_law_laid:DFn):DM:=(c7 (e8 (e6 (a7 (dOp j4 (dL 3) (e5 m_law_draw (a7 (dV 0) (a7 (dC (.int 6)) a9)))) (a7 (e5 m_law_draw (a7 (dV 0) (a7 (dC (.int 6)) a9))) a9))) (k6 2 (j5 (c8 6) (j5 (c8 7) l3)))) (c7 (F5 8 (L8 [1,6,7] (B1 (e5 m_law_form (a7 (dV 0) a9))) w8 (e5 m_law_laid (a7 (dV 2) (a7 (dOp j4 (dL 0) (dL 3)) (a7 (dOp j4 (dL 1) (dL 4)) a9)))))) (i7 (n8 (dB (dOp pNe (dL 4) (j8 (m6 a9)))) (dB (dOp pEq (e5 m_law_draw (a7 (dV 0) (a7 (dC (.int 9)) a9))) (dC (.int 0))))) (C5 4 (dOp pIx (dL 4) (dC (.int 0)))) (C5 4 (e5 m_law_begun (a7 (dV 8) a9))))))
noncomputable def a3G (m_law_draw:DFn) (m_law_begun:DFn) (m_law_form:DFn) (m_law_laid:DFn):DM:=(c7 (F5 4 (m6 a9)) (c7 (P1 (a7 (dOp j4 (dC (.int 1)) (e5 m_law_draw (a7 (dV 0) (a7 (dV 2) a9)))) a9) (c8 5) (U6 m_law_draw m_law_begun m_law_form m_law_laid)) (e7 (dCB (one M9) (a7 (dL 4) a9)))))
noncomputable def a2F (m_law_draw:DFn) (m_law_begun:DFn) (m_law_form:DFn) (m_law_laid:DFn):DFn:=mFn 9 (a3G m_law_draw m_law_begun m_law_form m_law_laid)
noncomputable def a1k (m_law_shapes:DFn) (m_law_draw:DFn) (m_law_net:DFn):DM:=(c7 (e8 (e5 m_law_net (a7 (dV 0) a9)) (c8 1)) (c7 (e8 (e5 m_law_shapes (a7 (dV 0) (a7 (dV 1) (a7 (dC (.int 2)) (a7 (dC (.int 0)) a9))))) (c8 2)) (e7 (e6 (a7 (dV 2) (a7 (e5 m_law_shapes (a7 (dV 0) (a7 (dV 1) (a7 (dC (.int 2)) (a7 (dOp pIx (j8 (m6 (a7 (dC (.int 0)) (a7 (dC (.int 2)) (a7 (dC (.int 5)) (a7 (dC (.int 9)) (a7 (dC (.int 14)) a9))))))) (e5 m_law_draw (a7 (dV 0) (a7 (dC (.int 5)) a9)))) a9))))) a9))))))
noncomputable def a30 (m_law_shapes:DFn) (m_law_draw:DFn) (m_law_net:DFn):DFn:=mFn 3 (a1k m_law_shapes m_law_draw m_law_net)
noncomputable abbrev a1i (m_turn:DFn) (m_edges:DFn):DM:=(i7 (dB (dOp pNe (e5 m_turn (a7 (dOp pIx (dL 3) (dC (.int 0))) (a7 (dOp pIx (dL 3) (dC (.int 1))) (a7 (dV 4) a9)))) (dUn j9 (dC (.int 1))))) (e7 (dC (.bl false))) i8)
noncomputable def a0M (m_turn:DFn) (m_edges:DFn):DM:=(c7 (e8 (dOp pIx (e5 m_edges (a7 (dV 0) a9)) (dL 1)) (c8 3)) (c7 (C0 (dV 2) (c8 4) (a1i m_turn m_edges)) (e7 (dC (.bl true)))))
noncomputable def a01 (m_turn:DFn) (m_edges:DFn):DFn:=mFn 5 (a0M m_turn m_edges)
noncomputable abbrev a1a (m_parts_off:DFn):DM:=(i7 (dTr (e5 m_parts_off (a7 (dV 0) (a7 (dV 2) (a7 (dV 1) a9))))) (e7 (dV 2)) i8)
noncomputable def a1v (m_parts_off:DFn):DM:=(c7 (P1 (a7 (dCB (one i9) (a7 (dL 0) a9)) a9) (c8 2) (a1a m_parts_off)) (e7 (dC .non)))
noncomputable def a3h (m_parts_off:DFn):DFn:=mFn 3 (a1v m_parts_off)
noncomputable def Q2 (m_parting_edge:DFn):DM:=(c7 (e8 (e5 m_parting_edge (a7 (dV 0) (a7 (dV 1) a9))) (c8 2)) (c7 (i7 (dB (dOp a1p (dL 2) (dC .non))) (e7 (e6 (a7 (dC (.str "one")) (a7 (dV 2) a9)))) i8) (c7 (e8 (e5 m_parting_edge (a7 (dV 1) (a7 (dV 0) a9))) (c8 2)) (c7 (i7 (dB (dOp a1p (dL 2) (dC .non))) (e7 (e6 (a7 (dC (.str "other")) (a7 (dV 2) a9)))) i8) (e7 (dC .non))))))
noncomputable def a2o (m_parting_edge:DFn):DFn:=mFn 3 (Q2 m_parting_edge)
noncomputable abbrev a2g (m_clipped:DFn) (m_edges:DFn):DM:=(e8 (e5 m_clipped (a7 (dV 2) (a7 (dV 3) (a7 (dV 4) a9)))) (c8 2))
noncomputable def a35 (m_clipped:DFn) (m_edges:DFn):DM:=(c7 (F5 2 (dCF (one a51) (a7 (dL 0) a9))) (c7 (C0 (e5 m_edges (a7 (dV 1) a9)) (k6 2 (j5 (c8 3) (j5 (c8 4) l3))) (a2g m_clipped m_edges)) (e7 (dOp pIx (dL 2) (dC (.int 0))))))
noncomputable def a3c (m_clipped:DFn) (m_edges:DFn):DFn:=mFn 5 (a35 m_clipped m_edges)
noncomputable abbrev P7 (m_common_place:DFn) (m_parting_pair:DFn):DM:=(c7 (e8 (e5 m_parting_pair (a7 (dV 3) (a7 (dV 5) a9))) (c8 6)) (c7 (i7 (dB (dOp a6J (dL 6) (dC .non))) (e7 (e6 (a7 (dC (.str "meet")) (a7 (e5 m_common_place (a7 (dV 3) (a7 (dV 5) a9))) a9)))) i8) (C5 4 (dV 6))))
noncomputable abbrev Q6 (m_common_place:DFn) (m_parting_pair:DFn):DM:=(c7 (F5 4 (m6 a9)) (c7 (C0 (dV 1) (c8 5) (P7 m_common_place m_parting_pair)) (C5 2 (dCB (one M9) (a7 (dL 4) a9)))))
noncomputable def U7 (m_common_place:DFn) (m_parting_pair:DFn):DM:=(c7 (F5 2 (m6 a9)) (c7 (C0 (dV 0) (c8 3) (Q6 m_common_place m_parting_pair)) (e7 (e6 (a7 (dC (.str "apart")) (a7 (dCB (one M9) (a7 (dL 2) a9)) a9))))))
noncomputable def a39 (m_common_place:DFn) (m_parting_pair:DFn):DFn:=mFn 7 (U7 m_common_place m_parting_pair)
noncomputable def b2V (m_is_whole:DFn):DM:=(e7 (o8 (e5 m_is_whole (a7 (dV 1) a9)) (S4 (j6 (fun i j=>decide (i ≤ j))) (j6 (fun i j=>decide (i < j))) (dC (.int 0)) (dL 1) (dCB (one i9) (a7 (dL 0) a9)))))
noncomputable def a2f (m_is_whole:DFn):DFn:=mFn 2 (b2V m_is_whole)
noncomputable def X9 (m_parts_off:DFn) (m_is_edge_number:DFn):DM:=(c7 (i7 (dOr (j7 (dTr (dUn (u7 "tuple") (dL 2)))) (dB (dOp pNe (dCB (one i9) (a7 (dL 2) a9)) (dC (.int 2))))) (e7 (dC (.bl false))) i8) (c7 (i7 (dB (dOp pEq (dOp pIx (dL 2) (dC (.int 0))) (dC (.str "one")))) (e7 (o8 (e5 m_is_edge_number (a7 (dV 0) (a7 (dOp pIx (dL 2) (dC (.int 1))) a9))) (e5 m_parts_off (a7 (dV 0) (a7 (dOp pIx (dL 2) (dC (.int 1))) (a7 (dV 1) a9)))))) i8) (c7 (i7 (dB (dOp pEq (dOp pIx (dL 2) (dC (.int 0))) (dC (.str "other")))) (e7 (o8 (e5 m_is_edge_number (a7 (dV 1) (a7 (dOp pIx (dL 2) (dC (.int 1))) a9))) (e5 m_parts_off (a7 (dV 1) (a7 (dOp pIx (dL 2) (dC (.int 1))) (a7 (dV 0) a9)))))) i8) (e7 (dC (.bl false))))))
noncomputable def a3F (m_parts_off:DFn) (m_is_edge_number:DFn):DFn:=mFn 3 (X9 m_parts_off m_is_edge_number)
noncomputable abbrev a5G (m_is_parting:DFn):DM:=(i7 (j7 (dTr (e5 m_is_parting (a7 (dOp pIx (dL 0) (dL 3)) (a7 (dV 6) (a7 (dV 5) a9)))))) V1 i8)
noncomputable abbrev a6A (m_is_parting:DFn):DM:=(c7 (i7 (dOr (j7 (dTr (dUn (u7 "tuple") (dL 4)))) (dB (dOp pNe (dCB (one i9) (a7 (dL 4) a9)) (dCB (one i9) (a7 (dL 1) a9))))) V1 i8) (a4G (a7 (dV 4) (a7 (dV 1) a9)) (k6 2 (j5 (c8 5) (j5 (c8 6) l3))) (a5G m_is_parting)))
noncomputable def a2P (m_is_parting:DFn):DM:=(c7 (i7 (dB (dOp pNe (dCB (one i9) (a7 (dL 2) a9)) (dCB (one i9) (a7 (dL 0) a9)))) V1 i8) (c7 (a0d (a7 (dV 2) a9) (k6 2 (j5 (c8 3) (j5 (c8 4) l3))) (a6A m_is_parting)) (e7 (dC (.bl true)))))
noncomputable def a3m (m_is_parting:DFn):DFn:=mFn 7 (a2P m_is_parting)
noncomputable def Z2 (m_is_place:DFn):DM:=(c7 (i7 (dOr (j7 (dTr (dUn (u7 "tuple") (dL 0)))) (dB (dOp pNe (dCB (one i9) (a7 (dL 0) a9)) (dC (.int 2))))) (e7 (dC (.bl false))) i8) (c7 (i7 (dB (dOp pEq (dOp pIx (dL 0) (dC (.int 0))) (dC (.str "meet")))) (e7 (e5 m_is_place (a7 (dOp pIx (dL 0) (dC (.int 1))) a9))) i8) (e7 (o8 (dOp pEq (dOp pIx (dL 0) (dC (.int 0))) (dC (.str "apart"))) (dUn (u7 "tuple") (dOp pIx (dL 0) (dC (.int 1))))))))
noncomputable def a2J (m_is_place:DFn):DFn:=mFn 1 (Z2 m_is_place)
noncomputable def a0C (m_in_area:DFn):DM:=(c7 (i7 (dOr (j7 (dTr (e5 m_in_area (a7 (dV 0) (a7 (dV 2) a9))))) (j7 (dTr (e5 m_in_area (a7 (dV 1) (a7 (dV 2) a9)))))) V1 i8) (e7 (dC (.bl true))))
noncomputable def a3q (m_in_area:DFn):DFn:=mFn 3 (a0C m_in_area)
noncomputable def W4 (m_lets_apart:DFn) (m_lets_meet:DFn) (m_is_so_formed:DFn):DM:=(c7 (i7 (j7 (dTr (e5 m_is_so_formed (a7 (dV 2) a9)))) V1 i8) (c7 (i7 (dB (dOp pEq (dOp pIx (dL 2) (dC (.int 0))) (dC (.str "meet")))) (e7 (e5 m_lets_meet (a7 (dV 0) (a7 (dV 1) (a7 (dOp pIx (dL 2) (dC (.int 1))) a9))))) i8) (e7 (e5 m_lets_apart (a7 (dV 0) (a7 (dV 1) (a7 (dOp pIx (dL 2) (dC (.int 1))) a9)))))))
noncomputable def a3M (m_lets_apart:DFn) (m_lets_meet:DFn) (m_is_so_formed:DFn):DFn:=mFn 3 (W4 m_lets_apart m_lets_meet m_is_so_formed)
noncomputable def a1Z (m_law_edges:DFn) (m_law_det:DFn):DM:=(e7 (dOp (j6 (fun i j=>decide (j ≤ i))) (dCB (one a4a) (a7 (j8 (L8 [1] (B1 (e5 m_law_edges (a7 (dV 0) a9))) w8 (e5 m_law_det (a7 (dV 0) (a7 (dV 1) (a7 (dV 2) a9)))))) a9)) (dC (.int 0))))
noncomputable def a3Y (m_law_edges:DFn) (m_law_det:DFn):DFn:=mFn 2 (a1Z m_law_edges m_law_det)
noncomputable def a2T (m_law_in:DFn):DM:=(e7 (dOp pIn (dC (.bl true)) (j8 (A6 [1] (B1 (dV 0)) w8 (e5 m_law_in (a7 (dV 0) (a7 (dV 1) a9)))))))
noncomputable def a3d (m_law_in:DFn):DFn:=mFn 2 (a2T m_law_in)
noncomputable def Y2 (m_law_det:DFn) (m_law_edges:DFn):DM:=(c7 (i7 (dOr (j7 (dTr (dUn (u7 "tuple") (dL 2)))) (dOr (dB (dOp pNe (dCB (one i9) (a7 (dL 2) a9)) (dC (.int 2)))) (j7 (dTr (dUn (u7 "str") (dOp pIx (dL 2) (dC (.int 0)))))))) (e7 (dC (.bl false))) i8) (c7 (i7 (dOr (dB (dOp P5 (dOp pIx (dL 2) (dC (.int 0))) (e6 (a7 (dC (.str "one")) (a7 (dC (.str "other")) a9))))) (dOr (j7 (dTr (dUn (u7 "int") (dOp pIx (dL 2) (dC (.int 1)))))) (dTr (dUn (u7 "bool") (dOp pIx (dL 2) (dC (.int 1))))))) (e7 (dC (.bl false))) i8) (c7 (e8 (dIf (dB (dOp pEq (dOp pIx (dL 2) (dC (.int 0))) (dC (.str "one")))) (e6 (a7 (dV 0) (a7 (dV 1) a9))) (e6 (a7 (dV 1) (a7 (dV 0) a9)))) (k6 2 (j5 (c8 3) (j5 (c8 4) l3)))) (c7 (i7 (j7 (dB (S4 (j6 (fun i j=>decide (i ≤ j))) (j6 (fun i j=>decide (i < j))) (dC (.int 0)) (dOp pIx (dL 2) (dC (.int 1))) (dCB (one i9) (a7 (dL 3) a9))))) (e7 (dC (.bl false))) i8) (c7 (e8 (dOp pIx (e5 m_law_edges (a7 (dV 3) a9)) (dOp pIx (dL 2) (dC (.int 1)))) (k6 2 (j5 (c8 5) (j5 (c8 6) l3)))) (e7 (dOp (j6 (fun i j=>decide (i < j))) (dCB (one a0u) (a7 (j8 (A6 [5,6] (B1 (dV 4)) w8 (e5 m_law_det (a7 (dV 1) (a7 (dV 2) (a7 (dV 0) a9)))))) a9)) (dC (.int 0)))))))))
noncomputable def a31 (m_law_det:DFn) (m_law_edges:DFn):DFn:=mFn 7 (Y2 m_law_det m_law_edges)
noncomputable abbrev a0S (m_law_parts_two:DFn) (m_law_is_place:DFn) (m_law_area:DFn):DM:=(c7 (e8 (dOp pIx (dOp pIx (dL 2) (dC (.int 1))) (dL 3)) (c8 4)) (c7 (i7 (dOr (j7 (dTr (dUn (u7 "tuple") (dL 4)))) (dB (dOp pNe (dCB (one i9) (a7 (dL 4) a9)) (dCB (one i9) (a7 (dL 1) a9))))) (e7 (e6 (a7 (dC (.str "rows")) (a7 (dV 3) a9)))) i8) (i7 (dB (dOp pIn (dC (.bl false)) (j8 (A6 [0,3,1,4] (N8 (a7 (dCB (one i9) (a7 (dL 1) a9)) a9)) w8 (e5 m_law_parts_two (a7 (dOp pIx (dL 1) (dL 2)) (a7 (dOp pIx (dL 3) (dL 0)) (a7 (dOp pIx (dL 4) (dL 0)) a9)))))))) (e7 (e6 (a7 (dC (.str "pair")) (a7 (dV 3) a9)))) i8)))
noncomputable def a0i (m_law_parts_two:DFn) (m_law_is_place:DFn) (m_law_area:DFn):DM:=(c7 (i7 (dOr (j7 (dTr (dUn (u7 "tuple") (dL 2)))) (dOr (dB (dOp pNe (dCB (one i9) (a7 (dL 2) a9)) (dC (.int 2)))) (j7 (dTr (dUn (u7 "str") (dOp pIx (dL 2) (dC (.int 0)))))))) (e7 (e6 (a7 (dC (.str "shape")) (a7 (dC (.int 0)) a9)))) i8) (c7 (i7 (n8 (dB (dOp pEq (dOp pIx (dL 2) (dC (.int 0))) (dC (.str "meet")))) (dTr (e5 m_law_is_place (a7 (dOp pIx (dL 2) (dC (.int 1))) a9)))) (e7 (dIf (n8 (dTr (e5 m_law_area (a7 (dV 0) (a7 (dOp pIx (dL 2) (dC (.int 1))) a9)))) (dTr (e5 m_law_area (a7 (dV 1) (a7 (dOp pIx (dL 2) (dC (.int 1))) a9))))) (dC .non) (e6 (a7 (dC (.str "place")) (a7 (dC (.int 0)) a9))))) i8) (c7 (i7 (dOr (dB (dOp pNe (dOp pIx (dL 2) (dC (.int 0))) (dC (.str "apart")))) (j7 (dTr (dUn (u7 "tuple") (dOp pIx (dL 2) (dC (.int 1))))))) (e7 (e6 (a7 (dC (.str "shape")) (a7 (dC (.int 0)) a9)))) i8) (c7 (i7 (dB (dOp pNe (dCB (one i9) (a7 (dOp pIx (dL 2) (dC (.int 1))) a9)) (dCB (one i9) (a7 (dL 0) a9)))) (e7 (e6 (a7 (dC (.str "rows")) (a7 (dC (.int 0)) a9)))) i8) (c7 (P1 (a7 (dCB (one i9) (a7 (dL 0) a9)) a9) (c8 3) (a0S m_law_parts_two m_law_is_place m_law_area)) (e7 (dC .non)))))))
noncomputable def a3H (m_law_parts_two:DFn) (m_law_is_place:DFn) (m_law_area:DFn):DFn:=mFn 5 (a0i m_law_parts_two m_law_is_place m_law_area)
noncomputable abbrev a2L (m_two_paper:DFn) (m_lets_two:DFn) (m_law_due:DFn) (m_law_two:DFn) (m_law_tape:DFn):DM:=(c7 (e8 (e5 m_two_paper (a7 (dV 6) (a7 (dV 7) a9))) (c8 8)) (i7 (dOr (dB (dOp a1p (e5 m_law_due (a7 (dV 6) (a7 (dV 7) (a7 (dV 8) a9)))) (dC .non))) (dB (dOp a1x (e5 m_lets_two (a7 (dV 6) (a7 (dV 7) (a7 (dV 8) a9)))) (dC (.bl true))))) (e7 (dC (.bl false))) i8))
noncomputable abbrev a2m (m_two_paper:DFn) (m_lets_two:DFn) (m_law_due:DFn) (m_law_two:DFn) (m_law_tape:DFn):DM:=(c7 (e8 (e5 m_law_two (a7 (dV 1) a9)) (k6 2 (j5 (c8 3) (j5 (c8 4) l3)))) (c7 (e8 (dCB (one R3) (a7 (e6 (a7 (dV 3) (a7 (dV 4) a9))) a9)) (c8 5)) (c7 (C0 (e6 (a7 (e6 (a7 (dV 3) (a7 (dV 4) a9))) (a7 (e6 (a7 (dV 4) (a7 (dV 3) a9))) a9))) (k6 2 (j5 (c8 6) (j5 (c8 7) l3))) (a2L m_two_paper m_lets_two m_law_due m_law_two m_law_tape)) (c7 (i7 (dOr (dB (dOp pNe (e5 m_two_paper (a7 (e6 a9) (a7 (dV 4) a9))) (e6 (a7 (dC (.str "apart")) (a7 (e6 a9) a9))))) (dB (dOp pNe (e5 m_two_paper (a7 (dV 3) (a7 (e6 a9) a9))) (e6 (a7 (dC (.str "apart")) (a7 (dOp a0p (e6 (a7 (e6 a9) a9)) (dCB (one i9) (a7 (dL 3) a9))) a9)))))) (e7 (dC (.bl false))) i8) (c7 (i7 (dOr (dB (dOp pNe (dOp pIx (e5 m_two_paper (a7 (dV 3) (a7 (dV 3) a9))) (dC (.int 0))) (dC (.str "meet")))) (dB (dOp pNe (dCB (one R3) (a7 (e6 (a7 (dV 3) (a7 (dV 4) a9))) a9)) (dL 5)))) (e7 (dC (.bl false))) i8) (i7 (dOr (dB (dOp a1x (e5 m_lets_two (a7 (e6 a9) (a7 (dV 4) (a7 (e6 (a7 (dC (.str "apart")) (a7 (e6 a9) a9))) a9)))) (dC (.bl true)))) (dB (dOp a1x (e5 m_lets_two (a7 (e6 a9) (a7 (e6 a9) (a7 (e6 (a7 (dC (.str "apart")) (a7 (e6 a9) a9))) a9)))) (dC (.bl true))))) (e7 (dC (.bl false))) i8))))))
noncomputable def a0Q (m_two_paper:DFn) (m_lets_two:DFn) (m_law_due:DFn) (m_law_two:DFn) (m_law_tape:DFn):DM:=(c7 (e8 (e5 m_law_tape (a7 (dV 0) a9)) (c8 1)) (c7 (P1 (a7 (dC (.int 4)) a9) (c8 2) (a2m m_two_paper m_lets_two m_law_due m_law_two m_law_tape)) (e7 (dOp pEq (e5 m_two_paper (a7 (e6 a9) (a7 (e6 a9) a9))) (e6 (a7 (dC (.str "apart")) (a7 (e6 a9) a9)))))))
noncomputable def a1T (m_two_paper:DFn) (m_lets_two:DFn) (m_law_due:DFn) (m_law_two:DFn) (m_law_tape:DFn):DFn:=mFn 9 (a0Q m_two_paper m_lets_two m_law_due m_law_two m_law_tape)
end T
namespace DL
open PySem L2
theorem Y1 {n k:Nat} (hk:0 < k) (h:n < 2 ^ k):n.log2 < k:=by
 by_cases h0:n = 0
 ·subst h0; simpa using hk
 ·exact (Nat.log2_lt h0).mpr h
theorem a0W {i:Int} (h:i.natAbs < 2 ^ 200):v7 i = true:=by
 have:=Y1 (by decide) h
 exact decide_eq_true (by omega)
theorem b1A {j:Int} (h0:j ≠ 0) (h:j.natAbs < 2 ^ 200):D5 j = true:=by
 have:=Y1 (by decide) h
 unfold D5
 rw [decide_eq_true h0,Bool.true_and]
 exact decide_eq_true (by omega)
theorem a43 (i:Int):t6 (.int i) = true:=by simp [t6,D.plain,D.py,SeqAt.shaped,PyData.canLay0,PyData.depth]
theorem N6 (i j:Int):pNe (.int i) (.int j) = some (.bl (!decide (i = j))):=by
 simp only [pNe,a43,Bool.and_self,if_true,D.py,PyData.eqv,Bool.beq_eq_decide_eq]
theorem R8 (i j:Int):pEq (.int i) (.int j) = some (.bl (decide (i = j))):=by
 simp only [pEq,a43,Bool.and_self,if_true,D.py,PyData.eqv,Bool.beq_eq_decide_eq]
theorem b5x (x y:Str):pNe (.str x) (.str y) = some (.bl (!decide (x = y))):=rfl
theorem b3H {i:Int} (h:i.natAbs.log2 < 1920):(PySem.Str.ofString (toString i)).length ≤ 1921:=PyProof.Rows.int_text_len_1921 h
theorem b2L {d:D} (h:R0 d = true):R3 d = some (.str d.py.shown):=by unfold R3; rw [if_pos h]
theorem a4n {α:Type} {xs:List α} {i:Int} (h0:0 ≤ i) (h1:i < xs.length):atI xs i = xs[i.toNat]?:=by
 unfold atI ixN
 rw [if_pos h0,if_pos h1]
 rfl
theorem N4 {a b:Int} (h:0 < b):0 ≤ a.fmod b ∧ a.fmod b < b:=by
 rw [Int.fmod_eq_emod_of_nonneg a (by omega)]
 exact ⟨Int.emod_nonneg a (by omega),Int.emod_lt_of_pos a h⟩
theorem m7 {a b:DM} {s s1:DS} (h:a s = some (.next,s1)):c7 a b s = b s1:=by simp [c7,h,p7]
theorem B3 {a b:DM} {s s1:DS} {d:D} (h:a s = some (.ret d,s1)):c7 a b s = some (.ret d,s1):=by simp [c7,h,p7]
theorem a1s {m:DFn} {a:DA} {s s1:DS} {xs:List D} {d:D} {fs:Option FS} (ha:a s = some (xs,s1)) (hm:m xs s1.fs = some (d,fs)):e5 m a s = some (d,{ s1 with fs:=fs }):=by
 unfold e5
 rw [ha,Option.bind_some,hm]
 rfl
theorem b9 {p:D → D → Option D} {a b:DE} {s s1 s2:DS} {x y z:D} (h1:a s = some (x,s1)) (h2:b s1 = some (y,s2)) (h3:p x y = some z):dOp p a b s = some (z,s2):=by
 unfold dOp
 rw [h1,Option.bind_some,h2,Option.bind_some,h3]
 rfl
theorem B8 {a:DE} {b:DA} {s s1 s2:DS} {x:D} {xs:List D} (h1:a s = some (x,s1)) (h2:b s1 = some (xs,s2)):a7 a b s = some (x :: xs,s2):=by
 unfold a7
 rw [h1,Option.bind_some,h2]
 rfl
theorem u6 {f:DE} {t:D → DS → Option DS} {s s1 s2:DS} {d:D} (h1:f s = some (d,s1)) (h2:t d s1 = some s2):e8 f t s = some (.next,s2):=by
 unfold e8
 rw [h1,Option.bind_some,h2]
 rfl
theorem C4 {c:DT} {a b:DM} {s s1:DS} (h:c s = some (true,s1)):i7 c a b s = a s1:=by simp [i7,h]
theorem V5 {c:DT} {a b:DM} {s s1:DS} (h:c s = some (false,s1)):i7 c a b s = b s1:=by simp [i7,h]
theorem o9 {f:DE} {s s1:DS} {d:D} (h:f s = some (d,s1)):e7 f s = some (.ret d,s1):=by simp [e7,h]
theorem u4 {f:DE} {s s1:DS} {b:Bool} (h:f s = some (.bl b,s1)):dB f s = some (b,s1):=by simp [dB,h]
theorem n9 {n:Nat} {b:DM} {ds:List D} {fs:Option FS} {d:D} {s:DS} (h:b ⟨ds.map .val ++ List.replicate (n - ds.length) .no,fs⟩ = some (.ret d,s)):mFn n b ds fs = some (d,s.fs):=by simp [mFn,h]
theorem l7 {m:DFn} {a:DA} {sl:List Sl} {fs:Option FS} {xs:List D} {d:D} (ha:a ⟨sl,fs⟩ = some (xs,⟨sl,fs⟩)) (hm:m xs fs = some (d,fs)):e5 m a ⟨sl,fs⟩ = some (d,⟨sl,fs⟩):=a1s (s1:=⟨sl,fs⟩) ha hm
theorem D1 {m:DFn} {a:DA} {sl:List Sl} {fs fs':Option FS} {xs:List D} {d:D} (ha:a ⟨sl,fs⟩ = some (xs,⟨sl,fs⟩)) (hm:m xs fs = some (d,fs')):e5 m a ⟨sl,fs⟩ = some (d,⟨sl,fs'⟩):=a1s (s1:=⟨sl,fs⟩) ha hm
theorem a0m {m:DFn} {a:DA} {sl sl':List Sl} {fs fs' fs2:Option FS} {xs:List D} {d:D} (ha:a ⟨sl,fs⟩ = some (xs,⟨sl',fs'⟩)) (hm:m xs fs' = some (d,fs2)):e5 m a ⟨sl,fs⟩ = some (d,⟨sl',fs2⟩):=a1s (s1:=⟨sl',fs'⟩) ha hm
theorem b0r {a b c:DE} {s s1 s2 s3:DS} {x y z:D} (h1:a s = some (x,s1)) (h2:b s1 = some (y,s2)) (h3:c s2 = some (z,s3)):e6 (a7 a (a7 b (a7 c a9))) s = some (.tup [x,y,z],s3):=by
 unfold e6
 rw [B8 h1 (B8 h2 (B8 h3 rfl)),Option.bind_some]
 exact if_pos (e:=(none:Option (D × DS))) (show 3 ≤ sizeLine by decide)
theorem J9 {t:D → DS → Option DS} {b:DM} {d:D} {r:List D} {s s1 s2:DS} (h1:t d s = some s1) (h2:b s1 = some (.next,s2)):u9 t b (d :: r) s = u9 t b r s2:=by
 rw [u9,h1,Option.bind_some,h2]
 rfl
theorem B2 {a b:DE} {s s1 s2:DS} {x y:D} (h1:a s = some (x,s1)) (h2:b s1 = some (y,s2)):e6 (a7 a (a7 b a9)) s = some (.tup [x,y],s2):=by
 unfold e6
 rw [B8 h1 (B8 h2 rfl),Option.bind_some]
 exact if_pos (e:=(none:Option (D × DS))) (show 2 ≤ sizeLine by decide)
theorem w9 {f:DE} {s s1:DS} {b:Bool} (h:f s = some (.bl b,s1)):dTr f s = some (b,s1):=by
 unfold dTr
 rw [h]
 rfl
theorem B4 {a:DT} {s s1:DS} {b:Bool} (h:a s = some (b,s1)):j7 a s = some (!b,s1):=by
 unfold j7
 rw [h]
 rfl
theorem a1j {a b:DT} {s s1:DS} {r:Option (Bool × DS)} (h1:a s = some (true,s1)) (h2:b s1 = r):n8 a b s = r:=by
 unfold n8
 rw [h1,Option.bind_some,if_pos rfl]
 exact h2
theorem a6Q {a b:DT} {s s1:DS} (h1:a s = some (false,s1)):n8 a b s = some (false,s1):=by
 unfold n8
 rw [h1,Option.bind_some,if_neg Bool.false_ne_true]
theorem u5 {c:DT} {a:DM} {s s1:DS} (h:c s = some (false,s1)):i7 c a i8 s = some (.next,s1):=by
 rw [V5 h]
 rfl
theorem M6 {i:Nat} {f:DA} {s s1:DS} {ds:List D} (h:f s = some (ds,s1)) (hi:i < s1.sl.length):F5 i f s = some (.next,{ s1 with sl:=s1.sl.set i (.own ds) }):=by
 unfold F5
 rw [h,Option.bind_some,if_pos hi]
theorem a4K {idx:List Nat} {fi:DA} {fc:DT} {fe:DE} {s s1:DS} {ds R:List D} {fs':Option FS} (h:fi s = some (ds,s1)) (hz:ds.length ≤ sizeLine) (c:v8 (mk2 idx s1.sl) fc fe ds s1.fs = some (R,fs')):L8 idx fi fc fe s = some (R,{ s1 with fs:=fs' }):=by
 unfold L8
 rw [h,Option.bind_some,if_pos hz,c]
 rfl
theorem Y6 {f:DA} {s s1:DS} {ds:List D} (h:f s = some (ds,s1)):j8 f s = some (.lst ds,s1):=by
 unfold j8
 rw [h]
 rfl
theorem b2f {idx:List Nat} {fi:DA} {fc:DT} {fe:DE} {s s1:DS} {ds R:List D} (h:fi s = some (ds,s1)) (hz:ds.length ≤ sizeLine) (c:v8 (fun d=>some (.val d :: E4 idx s1.sl)) fc fe ds s1.fs = some (R,s1.fs)):A6 idx fi fc fe s = some (R,s1):=by
 unfold A6
 rw [h,Option.bind_some,if_pos hz,c]
 rfl
theorem O7 {i:Nat} {f:DE} {s s1:DS} {ds ds0:List D} {d:D} (h0:s.sl[i]? = some (.own ds0)) (h:f s = some (d,s1)) (h1:s1.sl[i]? = some (.own ds)) (hl:ds.length < sizeLine):C5 i f s = some (.next,{ s1 with sl:=s1.sl.set i (.own (ds ++ [d])) }):=by
 unfold C5
 rw [h0]
 show (f s).bind _ = _
 rw [h,Option.bind_some]
 show (match s1.sl[i]? with | some (.own ds)=>_ | _=>_) = _
 rw [h1]
 exact if_pos hl
theorem a1h {p:D → Option D} {a:DE} {s s1:DS} {x d:D} (h:a s = some (x,s1)) (hp:p x = some d):dCB (one p) (a7 a a9) s = some (d,s1):=by
 unfold dCB
 rw [B8 h rfl,Option.bind_some]
 show (p x).map _ = _
 rw [hp]
 rfl
theorem a72 {c:DT} {a b:DE} {s s1:DS} (h:c s = some (true,s1)):dIf c a b s = a s1:=by
 unfold dIf
 rw [h]
 rfl
theorem b6a {c:DT} {a b:DE} {s s1:DS} (h:c s = some (false,s1)):dIf c a b s = b s1:=by
 unfold dIf
 rw [h]
 rfl
noncomputable def fr (p:Rat):D:=.tup [.int p.num,.int p.den]
noncomputable def Sz (k:Nat) (p:Rat):Prop:=p.num.natAbs < 2 ^ k ∧ p.den < 2 ^ k
theorem Sz.mono {k l:Nat} {p:Rat} (h:Sz k p) (hl:k ≤ l):Sz l p:=
 ⟨Nat.lt_of_lt_of_le h.1 (Nat.pow_le_pow_right (by decide) hl),Nat.lt_of_lt_of_le h.2 (Nat.pow_le_pow_right (by decide) hl)⟩
theorem a5n {a b:Int} (hb:b ≠ 0):(Rat.divInt a b).num.natAbs ≤ a.natAbs ∧ (Rat.divInt a b).den ≤ b.natAbs:=by
 constructor
 ·rw [Rat.num_divInt,Int.natAbs_ediv_of_dvd (Int.dvd_mul_of_dvd_right (Int.gcd_dvd_right ..))]
  rw [Int.natAbs_mul,Int.natAbs_sign_of_ne_zero hb,Nat.one_mul]
  exact Nat.div_le_self _ _
 ·rw [Rat.den_divInt,if_neg hb]
  exact Nat.div_le_self _ _
theorem Sz.of_divInt {k:Nat} {a b:Int} (hb:b ≠ 0) (h1:a.natAbs < 2 ^ k) (h2:b.natAbs < 2 ^ k):Sz k (Rat.divInt a b):=
 ⟨Nat.lt_of_le_of_lt (a5n hb).1 h1,Nat.lt_of_le_of_lt (a5n hb).2 h2⟩
theorem a67 {a b k l:Nat} (h1:a < 2 ^ k) (h2:b < 2 ^ l):a * b < 2 ^ (k + l):=by
 rw [Nat.pow_add]
 exact Nat.mul_lt_mul_of_lt_of_lt h1 h2
theorem b0V {a b k:Nat} (h1:a < 2 ^ k) (h2:b < 2 ^ k):a + b < 2 ^ (k + 1):=by
 rw [Nat.pow_succ]; omega
noncomputable def Bd (k:Nat) (i:Int):Prop:=i.natAbs < 2 ^ k
theorem Bd.mono {k l:Nat} {i:Int} (h:Bd k i) (hl:k ≤ l):Bd l i:=Nat.lt_of_lt_of_le h (Nat.pow_le_pow_right (by decide) hl)
theorem Bd.mul {k l:Nat} {i j:Int} (h1:Bd k i) (h2:Bd l j):Bd (k + l) (i * j):=by
 unfold Bd; rw [Int.natAbs_mul]; exact a67 h1 h2
theorem Bd.add {k l:Nat} {i j:Int} (h1:Bd k i) (h2:Bd l j):Bd (max k l + 1) (i + j):=
 Nat.lt_of_le_of_lt (Int.natAbs_add_le i j) (b0V (h1.mono (Nat.le_max_left ..)) (h2.mono (Nat.le_max_right ..)))
theorem Bd.neg {k:Nat} {i:Int} (h1:Bd k i):Bd k (-i):=by unfold Bd; rw [Int.natAbs_neg]; exact h1
theorem Bd.sub {k l:Nat} {i j:Int} (h1:Bd k i) (h2:Bd l j):Bd (max k l + 1) (i - j):=by rw [Int.sub_eq_add_neg]; exact h1.add h2.neg
theorem Bd.gcd {k:Nat} {i:Int} {j:Int} (h:Bd k j) (hj:j ≠ 0):Bd k (Int.gcd i j:Int):=by
 have:Int.gcd i j ≤ j.natAbs:=Nat.le_of_dvd (by omega) (Nat.gcd_dvd_right i.natAbs j.natAbs)
 exact Nat.lt_of_le_of_lt this h
theorem Bd.bits {k:Nat} {i:Int} (h:Bd k i) (hk:k ≤ 8000):v7 i = true:=by
 have:=Y1 (k:=8000) (by decide) (h.mono hk)
 exact decide_eq_true (by omega)
theorem Bd.div {k:Nat} {i:Int} (h:Bd k i) (h0:i ≠ 0) (hk:k ≤ 8000):D5 i = true:=by
 have:=Y1 (k:=8000) (by decide) (h.mono hk)
 unfold D5
 rw [decide_eq_true h0,Bool.true_and]
 exact decide_eq_true (by omega)
theorem Sz.num {k:Nat} {p:Rat} (h:Sz k p):Bd k p.num:=h.1
theorem b1O (p:Rat):(p.den:Int) ≠ 0:=by have:=p.den_nz; omega
theorem b0w (p:Rat):(0:Int) < p.den:=by have:=p.den_nz; omega
end DL
namespace T
open PySem L2 DL
noncomputable abbrev gT:DT:=dB (dOp pNe (dL 3) (dC (.int 0)))
noncomputable abbrev gB:DM:=c7 (e8 (dOp v6 (dL 2) (dL 3)) (c8 4)) (c7 (e8 (dV 3) (c8 2)) (e8 (dV 4) (c8 3)))
theorem a4T (a b:Sl) (g r:Int) (x:Sl) (fs:Option FS):gT ⟨[a,b,.val (.int g),.val (.int r),x],fs⟩ = some (!decide (r = 0),⟨[a,b,.val (.int g),.val (.int r),x],fs⟩):=by
 simp [dB,dOp,dL,dC,N6]
theorem b6o (a b:Sl) (g r:Int) (x:Sl) (fs:Option FS) (h:r ≠ 0):gB ⟨[a,b,.val (.int g),.val (.int r),x],fs⟩ =
  some (.next,⟨[a,b,.val (.int r),.val (.int (g.fmod r)),.val (.int (g.fmod r))],fs⟩):=by
 simp [c7,p7,e8,dOp,dL,dV,c8,v6,h]
theorem b4d (a b:Sl) (fs:Option FS) (r:Nat):∀ (g:Nat) (x:Sl),∃ y,F9 gT gB ⟨[a,b,.val (.int g),.val (.int r),x],fs⟩ = some (.next,⟨[a,b,.val (.int (Nat.gcd g r)),.val (.int 0),y],fs⟩):=by
 induction r using Nat.strongRecOn with
 | ind r ih=>
  intro g x
  by_cases h:r = 0
  ·subst h
   refine ⟨x,?_⟩
   rw [Nat.gcd_zero_right]
   exact a7f (by rw [a4T]; rfl)
  ·have e:((g:Int).fmod (r:Int)) = ((g % r:Nat):Int):=by rw [Int.fmod_eq_emod_of_nonneg _ (by omega)]; rfl
   obtain ⟨y,hy⟩:=ih (g % r) (Nat.mod_lt _ (by omega)) r (.val (.int ((g:Int).fmod (r:Int))))
   refine ⟨y,?_⟩
   have hg:Nat.gcd g r = Nat.gcd r (g % r):=by rw [Nat.gcd_comm g r,Nat.gcd_rec,Nat.gcd_comm]
   rw [hg]
   refine a7g (s1:=⟨[a,b,.val (.int g),.val (.int r),x],fs⟩) (by rw [a4T,decide_eq_false (by omega)]; rfl) (b6o _ _ _ _ _ _ (by omega)) ?_
   rw [e] at hy ⊢
   exact hy
theorem a2W (a:Int):(if a < 0 then -a else a) = ((a.natAbs:Nat):Int):=by split <;> omega
theorem b1R (a b:Int) (fs:Option FS):D0 [.int a,.int b] fs = some (.int (Int.gcd a b),fs):=by
 obtain ⟨y,hy⟩:=b4d (.val (.int a)) (.val (.int b)) fs b.natAbs a.natAbs .no
 refine n9 (s:=⟨[.val (.int a),.val (.int b),.val (.int (Int.gcd a b)),.val (.int 0),y],fs⟩) ?_
 show a1b ⟨[.val (.int a),.val (.int b),.no,.no,.no],fs⟩ = _
 unfold a1b
 rw [m7 (s1:=⟨[.val (.int a),.val (.int b),.val (.int a.natAbs),.no,.no],fs⟩) (by simp [e8,dCB,a7,a9,dL,one,M0,c8,a2W])]
 rw [m7 (s1:=⟨[.val (.int a),.val (.int b),.val (.int a.natAbs),.val (.int b.natAbs),.no],fs⟩) (by simp [e8,dCB,a7,a9,dL,one,M0,c8,a2W])]
 rw [m7 hy]
 exact o9 (by simp [dV,Int.gcd])
theorem a7a (a:Int):Int.gcd 0 a = a.natAbs:=by simp [Int.gcd]
theorem a4M (a b:Int):Int.gcd ((a.natAbs:Nat):Int) b = Int.gcd a b:=by simp [Int.gcd]
theorem a0l (P:D) (acc x:Int) (x2:Sl) (r:List D) (fs:Option FS):u9 (c8 2) (Y0 D0) (.int x :: r) ⟨[.val P,.val (.int acc),x2],fs⟩ = u9 (c8 2) (Y0 D0) r ⟨[.val P,.val (.int (Int.gcd acc x)),.val (.int x)],fs⟩:=J9 (s1:=⟨[.val P,.val (.int acc),.val (.int x)],fs⟩) rfl (u6 (l7 rfl (b1R acc x fs)) rfl)
theorem a48 {ds:List D} {g:Int} {x2:Sl} {fs:Option FS} (h:u9 (c8 2) (Y0 D0) ds ⟨[.val (.tup ds),.val (.int 0),.no],fs⟩ = some (.next,⟨[.val (.tup ds),.val (.int g),x2],fs⟩)):K0 D0 [.tup ds] fs = some (.int g,fs):=by
 refine n9 (s:=⟨[.val (.tup ds),.val (.int g),x2],fs⟩) ?_
 show a03 D0 ⟨[.val (.tup ds),.no,.no],fs⟩ = _
 unfold a03
 have lp:C0 (dV 0) (c8 2) (Y0 D0) ⟨[.val (.tup ds),.val (.int 0),.no],fs⟩ = some (.next,⟨[.val (.tup ds),.val (.int g),x2],fs⟩):=h
 rw [m7 (s1:=⟨[.val (.tup ds),.val (.int 0),.no],fs⟩) (u6 rfl rfl),m7 lp]
 exact o9 rfl
theorem a9r (a b:Int) (fs:Option FS):K0 D0 [.tup [.int a,.int b]] fs = some (.int (Int.gcd a b),fs):=a48 (x2:=.val (.int b)) (by
 rw [a0l,a0l,a7a,a4M]
 rfl)
theorem a6a (a b c:Int) (fs:Option FS):K0 D0 [.tup [.int a,.int b,.int c]] fs = some (.int (Int.gcd (Int.gcd a b:Int) c),fs):=a48 (x2:=.val (.int c)) (by
 rw [a0l,a0l,a0l,a7a,a4M]
 rfl)
theorem W6 {a g c:Int} (hg:g ≠ 0) (e:a = g * c):a.fdiv g = c:=by subst e; exact Int.mul_fdiv_cancel_left c hg
theorem b0a {k:Nat} {a b:Int} (hb:b ≠ 0) (h:Bd k b) (hk:k ≤ 8000):D5 (if b < 0 then -(Int.gcd a b:Int) else (Int.gcd a b:Int)) = true:=by
 have g0:0 < Int.gcd a b:=Int.gcd_pos_of_ne_zero_right a hb
 split
 ·exact (Bd.gcd h hb).neg.div (by omega) hk
 ·exact (Bd.gcd h hb).div (by omega) hk
theorem sz2:(2:Nat) ≤ sizeLine:=by decide
theorem a6i (a b:D):atI [a,b] (-1) = some b:=a7u [a] b
theorem a1W (a b c:D):atI [a,b,c] (-1) = some c:=a7u [a,b] c
theorem a8m (a b c:D):atI [a,b,c] 0 = some a:=rfl
theorem a7A (a b c:D):atI [a,b,c] 1 = some b:=rfl
theorem a0V (a b c:D):atI [a,b,c] 2 = some c:=rfl
noncomputable abbrev FL:DFn:=a3f (K0 D0)
theorem a4W {gg:Int} (dg:D5 gg = true) (fs:Option FS):∀ xs:List Int,v8 (fun d=>some [.val d,.val (.int gg)]) w8 (dOp C3 (dL 0) (dL 1)) (xs.map .int) fs = some (xs.map (fun x=>.int (x.fdiv gg)),fs)
 | []=>rfl
 | x :: r=>by
  have e:dOp C3 (dL 0) (dL 1) ⟨[.val (.int x),.val (.int gg)],fs⟩ = some (.int (x.fdiv gg),⟨[.val (.int x),.val (.int gg)],fs⟩):=b9 rfl rfl (if_pos dg)
  have ih:=a4W dg fs r
  rw [List.map_cons,v8,Option.bind_some]
  show ((dOp C3 (dL 0) (dL 1) ⟨[.val (.int x),.val (.int gg)],fs⟩).bind _) = _
  rw [e,Option.bind_some]
  show (v8 _ w8 _ (r.map .int) fs).map _ = _
  rw [ih]
  rfl
theorem b6W {ds:List D} {d g:Int} (h:atI ds (-1) = some (.int d)) (fs:Option FS):i7 (dB (dOp (j6 (fun i j=>decide (i < j))) (dOp pIx (dL 0) (dUn j9 (dC (.int 1)))) (dC (.int 0)))) (e8 (dUn j9 (dL 1)) (c8 1)) i8 ⟨[.val (.tup ds),.val (.int g)],fs⟩ = some (.next,⟨[.val (.tup ds),.val (.int (if d < 0 then -g else g))],fs⟩):=by
 have t:dB (dOp (j6 (fun i j=>decide (i < j))) (dOp pIx (dL 0) (dUn j9 (dC (.int 1)))) (dC (.int 0))) ⟨[.val (.tup ds),.val (.int g)],fs⟩ = some (decide (d < 0),⟨[.val (.tup ds),.val (.int g)],fs⟩):=u4 (b9 (b9 rfl rfl (show pIx (.tup ds) (.int (-1)) = some (.int d) from h)) rfl rfl)
 by_cases nb:d < 0
 ·rw [decide_eq_true nb] at t
  rw [if_pos nb,C4 t]
  rfl
 ·rw [decide_eq_false nb] at t
  rw [if_neg nb,V5 t]
  rfl
theorem a9M {xs:List Int} {d g:Int} (fs:Option FS) (hl:xs.length ≤ 10) (hd:K0 D0 [.tup (xs.map .int)] fs = some (.int g,fs)) (h:atI (xs.map D.int) (-1) = some (.int d)) (dg:D5 (if d < 0 then -g else g) = true):FL [.tup (xs.map .int)] fs = some (.tup (xs.map fun x=>.int (x.fdiv (if d < 0 then -g else g))),fs):=by
 have nf:=b6W (g:=g) h fs
 have cd:=a4W dg fs xs
 have ll:(xs.map D.int).length ≤ sizeLine:=Nat.le_trans (by rw [List.length_map]; exact hl) (show 10 ≤ sizeLine by decide)
 generalize xs.map D.int = ds at *
 generalize (if d < 0 then -g else g) = gg at *
 refine n9 (s:=⟨[.val (.tup ds),.val (.int gg)],fs⟩) ?_
 show a3X (K0 D0) ⟨[.val (.tup ds),.no],fs⟩ = _
 unfold a3X
 rw [m7 (s1:=⟨[.val (.tup ds),.val (.int g)],fs⟩) (u6 (l7 rfl hd) rfl),m7 nf]
 exact o9 (a1h (p:=M9) (Y6 (b2f (idx:=[1]) (ds:=ds) (s1:=⟨[.val (.tup ds),.val (.int gg)],fs⟩) rfl ll cd)) rfl)
theorem D8 {a b:Int} (h1:v7 a = true) (h2:v7 b = true):o7 (.int a) (.int b) = some (.int (a * b)):=by simp [o7,h1,h2]
theorem a1L {α:Type} {xs:List α} {r:Int} (h0:0 ≤ r) (h1:r < xs.length):∃ x,x ∈ xs ∧ atI xs r = some x:=by
 refine ⟨xs[r.toNat]'(by omega),List.getElem_mem _,?_⟩
 rw [a4n h0 h1,List.getElem?_eq_getElem]
end T
namespace DL
open PySem L2
noncomputable abbrev Pt:=Rat × Rat
noncomputable def pL (a:Pt):Int:=((Nat.lcm a.1.den a.2.den:Nat):Int)
noncomputable def pX (a:Pt):Int:=a.1.num * ((Nat.lcm a.1.den a.2.den / a.1.den:Nat):Int)
noncomputable def pY (a:Pt):Int:=a.2.num * ((Nat.lcm a.1.den a.2.den / a.2.den:Nat):Int)
noncomputable def pt (a:Pt):D:=.tup [.int (pX a),.int (pY a),.int (pL a)]
theorem lcm_pos (p q:Rat):0 < Nat.lcm p.den q.den:=Nat.lcm_pos (by have:=p.den_nz; omega) (by have:=q.den_nz; omega)
theorem a0R (a:Pt):0 < pL a:=by have:=lcm_pos a.1 a.2; unfold pL; omega
theorem a0N (a:Pt):pL a ≠ 0:=by have:=a0R a; omega
theorem M5 (a:Pt):(0:Rat) < (pL a:Rat):=Rat.intCast_pos.mpr (a0R a)
theorem V3 (a:Pt):(pL a:Rat) ≠ 0:=fun h=>a0N a (Rat.intCast_eq_zero_iff.mp h)
theorem a4l (p:Rat):(p.num:Rat) = p * ((p.den:Int):Rat):=by
 have e:=Rat.num_divInt_den p
 rw [Rat.divInt_eq_div] at e
 have hd:((p.den:Int):Rat) ≠ 0:=fun h=>b1O p (Rat.intCast_eq_zero_iff.mp h)
 have:(p.num:Rat) / ((p.den:Int):Rat) * ((p.den:Int):Rat) = (p.num:Rat):=Rat.div_mul_cancel hd
 rw [e] at this
 exact this.symm
theorem L6 (a:Pt):(pX a:Rat) = a.1 * (pL a:Rat):=by
 unfold pX pL
 obtain ⟨c,hc⟩:=Nat.dvd_lcm_left a.1.den a.2.den
 have hd:=a.1.den_nz
 have e:Nat.lcm a.1.den a.2.den / a.1.den = c:=Nat.div_eq_of_eq_mul_right (by omega) hc
 rw [e,hc,Int.natCast_mul,Rat.intCast_mul,Rat.intCast_mul,a4l]
 grind
theorem L5 (a:Pt):(pY a:Rat) = a.2 * (pL a:Rat):=by
 unfold pY pL
 obtain ⟨c,hc⟩:=Nat.dvd_lcm_right a.1.den a.2.den
 have hd:=a.2.den_nz
 have e:Nat.lcm a.1.den a.2.den / a.2.den = c:=Nat.div_eq_of_eq_mul_right (by omega) hc
 rw [e,hc,Int.natCast_mul,Rat.intCast_mul,Rat.intCast_mul,a4l]
 grind
theorem a0t {x d:Int} {p:Rat} (hd:0 < d) (h:(x:Rat) = p * (d:Rat)):∃ c:Int,d = p.den * c ∧ x = p.num * c:=by
 have h1:x * p.den = p.num * d:=by
  have e:=a4l p
  have:((x * p.den:Int):Rat) = ((p.num * d:Int):Rat):=by
   rw [Rat.intCast_mul,Rat.intCast_mul,h,e]; grind
  exact Rat.intCast_inj.mp this
 have dv:(p.den:Int) ∣ p.num * d:=⟨x,by rw [← h1,Int.mul_comm]⟩
 have dv2:p.den ∣ p.num.natAbs * d.natAbs:=by
  have:=Int.natAbs_dvd_natAbs.mpr dv
  rwa [Int.natAbs_mul,Int.natAbs_natCast] at this
 have dv3:p.den ∣ d.natAbs:=Nat.Coprime.dvd_of_dvd_mul_left (Nat.Coprime.symm p.reduced) dv2
 obtain ⟨c,hc⟩:(p.den:Int) ∣ d:=Int.dvd_natAbs.mp (Int.ofNat_dvd.mpr dv3)
 refine ⟨c,hc,?_⟩
 have hp:=b0w p
 have:(p.den:Int) * x = p.den * (p.num * c):=by rw [Int.mul_comm,h1,hc]; grind
 exact Int.eq_of_mul_eq_mul_left (by omega) this
theorem a8S {x y d:Int} {a:Pt} (hd:0 < d) (hg:Int.gcd (Int.gcd x y:Int) d = 1) (hx:(x:Rat) = a.1 * (d:Rat)) (hy:(y:Rat) = a.2 * (d:Rat)):x = pX a ∧ y = pY a ∧ d = pL a:=by
 obtain ⟨c1,e1,f1⟩:=a0t hd hx
 obtain ⟨c2,e2,f2⟩:=a0t hd hy
 obtain ⟨D,rfl⟩:=Int.eq_ofNat_of_zero_le (show 0 ≤ d by omega)
 have dl:Nat.lcm a.1.den a.2.den ∣ D:=Nat.lcm_dvd (Int.ofNat_dvd.mp ⟨c1,e1⟩) (Int.ofNat_dvd.mp ⟨c2,e2⟩)
 obtain ⟨m,hm⟩:=dl
 have key:∀ z:Int,∀ r:Rat,(z:Rat) = r * ((D:Int):Rat) → ∀ w:Int,(w:Rat) = r * (pL a:Rat) → z = w * m:=by
  intro z r h1 w h2
  have:(z:Rat) = ((w * m:Int):Rat):=by
   rw [h1,Rat.intCast_mul,h2,hm]
   have:(((Nat.lcm a.1.den a.2.den * m:Nat):Int):Rat) = (pL a:Rat) * ((m:Int):Rat):=by
    rw [Int.natCast_mul,Rat.intCast_mul]; rfl
   rw [this]; grind
  exact Rat.intCast_inj.mp this
 have kx:=key x a.1 hx (pX a) (L6 a)
 have ky:=key y a.2 hy (pY a) (L5 a)
 have kd:(D:Int) = pL a * m:=by rw [hm,Int.natCast_mul]; rfl
 have m1:(m:Int) ∣ 1:=by
  have h:(m:Int) ∣ (Int.gcd (Int.gcd x y:Int) (D:Int):Int):=by
   refine Int.dvd_coe_gcd (Int.dvd_coe_gcd ?_ ?_) ?_
   ·exact ⟨pX a,by rw [kx,Int.mul_comm]⟩
   ·exact ⟨pY a,by rw [ky,Int.mul_comm]⟩
   ·exact ⟨pL a,by rw [kd,Int.mul_comm]⟩
  rwa [hg] at h
 have m2:m = 1:=Nat.eq_one_of_dvd_one (Int.ofNat_dvd.mp m1)
 subst m2
 exact ⟨by rw [kx]; simp,by rw [ky]; simp,by rw [kd]; simp⟩
theorem a9s (a:Pt):Int.gcd (Int.gcd (pX a) (pY a):Int) (pL a) = 1:=by
 have g0:0 < Int.gcd (Int.gcd (pX a) (pY a):Int) (pL a):=Int.gcd_pos_of_ne_zero_right _ (a0N a)
 obtain ⟨d,hd⟩:=Int.gcd_dvd_right (Int.gcd (pX a) (pY a):Int) (pL a)
 have h1:=Int.gcd_dvd_left (Int.gcd (pX a) (pY a):Int) (pL a)
 obtain ⟨x,hx⟩:=Int.dvd_trans h1 (Int.gcd_dvd_left ..)
 obtain ⟨y,hy⟩:=Int.dvd_trans h1 (Int.gcd_dvd_right ..)
 generalize hgg:Int.gcd (Int.gcd (pX a) (pY a):Int) (pL a) = G at *
 have hL:=a0R a
 have dpos:0 < d:=by
  rcases Int.lt_or_le 0 d with z | z
  ·exact z
  ·have:(G:Int) * d ≤ G * 0:=Int.mul_le_mul_of_nonneg_left z (by omega)
   omega
 have hGr:((G:Int):Rat) ≠ 0:=fun h=>by have:=Rat.intCast_eq_zero_iff.mp h; omega
 have q1:(x:Rat) = a.1 * (d:Rat):=by
  have e:=L6 a
  rw [hx,hd,Rat.intCast_mul,Rat.intCast_mul] at e
  grind
 have q2:(y:Rat) = a.2 * (d:Rat):=by
  have e:=L5 a
  rw [hy,hd,Rat.intCast_mul,Rat.intCast_mul] at e
  grind
 obtain ⟨c1,e1,f1⟩:=a0t dpos q1
 obtain ⟨c2,e2,f2⟩:=a0t dpos q2
 obtain ⟨D,rfl⟩:=Int.eq_ofNat_of_zero_le (show 0 ≤ d by omega)
 obtain ⟨m,hm⟩:Nat.lcm a.1.den a.2.den ∣ D:=Nat.lcm_dvd (Int.ofNat_dvd.mp ⟨c1,e1⟩) (Int.ofNat_dvd.mp ⟨c2,e2⟩)
 have hl:(pL a:Int) = ((Nat.lcm a.1.den a.2.den:Nat):Int):=rfl
 rw [hl,hm] at hd
 have hd':Nat.lcm a.1.den a.2.den = G * (Nat.lcm a.1.den a.2.den * m):=by exact_mod_cast hd
 have hlp:=lcm_pos a.1 a.2
 have:Nat.lcm a.1.den a.2.den * (G * m) = Nat.lcm a.1.den a.2.den * 1:=by
  rw [Nat.mul_one]
  have e3:G * (Nat.lcm a.1.den a.2.den * m) = Nat.lcm a.1.den a.2.den * (G * m):=by grind
  rw [← e3]; exact hd'.symm
 have:=Nat.eq_of_mul_eq_mul_left hlp this
 exact Nat.eq_one_of_mul_eq_one_right this
structure Ps (k:Nat) (a:Pt):Prop where
 x:Bd k (pX a)
 y:Bd k (pY a)
 l:Bd k (pL a)
theorem Ps.mono {k l:Nat} {a:Pt} (h:Ps k a) (hl:k ≤ l):Ps l a:=⟨h.x.mono hl,h.y.mono hl,h.l.mono hl⟩
theorem Ps.of {k l:Nat} {a:Pt} (h1:Sz k a.1) (h2:Sz l a.2):Ps (k + l) a:=by
 have hl:Nat.lcm a.1.den a.2.den ≤ a.1.den * a.2.den:=Nat.le_of_dvd (Nat.mul_pos (by have:=a.1.den_nz; omega) (by have:=a.2.den_nz; omega)) (Nat.lcm_dvd_mul ..)
 have b:=a67 h1.2 h2.2
 have dl:Nat.lcm a.1.den a.2.den / a.1.den ≤ a.2.den:=by
  rw [Nat.div_le_iff_le_mul_add_pred (by have:=a.1.den_nz; omega)]; omega
 have dr:Nat.lcm a.1.den a.2.den / a.2.den ≤ a.1.den:=by
  rw [Nat.div_le_iff_le_mul_add_pred (by have:=a.2.den_nz; omega),Nat.mul_comm a.2.den]; omega
 refine ⟨?_,?_,?_⟩
 ·exact Bd.mul h1.num (show Bd l ((_:Nat):Int) from Nat.lt_of_le_of_lt dl h2.2)
 ·have:=Bd.mul h2.num (show Bd k ((_:Nat):Int) from Nat.lt_of_le_of_lt dr h1.2)
  rw [Nat.add_comm]; exact this
 ·exact Nat.lt_of_le_of_lt hl b
noncomputable def a8 (a b c:Pt):Rat:=(b.1 - a.1) * (c.2 - a.2) - (b.2 - a.2) * (c.1 - a.1)
noncomputable def sgn (r:Rat):Int:=if 0 < r then 1 else if r < 0 then -1 else 0
noncomputable def F7 (n:Int):Int:=if 0 < n then 1 else if n < 0 then -1 else 0
theorem a1K {n:Int} {c r:Rat} (hc:0 < c) (h:(n:Rat) = c * r):F7 n = sgn r:=by
 unfold F7 sgn
 have h1:0 < n ↔ 0 < r:=by
  rw [← Rat.intCast_pos,h]; exact Rat.mul_pos_iff_of_pos_left hc
 have h2:n < 0 ↔ r < 0:=by
  rw [← Rat.intCast_neg_iff,h]; exact Rat.mul_neg_iff_of_pos_left hc
 simp only [h1,h2]
noncomputable def lsB (a b:Pt):Bool:=decide (a.1 < b.1) || (decide (a.1 = b.1) && decide (a.2 < b.2))
end DL
namespace T
open PySem L2 DL
theorem a4b (x y d:Int) (hd:d ≠ 0):let G:Nat:=Int.gcd (Int.gcd x y:Int) d
  let g:Int:=if d < 0 then -(G:Int) else (G:Int)
  g ≠ 0 ∧ x.fdiv g = pX (Rat.divInt x d,Rat.divInt y d) ∧ y.fdiv g = pY (Rat.divInt x d,Rat.divInt y d) ∧ d.fdiv g = pL (Rat.divInt x d,Rat.divInt y d):=by
 intro G g
 have g0:0 < G:=Int.gcd_pos_of_ne_zero_right _ hd
 obtain ⟨d',ed⟩:=Int.gcd_dvd_right (Int.gcd x y:Int) d
 have h1:=Int.gcd_dvd_left (Int.gcd x y:Int) d
 obtain ⟨x',ex⟩:=Int.dvd_trans h1 (Int.gcd_dvd_left ..)
 obtain ⟨y',ey⟩:=Int.dvd_trans h1 (Int.gcd_dvd_right ..)
 replace ed:d = (G:Int) * d':=ed
 replace ex:x = (G:Int) * x':=ex
 replace ey:y = (G:Int) * y':=ey
 have cop:Int.gcd (Int.gcd x' y':Int) d' = 1:=by
  have e1:Int.gcd x y = G * Int.gcd x' y':=by
   have:=Int.gcd_mul_left (m:=(G:Int)) (n:=x') (k:=y')
   rw [← ex,← ey] at this; exact this
  have e2:Int.gcd (Int.gcd x y:Int) d = G * Int.gcd (Int.gcd x' y':Int) d':=by
   have:=Int.gcd_mul_left (m:=(G:Int)) (n:=(Int.gcd x' y':Int)) (k:=d')
   rw [← ed,← Int.natCast_mul,← e1] at this; exact this
  have e3:G * Int.gcd (Int.gcd x' y':Int) d' = G * 1:=by rw [← e2,Nat.mul_one]
  exact Nat.eq_of_mul_eq_mul_left g0 e3
 have hdr:(d:Rat) ≠ 0:=fun h=>hd (Rat.intCast_eq_zero_iff.mp h)
 have hGr:((G:Int):Rat) ≠ 0:=fun h=>by have:=Rat.intCast_eq_zero_iff.mp h; omega
 have vx:∀ z z':Int,z = (G:Int) * z' → (z':Rat) = Rat.divInt z d * (d':Rat):=fun z z' e=>by
  rw [Rat.divInt_eq_div]
  have ed':(d:Rat) = ((G:Int):Rat) * (d':Rat):=by rw [← Rat.intCast_mul]; exact congrArg _ ed
  have ez':(z:Rat) = ((G:Int):Rat) * (z':Rat):=by rw [← Rat.intCast_mul]; exact congrArg _ e
  have hd'r:(d':Rat) ≠ 0:=fun h=>hdr (by rw [ed',h]; grind)
  rw [ez',ed']
  grind
 by_cases h:d < 0
 ·have eg:g = -(G:Int):=if_pos h
  have dn:0 < -d':=by
   rcases Int.lt_or_le d' 0 with z | z
   ·omega
   ·have:0 ≤ (G:Int) * d':=Int.mul_nonneg (by omega) z
    omega
  obtain ⟨q1,q2,q3⟩:=a8S (x:=-x') (y:=-y') (d:=-d') (a:=(Rat.divInt x d,Rat.divInt y d)) dn (by
   have:Int.gcd (-x') (-y') = Int.gcd x' y':=by simp [Int.gcd]
   rw [this]
   have:Int.gcd (Int.gcd x' y':Int) (-d') = Int.gcd (Int.gcd x' y':Int) d':=by simp [Int.gcd]
   rw [this]; exact cop) (by rw [Rat.intCast_neg,Rat.intCast_neg,vx x x' ex]; grind) (by rw [Rat.intCast_neg,Rat.intCast_neg,vx y y' ey]; grind)
  rw [eg,← q1,← q2,← q3]
  exact ⟨by omega,W6 (by omega) (by grind),W6 (by omega) (by grind),W6 (by omega) (by grind)⟩
 ·have eg:g = (G:Int):=if_neg h
  have dp:0 < d':=by
   rcases Int.lt_or_le 0 d' with z | z
   ·exact z
   ·have:(G:Int) * d' ≤ G * 0:=Int.mul_le_mul_of_nonneg_left z (by omega)
    omega
  obtain ⟨q1,q2,q3⟩:=a8S (x:=x') (y:=y') (d:=d') (a:=(Rat.divInt x d,Rat.divInt y d)) dp cop (vx x x' ex) (vx y y' ey)
  rw [eg,← q1,← q2,← q3]
  exact ⟨by omega,W6 (by omega) ex,W6 (by omega) ey,W6 (by omega) ed⟩
theorem a5i {k:Nat} {x y d:Int} (hd:d ≠ 0) (h:Bd k d) (hk:k ≤ 8000):D5 (if d < 0 then -(Int.gcd (Int.gcd x y:Int) d:Int) else (Int.gcd (Int.gcd x y:Int) d:Int)) = true:=b0a (a:=(Int.gcd x y:Int)) hd h hk
theorem b5h {k:Nat} (x y d:Int) (fs:Option FS) (hd:d ≠ 0) (h:Bd k d) (hk:k ≤ 8000):FL [.tup [.int x,.int y,.int d]] fs = some (pt (Rat.divInt x d,Rat.divInt y d),fs):=by
 obtain ⟨p0,p1,p2,p3⟩:=a4b x y d hd
 have e:=a9M (xs:=[x,y,d]) (d:=d) fs (show 3 ≤ 10 by decide) (a6a x y d fs) (a1W _ _ _) (a5i (x:=x) (y:=y) hd h hk)
 unfold pt
 rw [← p1,← p2,← p3]
 exact e
theorem b5f (a:Pt):Rat.divInt (pX a) (pL a) = a.1:=by
 rw [Rat.divInt_eq_div,L6,Rat.mul_div_cancel (V3 a)]
theorem b6f (a:Pt):Rat.divInt (pY a) (pL a) = a.2:=by
 rw [Rat.divInt_eq_div,L5,Rat.mul_div_cancel (V3 a)]
end T
namespace DL
noncomputable def v5 (x y:Rat):Prop:=0 < x ∨ (x = 0 ∧ 0 < y)
theorem P4 (a b:Pt):lsB a b = true ↔ v5 (b.1 - a.1) (b.2 - a.2):=by
 unfold lsB v5
 rw [Bool.or_eq_true,Bool.and_eq_true,decide_eq_true_iff,decide_eq_true_iff,decide_eq_true_iff]
 constructor
 ·rintro (h | ⟨h1,h2⟩)
  ·left; grind
  ·right; constructor <;> grind
 ·rintro (h | ⟨h1,h2⟩)
  ·left; grind
  ·right; constructor <;> grind
theorem b5k (x y:Rat) (h:v5 x y):¬ v5 (-x) (-y):=by
 unfold v5 at *
 grind
theorem U0 {x y s:Rat} (hs:0 < s):v5 (s * x) (s * y) ↔ v5 x y:=by
 unfold v5
 have h1:0 < s * x ↔ 0 < x:=Rat.mul_pos_iff_of_pos_left hs
 have h2:0 < s * y ↔ 0 < y:=Rat.mul_pos_iff_of_pos_left hs
 have h3:s * x = 0 ↔ x = 0:=by
  rw [Rat.mul_eq_zero]
  constructor
  ·rintro (h | h)
   ·rw [h] at hs; exact absurd hs Rat.lt_irrefl
   ·exact h
  ·exact fun h=>.inr h
 rw [h1,h2,h3]
theorem a0H:¬ v5 0 0:=by unfold v5; grind
theorem b1o {x y:Rat} (h:v5 x y) (s:Rat):v5 (s * x) (s * y) ↔ 0 < s:=by
 constructor
 ·intro q
  rcases Rat.le_total (a:=s) (b:=0) with z | z
  ·rcases (Rat.le_iff_lt_or_eq).mp z with z | z
   ·have:v5 (-s * x) (-s * y):=(U0 (by grind)).mpr h
    rw [Rat.neg_mul,Rat.neg_mul] at this
    exact absurd this (b5k _ _ q)
   ·rw [z,Rat.zero_mul,Rat.zero_mul] at q; exact absurd q a0H
  ·rcases (Rat.le_iff_lt_or_eq).mp z with z | z
   ·exact z
   ·rw [← z,Rat.zero_mul,Rat.zero_mul] at q; exact absurd q a0H
 ·intro hs; exact (U0 hs).mpr h
noncomputable def l5 (a b:Pt) (s:Rat):Pt:=(a.1 + s * (b.1 - a.1),a.2 + s * (b.2 - a.2))
theorem T4 (a b:Pt):l5 a b 0 = a:=by unfold l5; simp [Rat.add_zero]
theorem a0B (a b:Pt):l5 a b 1 = b:=by unfold l5; exact Prod.ext (by grind) (by grind)
theorem Z5 {a b c:Pt} (hab:a ≠ b) (h:a8 a b c = 0):∃ s,c = l5 a b s:=by
 unfold a8 at h
 by_cases h1:b.1 - a.1 = 0
 ·have h2:b.2 - a.2 ≠ 0:=fun z=>hab (Prod.ext (by grind) (by grind))
  refine ⟨(c.2 - a.2) / (b.2 - a.2),?_⟩
  unfold l5
  refine Prod.ext ?_ ?_
  ·show c.1 = _
   have:(b.2 - a.2) * (c.1 - a.1) = 0:=by grind
   rcases Rat.mul_eq_zero.mp this with z | z
   ·exact absurd z h2
   ·grind
  ·show c.2 = _
   grind
 ·refine ⟨(c.1 - a.1) / (b.1 - a.1),?_⟩
  unfold l5
  refine Prod.ext ?_ ?_
  ·show c.1 = _
   grind
  ·show c.2 = _
   have e:(b.1 - a.1) * (c.2 - a.2) = (b.2 - a.2) * (c.1 - a.1):=by grind
   have:c.2 - a.2 = (c.1 - a.1) / (b.1 - a.1) * (b.2 - a.2):=by grind
   grind
noncomputable def dsq (a b:Pt):Rat:=(a.1 - b.1) * (a.1 - b.1) + (a.2 - b.2) * (a.2 - b.2)
theorem M2 (x:Rat):0 ≤ x * x:=by
 rcases Rat.le_total (a:=0) (b:=x) with h | h
 ·exact Rat.mul_nonneg h h
 ·have:=Rat.mul_nonneg (a:=-x) (b:=-x) (by grind) (by grind)
  grind
theorem a09 {x:Rat} (h:x ≠ 0):0 < x * x:=Rat.lt_of_le_of_ne (M2 x) (fun z=>h (by
 rcases Rat.mul_eq_zero.mp z.symm with q | q <;> exact q))
theorem b4e {a b:Pt} (hab:a ≠ b):0 < dsq a b:=by
 unfold dsq
 by_cases h1:a.1 - b.1 = 0
 ·have h2:a.2 - b.2 ≠ 0:=fun z=>hab (Prod.ext (by grind) (by grind))
  have:=a09 h2
  have:=M2 (a.1 - b.1)
  grind
 ·have:=a09 h1
  have:=M2 (a.2 - b.2)
  grind
theorem b34 (s:Rat):s * s ≤ 1 ↔ (-1 ≤ s ∧ s ≤ 1):=by
 constructor
 ·intro h
  constructor
  ·rcases Rat.le_total (a:=-1) (b:=s) with z | z
   ·exact z
   ·have:=Rat.mul_nonneg (a:=-1 - s) (b:=-1 - s) (by grind) (by grind)
    have:=Rat.mul_nonneg (a:=-1 - s) (b:=1) (by grind) (by grind)
    grind
  ·rcases Rat.le_total (a:=s) (b:=1) with z | z
   ·exact z
   ·have:=Rat.mul_nonneg (a:=s - 1) (b:=s - 1) (by grind) (by grind)
    grind
 ·rintro ⟨h1,h2⟩
  have:=Rat.mul_nonneg (a:=1 - s) (b:=1 + s) (by grind) (by grind)
  grind
theorem b2W (a b:Pt) (s:Rat):dsq a (l5 a b s) = s * s * dsq a b ∧ dsq b (l5 a b s) = (1 - s) * (1 - s) * dsq a b:=by
 unfold dsq l5
 constructor <;> grind
end DL
namespace T
open PySem L2 DL
theorem a9n (n:Int) (fs:Option FS):R7 [.int n] fs = some (.int (F7 n),fs):=by
 refine n9 (s:=⟨[.val (.int n)],fs⟩) ?_
 show U9 ⟨[.val (.int n)],fs⟩ = _
 unfold F7
 by_cases h1:0 < n
 ·simp [U9,c7,p7,e8,dOp,dUn,dC,dL,dV,c8,i7,dB,e7,e5,a7,a9,e6,i8,dCB,one,j8,m6,dIf,n8,dOr,j7,o8,p9,r8,pIx,j4,l8,j9,j6,i9,k6,j5,l3,o0,dTr,p8,h1]
 ·by_cases h2:n < 0
  ·simp [U9,c7,p7,e8,dOp,dUn,dC,dL,dV,c8,i7,dB,e7,e5,a7,a9,e6,i8,dCB,one,j8,m6,dIf,n8,dOr,j7,o8,p9,r8,pIx,j4,l8,j9,j6,i9,k6,j5,l3,o0,dTr,p8,h1,h2]
  ·simp [U9,c7,p7,e8,dOp,dUn,dC,dL,dV,c8,i7,dB,e7,e5,a7,a9,e6,i8,dCB,one,j8,m6,dIf,n8,dOr,j7,o8,p9,r8,pIx,j4,l8,j9,j6,i9,k6,j5,l3,o0,dTr,p8,h1,h2]
noncomputable abbrev FTn:DFn:=W7 R7
theorem b6N {a b c:Rat} (ha:0 < a) (hb:0 < b) (hc:0 < c):0 < a * b * c:=Rat.mul_pos (Rat.mul_pos ha hb) hc
theorem b5U (a b c:Pt):F7 (pX a * (pY b * pL c - pY c * pL b) - pY a * (pX b * pL c - pX c * pL b) + pL a * (pX b * pY c - pX c * pY b)) = sgn (a8 a b c):=by
 refine a1K (b6N (M5 a) (M5 b) (M5 c)) ?_
 simp only [Rat.intCast_add,Rat.intCast_sub,Rat.intCast_mul,L6,L5,a8]
 grind
theorem a0D {k:Nat} (a b c:Pt) (fs:Option FS) (ha:Ps k a) (hb:Ps k b) (hc:Ps k c) (hk:k ≤ 2000):FTn [pt a,pt b,pt c] fs = some (.int (sgn (a8 a b c)),fs):=by
 have a1:=ha.x.bits (by omega)
 have a2:=ha.y.bits (by omega)
 have a3:=ha.l.bits (by omega)
 have b1:=hb.x.bits (by omega)
 have b2:=hb.y.bits (by omega)
 have b3:=hb.l.bits (by omega)
 have c1:=hc.x.bits (by omega)
 have c2:=hc.y.bits (by omega)
 have c3:=hc.l.bits (by omega)
 have d1:=((hb.y.mul hc.l).sub (hc.y.mul hb.l)).bits (by omega)
 have d2:=((hb.x.mul hc.l).sub (hc.x.mul hb.l)).bits (by omega)
 have d3:=((hb.x.mul hc.y).sub (hc.x.mul hb.y)).bits (by omega)
 rw [← b5U]
 refine n9 (s:=⟨[.val (pt a),.val (pt b),.val (pt c),.val (.int (pX a * (pY b * pL c - pY c * pL b) - pY a * (pX b * pL c - pX c * pL b) + pL a * (pX b * pY c - pX c * pY b)))],fs⟩) ?_
 show a0w R7 ⟨[.val (pt a),.val (pt b),.val (pt c),.no],fs⟩ = _
 unfold a0w
 have x:∀ p:Pt,pIx (pt p) (.int 0) = some (.int (pX p)):=fun _=>rfl
 have y:∀ p:Pt,pIx (pt p) (.int 1) = some (.int (pY p)):=fun _=>rfl
 have l:∀ p:Pt,pIx (pt p) (.int 2) = some (.int (pL p)):=fun _=>rfl
 rw [m7 (s1:=⟨[.val (pt a),.val (pt b),.val (pt c),.val (.int (pX a * (pY b * pL c - pY c * pL b)))],fs⟩) (u6 (b9 (b9 rfl rfl (x a)) (b9 (b9 (b9 rfl rfl (y b)) (b9 rfl rfl (l c)) (D8 b2 c3)) (b9 (b9 rfl rfl (y c)) (b9 rfl rfl (l b)) (D8 c2 b3)) rfl) (D8 a1 d1)) rfl),
  m7 (s1:=⟨[.val (pt a),.val (pt b),.val (pt c),.val (.int (pX a * (pY b * pL c - pY c * pL b) - pY a * (pX b * pL c - pX c * pL b)))],fs⟩) (u6 (b9 rfl (b9 (b9 rfl rfl (y a)) (b9 (b9 (b9 rfl rfl (x b)) (b9 rfl rfl (l c)) (D8 b1 c3)) (b9 (b9 rfl rfl (x c)) (b9 rfl rfl (l b)) (D8 c1 b3)) rfl) (D8 a2 d2)) rfl) rfl),
  m7 (s1:=⟨[.val (pt a),.val (pt b),.val (pt c),.val (.int (pX a * (pY b * pL c - pY c * pL b) - pY a * (pX b * pL c - pX c * pL b) + pL a * (pX b * pY c - pX c * pY b)))],fs⟩) (u6 (b9 rfl (b9 (b9 rfl rfl (l a)) (b9 (b9 (b9 rfl rfl (x b)) (b9 rfl rfl (y c)) (D8 b1 c2)) (b9 (b9 rfl rfl (x c)) (b9 rfl rfl (y b)) (D8 c1 b2)) rfl) (D8 a3 d3)) rfl) rfl)]
 exact o9 (l7 (B8 rfl rfl) (a9n _ fs))
end T
namespace DL
open PySem L2
theorem V4 {t:D → DS → Option DS} {b:DM} (P:Nat → DS → Prop):∀ (ds:List D) (n:Nat) (s:DS),P n s → (∀ i d s,ds[i]? = some d → P (n + i) s → ∃ s1 s2,t d s = some s1 ∧ (b s1 = some (.next,s2) ∨ b s1 = some (.cont,s2)) ∧ P (n + i + 1) s2) →
  ∃ s',u9 t b ds s = some (.next,s') ∧ P (n + ds.length) s'
 | [],n,s,h,_=>⟨s,rfl,h⟩
 | d :: r,n,s,h,k=>by
  obtain ⟨s1,s2,e1,e2,h2⟩:=k 0 d s rfl h
  obtain ⟨s',e3,h3⟩:=V4 P r (n + 1) s2 h2 (fun i d' s hd hp=>by
   have:=k (i + 1) d' s (by simpa using hd) (by rwa [show n + 1 + i = n + (i + 1) by omega] at hp)
   rwa [show n + (i + 1) + 1 = n + 1 + i + 1 by omega] at this)
  refine ⟨s',?_,by rw [List.length_cons,show n + (r.length + 1) = n + 1 + r.length by omega]; exact h3⟩
  rw [u9,e1]
  rcases e2 with e2 | e2 <;> simp [e2,e3]
theorem a0b {f:DA} {t:D → DS → Option DS} {b:DM} {s s1:DS} {xs ds:List D} (h1:f s = some (xs,s1)) (h2:G2 xs = some ds):P1 f t b s = u9 t b ds s1:=by
 simp only [P1,h1,Option.bind_some,h2]
theorem a4g {f:DE} {t:D → DS → Option DS} {b:DM} {s s1:DS} {ds:List D} (h1:f s = some (.lst ds,s1)):C0 f t b s = u9 t b ds s1:=by
 simp only [C0,h1,Option.bind_some]
theorem S8 {f:DE} {t:D → DS → Option DS} {b:DM} {s s1:DS} {ds:List D} (h1:f s = some (.tup ds,s1)):C0 f t b s = u9 t b ds s1:=by
 simp only [C0,h1,Option.bind_some]
theorem V0 {lo:Int} {n i:Nat} {d:D} (h:(ups lo n)[i]? = some d):d = .int (lo + i) ∧ i < n:=by
 have hi:i < n:=by have:=(List.getElem?_eq_some_iff.mp h).1; rwa [X0] at this
 rw [a1R hi] at h
 cases h
 exact ⟨rfl,hi⟩
theorem S7 {n:Nat} (h:n < 2 ^ 30):G2 [.int (n:Int)] = some (ups 0 n):=by
 have:-(2 ^ 62) ≤ (n:Int) ∧ (n:Int) < 2 ^ 62:=by omega
 simp only [G2,if_pos this,Int.toNat_natCast]
end DL
namespace T
open PySem L2 DL
structure PtS (k:Nat) (a:Pt):Prop where
 x:Sz k a.1
 y:Sz k a.2
theorem PtS.ps {k:Nat} {a:Pt} (h:PtS k a):Ps (k + k) a:=Ps.of h.x h.y
theorem PtS.mono {k l:Nat} {a:Pt} (h:PtS k a) (hl:k ≤ l):PtS l a:=⟨h.x.mono hl,h.y.mono hl⟩
section
variable {α β:Type}
noncomputable def mrg (lt:α → α → Bool):List α → List α → List α
 | [],ys=>ys
 | x :: xs,ys=>ys.takeWhile (fun y=>lt y x) ++ x :: mrg lt xs (ys.dropWhile (fun y=>lt y x))
noncomputable def srt (lt:α → α → Bool):Nat → List α → List α
 | 0,l=>l
 | n + 1,l=>if l.length < 2 then l else mrg lt (srt lt n (l.take (l.length / 2))) (srt lt n (l.drop (l.length / 2)))
noncomputable def B7 (t:α → α → α → Bool) (x:α):List α → List α
 | b :: a :: r=>if t a b x = true then b :: a :: r else B7 t x (a :: r)
 | l=>l
noncomputable def D7 (t:α → α → α → Bool):List α → List α → List α
 | acc,[]=>acc
 | acc,x :: xs=>D7 t (x :: B7 t x acc) xs
noncomputable def u3 (t:α → α → α → Bool) (l:List α):List α:=(D7 t [] l).reverse
noncomputable def a0O (lt:α → α → Bool) (t:α → α → α → Bool) (l:List α):List α:=(u3 t (srt lt 64 l)).dropLast ++ (u3 t (srt lt 64 l).reverse).dropLast
noncomputable def G5 [DecidableEq α] (acc:List α) (x:α):List α:=if x ∈ acc then acc else acc ++ [x]
noncomputable def Q3 [DecidableEq α] (l:List α):List α:=l.foldl G5 []
variable {lt:α → α → Bool} {lt':β → β → Bool} {t:α → α → α → Bool} {t':β → β → β → Bool} {f:α → β}
theorem a8U (h:∀ a b c,t' (f a) (f b) (f c) = t a b c) (x:α):∀ l:List α,B7 t' (f x) (l.map f) = (B7 t x l).map f
 | []=>rfl
 | [b]=>rfl
 | b :: a :: r=>by
  have ih:=a8U h x (a :: r)
  simp only [List.map_cons,B7] at ih ⊢
  rw [h]
  split
  ·rfl
  ·exact ih
theorem a7S (h:∀ a b c,t' (f a) (f b) (f c) = t a b c):∀ (l acc:List α),D7 t' (acc.map f) (l.map f) = (D7 t acc l).map f
 | [],acc=>rfl
 | x :: xs,acc=>by
  simp only [List.map_cons,D7]
  rw [a8U h,← List.map_cons,a7S h xs]
theorem a34 (h:∀ a b c,t' (f a) (f b) (f c) = t a b c) (l:List α):u3 t' (l.map f) = (u3 t l).map f:=by
 unfold u3
 have:=a7S h l []
 rw [List.map_nil] at this
 rw [this,List.map_reverse]
theorem a32:∀ {xs ys:List α} {z:α},z ∈ mrg lt xs ys → z ∈ xs ∨ z ∈ ys
 | [],ys,z,h=>.inr h
 | x :: xs,ys,z,h=>by
  simp only [mrg] at h
  rcases List.mem_append.mp h with h | h
  ·exact .inr (List.takeWhile_subset _ h)
  ·rcases List.mem_cons.mp h with h | h
   ·exact .inl (h ▸ List.mem_cons_self ..)
   ·rcases a32 h with h | h
    ·exact .inl (List.mem_cons_of_mem _ h)
    ·exact .inr (List.dropWhile_subset _ h)
theorem S6:∀ (n:Nat) {l:List α} {z:α},z ∈ srt lt n l → z ∈ l
 | 0,l,z,h=>h
 | n + 1,l,z,h=>by
  simp only [srt] at h
  split at h
  ·exact h
  ·rcases a32 h with h | h
   ·exact List.mem_of_mem_take (S6 n h)
   ·exact List.mem_of_mem_drop (S6 n h)
theorem a4q {x:α}:∀ {l:List α} {z:α},z ∈ B7 t x l → z ∈ l
 | [],z,h=>h
 | [b],z,h=>h
 | b :: a :: r,z,h=>by
  simp only [B7] at h
  split at h
  ·exact h
  ·exact List.mem_cons_of_mem _ (a4q h)
theorem a5W:∀ {l acc:List α} {z:α},z ∈ D7 t acc l → z ∈ acc ∨ z ∈ l
 | [],acc,z,h=>.inl h
 | x :: xs,acc,z,h=>by
  simp only [D7] at h
  rcases a5W h with h | h
  ·rcases List.mem_cons.mp h with h | h
   ·exact .inr (h ▸ List.mem_cons_self ..)
   ·exact .inl (a4q h)
  ·exact .inr (List.mem_cons_of_mem _ h)
theorem a0L {l:List α} {z:α} (h:z ∈ u3 t l):z ∈ l:=by
 unfold u3 at h
 rcases a5W (List.mem_reverse.mp h) with h | h
 ·cases h
 ·exact h
theorem a5E [DecidableEq α]:∀ {l acc:List α} {z:α},z ∈ l.foldl G5 acc → z ∈ acc ∨ z ∈ l
 | [],acc,z,h=>.inl h
 | x :: xs,acc,z,h=>by
  rcases a5E (l:=xs) h with h | h
  ·unfold G5 at h
   split at h
   ·exact .inl h
   ·rcases List.mem_append.mp h with h | h
    ·exact .inl h
    ·exact .inr (by rw [List.mem_singleton.mp h]; exact List.mem_cons_self ..)
  ·exact .inr (List.mem_cons_of_mem _ h)
theorem a3J [DecidableEq α] {l:List α} {z:α} (h:z ∈ Q3 l):z ∈ l:=by
 rcases a5E h with h | h
 ·cases h
 ·exact h
theorem a4R [DecidableEq α]:∀ (l acc:List α),(l.foldl G5 acc).length ≤ acc.length + l.length
 | [],acc=>Nat.le_refl _
 | x :: xs,acc=>by
  have h:=a4R xs (G5 acc x)
  have h2:(G5 acc x).length ≤ acc.length + 1:=by
   unfold G5
   split
   ·omega
   ·simp
  simp only [List.foldl_cons,List.length_cons]
  omega
theorem b3z [DecidableEq α] (l:List α):(Q3 l).length ≤ l.length:=by
 unfold Q3
 simpa using a4R l []
end
section
variable {α:Type} {lt:α → α → Bool}
noncomputable abbrev Srt (lt:α → α → Bool) (l:List α):Prop:=l.Pairwise fun a b=>lt a b = true
structure Ord (lt:α → α → Bool):Prop where
 irr:∀ a,lt a a = false
 tr:∀ a b c,lt a b = true → lt b c = true → lt a c = true
 tot:∀ a b,lt a b = false → a ≠ b → lt b a = true
theorem a1u:∀ {xs ys:List α} {z:α},z ∈ xs ∨ z ∈ ys → z ∈ mrg lt xs ys
 | [],ys,z,h=>by rcases h with h | h; cases h; exact h
 | x :: xs,ys,z,h=>by
  simp only [mrg]
  have hy:∀ {z},z ∈ ys → z ∈ ys.takeWhile (fun y=>lt y x) ∨ z ∈ ys.dropWhile (fun y=>lt y x):=fun {z} hz=>by
   rw [← List.takeWhile_append_dropWhile (p:=fun y=>lt y x) (l:=ys)] at hz
   exact List.mem_append.mp hz
  rcases h with h | h
  ·rcases List.mem_cons.mp h with h | h
   ·exact List.mem_append.mpr (.inr (h ▸ List.mem_cons_self ..))
   ·exact List.mem_append.mpr (.inr (List.mem_cons_of_mem _ (a1u (.inl h))))
  ·rcases hy h with h | h
   ·exact List.mem_append.mpr (.inl h)
   ·exact List.mem_append.mpr (.inr (List.mem_cons_of_mem _ (a1u (.inr h))))
theorem a7P {p:α → Bool}:∀ {l:List α} {z:α},z ∈ l.takeWhile p → p z = true
 | [],z,h=>by cases h
 | a :: r,z,h=>by
  rw [List.takeWhile_cons] at h
  by_cases q:p a = true
  ·rw [if_pos q] at h
   rcases List.mem_cons.mp h with e | e
   ·exact e ▸ q
   ·exact a7P e
  ·rw [if_neg q] at h; cases h
theorem a7U {p:α → Bool}:∀ {l:List α} {a:α} {r:List α},l.dropWhile p = a :: r → p a = false
 | [],a,r,h=>by cases h
 | b :: l,a,r,h=>by
  rw [List.dropWhile_cons] at h
  by_cases q:p b = true
  ·rw [if_pos q] at h; exact a7U h
  ·rw [if_neg q] at h
   cases h
   simpa using q
theorem a6t (O:Ord lt):∀ {xs ys:List α},Srt lt xs → Srt lt ys → (∀ x ∈ xs,x ∉ ys) → Srt lt (mrg lt xs ys)
 | [],ys,h1,h2,_=>h2
 | x :: xs,ys,h1,h2,d=>by
  obtain ⟨g1,g2⟩:=List.pairwise_cons.mp h1
  have sub:=List.takeWhile_append_dropWhile (p:=fun y=>lt y x) (l:=ys)
  have hs:Srt lt (ys.takeWhile (fun y=>lt y x) ++ ys.dropWhile (fun y=>lt y x)):=by rw [sub]; exact h2
  obtain ⟨s1,s2,s3⟩:=List.pairwise_append.mp hs
  have dw:∀ z ∈ ys.dropWhile (fun y=>lt y x),lt x z = true:=by
   cases e:ys.dropWhile (fun y=>lt y x) with
   | nil=>intro z hz; cases hz
   | cons a r=>
    rw [e] at s2
    have ha:lt a x = false:=a7U (p:=fun y=>lt y x) e
    have am:a ∈ ys:=List.dropWhile_subset _ (e ▸ List.mem_cons_self ..)
    have xa:lt x a = true:=O.tot a x ha fun z=>d x (List.mem_cons_self ..) (z ▸ am)
    intro z hz
    rcases List.mem_cons.mp hz with q | q
    ·exact q ▸ xa
    ·exact O.tr _ _ _ xa ((List.pairwise_cons.mp s2).1 z q)
  have rest:∀ z ∈ mrg lt xs (ys.dropWhile (fun y=>lt y x)),lt x z = true:=fun z hz=>by
   rcases a32 hz with q | q
   ·exact g1 z q
   ·exact dw z q
  simp only [mrg]
  refine List.pairwise_append.mpr ⟨s1,List.pairwise_cons.mpr ⟨rest,a6t O g2 s2 fun a ha hb=>d a (List.mem_cons_of_mem _ ha) (List.dropWhile_subset _ hb)⟩,fun a ha b hb=>?_⟩
  have ax:lt a x = true:=a7P (p:=fun y=>lt y x) ha
  rcases List.mem_cons.mp hb with q | q
  ·exact q ▸ ax
  ·exact O.tr _ _ _ ax (rest b q)
theorem a4y:∀ (n:Nat) {l:List α} {z:α},z ∈ l → z ∈ srt lt n l
 | 0,l,z,h=>h
 | n + 1,l,z,h=>by
  simp only [srt]
  split
  ·exact h
  ·rw [← List.take_append_drop (l.length / 2) l] at h
   rcases List.mem_append.mp h with h | h
   ·exact a1u (.inl (a4y n h))
   ·exact a1u (.inr (a4y n h))
theorem a2v (O:Ord lt):∀ (n:Nat) (l:List α),l.length ≤ 2 ^ n → l.Nodup → Srt lt (srt lt (n + 1) l)
 | n,l,hl,nd=>by
  simp only [srt]
  split
  ·rename_i h
   match l,h with
   | [],_=>exact List.Pairwise.nil
   | [a],_=>exact List.pairwise_singleton _ _
   | a :: b :: r,h=>exact absurd h (by simp only [List.length_cons]; omega)
  ·rename_i h
   cases n with
   | zero=>exact absurd hl (by omega)
   | succ n=>
    have p2:2 ^ (n + 1) = 2 ^ n + 2 ^ n:=by rw [Nat.pow_succ]; omega
    rw [← List.take_append_drop (l.length / 2) l] at nd
    obtain ⟨n1,n2,n3⟩:=List.nodup_append.mp nd
    refine a6t O (a2v O n _ (by rw [List.length_take]; omega) n1) (a2v O n _ (by rw [List.length_drop]; omega) n2) fun x hx hy=>?_
    exact n3 x (S6 _ hx) x (S6 _ hy) rfl
theorem b1a [DecidableEq α] {acc:List α} {x z:α}:z ∈ G5 acc x ↔ z ∈ acc ∨ z = x:=by
 unfold G5
 by_cases h:x ∈ acc
 ·rw [if_pos h]; exact ⟨.inl,fun q=>q.elim id fun e=>e ▸ h⟩
 ·rw [if_neg h,List.mem_append,List.mem_singleton]
theorem a6V [DecidableEq α]:∀ {l acc:List α} {z:α},z ∈ l.foldl G5 acc ↔ z ∈ acc ∨ z ∈ l
 | [],acc,z=>by simp
 | x :: xs,acc,z=>by
  rw [List.foldl_cons,a6V,b1a,List.mem_cons]
  exact or_assoc
theorem uniqG_in [DecidableEq α] {l:List α} {z:α}:z ∈ Q3 l ↔ z ∈ l:=by
 unfold Q3
 rw [a6V]
 simp
theorem b3J [DecidableEq α] {acc:List α} {x:α} (h:acc.Nodup):(G5 acc x).Nodup:=by
 unfold G5
 by_cases e:x ∈ acc
 ·rw [if_pos e]; exact h
 ·rw [if_neg e]
  refine List.nodup_append.mpr ⟨h,by simp,fun a ha b hb=>?_⟩
  rw [List.mem_singleton.mp hb]
  exact fun z=>e (z ▸ ha)
theorem b3K [DecidableEq α] (l:List α):(Q3 l).Nodup:=by
 have:∀ (l acc:List α),acc.Nodup → (l.foldl G5 acc).Nodup:=fun l=>by
  induction l with
  | nil=>intro acc h; exact h
  | cons x xs ih=>intro acc h; exact ih _ (b3J h)
 exact this l [] List.nodup_nil
end
theorem lsB_ord:Ord lsB where
 irr:=fun a=>by
  cases q:lsB a a with
  | false=>rfl
  | true=>
   rw [P4] at q
   unfold v5 at q
   grind
 tr:=fun a b c h1 h2=>by
  rw [P4] at h1 h2 ⊢
  unfold v5 at *
  grind
 tot:=fun a b h n=>by
  have h:¬ (lsB a b = true):=by rw [h]; decide
  rw [P4] at h ⊢
  have:¬ (b.1 - a.1 = 0 ∧ b.2 - a.2 = 0):=fun z=>n (Prod.ext (by grind) (by grind))
  unfold v5 at *
  grind
noncomputable def M3 (l:List Pt):List Pt:=srt lsB 64 (Q3 l)
theorem b4w {l:List Pt} (h:l.length < 2 ^ 20):Srt lsB (M3 l):=a2v lsB_ord 63 _ (Nat.le_trans (b3z l) (Nat.le_trans (Nat.le_of_lt h) (by decide))) (b3K l)
theorem rowP_in {l:List Pt} {z:Pt}:z ∈ M3 l ↔ z ∈ l:=⟨fun h=>a3J (S6 _ h),fun h=>a4y _ (uniqG_in.mpr h)⟩
theorem o6 {a:DE} {b:DA} {s:DS} {x:DL.D} {xs:List DL.D} (h1:a s = some (x,s)) (h2:b s = some (xs,s)):a7 a b s = some (x :: xs,s):=B8 h1 h2
theorem a8g {l:List DL.D} {n:Nat} {x:DL.D} (h:l[n]? = some x):atI l (n:Int) = some x:=by
 have hn:n < l.length:=(List.getElem?_eq_some_iff.mp h).1
 unfold atI ixN
 rw [if_pos (by omega),if_pos (by omega)]
 exact h
section
variable {k:Nat} (hk:k ≤ 2000)
include hk
end
noncomputable def trB (a b c:Pt):Bool:=decide (sgn (a8 a b c) = 1)
end T
namespace DL
open PySem L2
theorem b6M {x y u v:Rat} (h1:v5 x y) (h2:v5 u v):v5 (x + u) (y + v):=by
 unfold v5 at *
 grind
theorem a1g {x y u v a:Rat} (ha:0 ≤ a) (h1:v5 x y) (h2:v5 u v):v5 (a * x + u) (a * y + v):=by
 by_cases h:a = 0
 ·subst h
  rw [Rat.zero_mul,Rat.zero_mul,Rat.zero_add,Rat.zero_add]
  exact h2
 ·exact b6M ((U0 (by grind)).mpr h1) h2
theorem a85 {ux uy vx vy wx wy:Rat} (hu:v5 ux uy) (hv:v5 vx vy) (hw:v5 wx wy) (h1:0 < ux * vy - uy * vx) (h2:0 ≤ vx * wy - vy * wx):0 < ux * wy - uy * wx:=by
 by_cases c:0 < ux * wy - uy * wx
 ·exact c
 ·have k:0 ≤ -(ux * wy - uy * wx):=by grind
  have a:=(U0 h1).mpr hw
  have b:=a1g k hv (a1g h2 hu a)
  have e1:-(ux * wy - uy * wx) * vx + ((vx * wy - vy * wx) * ux + (ux * vy - uy * vx) * wx) = 0:=by grind
  have e2:-(ux * wy - uy * wx) * vy + ((vx * wy - vy * wx) * uy + (ux * vy - uy * vx) * wy) = 0:=by grind
  rw [e1,e2] at b
  exact absurd b a0H
noncomputable def O9 (h b o:Pt):Bool:=if a8 h b o = 0 then decide (dsq h b < dsq h o) else decide (a8 h b o < 0)
noncomputable def O6 (h:Pt) (b:Option Pt) (o:Pt):Option Pt:=if o = h then b else match b with
 | none=>some o
 | some r=>if O9 h r o then some o else some r
theorem a6g (h:Pt) (b:Option Pt):O6 h b h = b:=if_pos rfl
theorem a8P {h o:Pt} (n:o ≠ h):O6 h none o = some o:=if_neg n
theorem a81 {h r o:Pt} (n:o ≠ h) (f:O9 h r o = true):O6 h (some r) o = some o:=(if_neg n).trans (if_pos f)
theorem a77 {h r o:Pt} (n:o ≠ h) (f:O9 h r o = false):O6 h (some r) o = some r:=(if_neg n).trans (if_neg (by rw [f]; exact Bool.false_ne_true))
noncomputable def Fst (f:Pt) (S:List Pt) (b:Option Pt):Prop:=(b = none ∧ ∀ q ∈ S,q = f) ∨ ∃ p,b = some p ∧ p ∈ S ∧ p ≠ f ∧ ∀ q ∈ S,0 ≤ a8 f p q ∧ (a8 f p q = 0 → dsq f q ≤ dsq f p)
noncomputable def Lst (f:Pt) (q:Pt):Prop:=q = f ∨ v5 (q.1 - f.1) (q.2 - f.2)
theorem a27 (f:Pt):dsq f f = 0:=by unfold dsq; grind
theorem L3 (f p:Pt):a8 f p f = 0:=by unfold a8; grind
theorem Q1 (f p:Pt):a8 f p p = 0:=by unfold a8; grind
theorem a2G (a b:Pt):0 ≤ dsq a b:=by unfold dsq; exact Rat.add_nonneg (M2 _) (M2 _)
theorem Lst.pos {f q:Pt} (h:Lst f q) (n:q ≠ f):v5 (q.1 - f.1) (q.2 - f.2):=h.resolve_left n
theorem a8e {f p z:Pt} (hp:p ≠ f) (lp:Lst f p) (lz:Lst f z) (c:a8 f p z = 0):∃ s:Rat,0 ≤ s ∧ z = l5 f p s:=by
 by_cases e:z = f
 ·exact ⟨0,by decide,by rw [T4]; exact e⟩
 ·obtain ⟨s,hs⟩:=Z5 (a:=f) (b:=p) (fun z=>hp z.symm) c
  refine ⟨s,?_,hs⟩
  have l:=lz.pos e
  rw [hs] at l
  unfold l5 at l
  simp only at l
  have e1:f.1 + s * (p.1 - f.1) - f.1 = s * (p.1 - f.1):=by grind
  have e2:f.2 + s * (p.2 - f.2) - f.2 = s * (p.2 - f.2):=by grind
  rw [e1,e2] at l
  exact Rat.le_of_lt ((b1o (lp.pos hp) s).mp l)
theorem b0K {f:Pt} {S:List Pt} {b:Option Pt} {o:Pt} (hS:∀ q ∈ S,Lst f q) (ho:Lst f o) (h:Fst f S b):Fst f (S ++ [o]) (O6 f b o):=by
 by_cases e:o = f
 ·subst e
  rw [a6g]
  rcases h with ⟨rfl,h⟩ | ⟨p,rfl,h1,h2,h3⟩
  ·refine .inl ⟨rfl,fun q hq=>?_⟩
   rcases List.mem_append.mp hq with hq | hq
   ·exact h q hq
   ·exact List.mem_singleton.mp hq
  ·refine .inr ⟨p,rfl,List.mem_append_left _ h1,h2,fun q hq=>?_⟩
   rcases List.mem_append.mp hq with hq | hq
   ·exact h3 q hq
   ·rw [List.mem_singleton.mp hq,L3,a27]
    exact ⟨Rat.le_refl,fun _=>a2G _ _⟩
 ·have lo:=ho.pos e
  rcases h with ⟨rfl,h⟩ | ⟨p,rfl,h1,h2,h3⟩
  ·rw [a8P e]
   refine .inr ⟨o,rfl,List.mem_append_right _ (List.mem_singleton.mpr rfl),e,fun q hq=>?_⟩
   rcases List.mem_append.mp hq with hq | hq
   ·rw [h q hq,L3,a27]
    exact ⟨Rat.le_refl,fun _=>a2G _ _⟩
   ·rw [List.mem_singleton.mp hq,Q1]
    exact ⟨Rat.le_refl,fun _=>Rat.le_refl⟩
  ·have lp:=(hS p h1).pos h2
   cases hf:O9 f p o with
   | true=>
    rw [a81 e hf]
    refine .inr ⟨o,rfl,List.mem_append_right _ (List.mem_singleton.mpr rfl),e,fun q hq=>?_⟩
    rcases List.mem_append.mp hq with hq | hq
    ·obtain ⟨c1,c2⟩:=h3 q hq
     by_cases eq:q = f
     ·rw [eq,L3,a27]
      exact ⟨Rat.le_refl,fun _=>a2G _ _⟩
     ·have lq:=(hS q hq).pos eq
      unfold O9 at hf
      by_cases c0:a8 f p o = 0
      ·rw [if_pos c0] at hf
       have hd:=of_decide_eq_true hf
       obtain ⟨s,s0,hs⟩:=a8e h2 (hS p h1) ho c0
       have hc:a8 f o q = s * a8 f p q:=by rw [hs]; unfold l5 a8; grind
       have s1:s ≠ 0:=fun z=>e (by rw [hs,z,T4])
       refine ⟨by rw [hc]; exact Rat.mul_nonneg s0 c1,fun z=>?_⟩
       rw [hc] at z
       rcases Rat.mul_eq_zero.mp z with z | z
       ·exact absurd z s1
       ·exact Rat.le_trans (c2 z) (Rat.le_of_lt hd)
      ·rw [if_neg c0] at hf
       have hd:=of_decide_eq_true hf
       have ht:=a85 lo lp lq (by unfold a8 at hd; grind) (by unfold a8 at c1; grind)
       have:0 < a8 f o q:=by unfold a8; grind
       exact ⟨Rat.le_of_lt this,fun z=>by rw [z] at this; exact absurd this Rat.lt_irrefl⟩
    ·rw [List.mem_singleton.mp hq,Q1]
     exact ⟨Rat.le_refl,fun _=>Rat.le_refl⟩
   | false=>
    rw [a77 e hf]
    refine .inr ⟨p,rfl,List.mem_append_left _ h1,h2,fun q hq=>?_⟩
    rcases List.mem_append.mp hq with hq | hq
    ·exact h3 q hq
    ·rw [List.mem_singleton.mp hq]
     unfold O9 at hf
     by_cases c0:a8 f p o = 0
     ·rw [if_pos c0] at hf
      have:=of_decide_eq_false hf
      exact ⟨by rw [c0]; exact Rat.le_refl,fun _=>by grind⟩
     ·rw [if_neg c0] at hf
      have:=of_decide_eq_false hf
      exact ⟨by grind,fun z=>absurd z c0⟩
theorem a8N {f:Pt}:∀ (l S:List Pt) (b:Option Pt),(∀ q ∈ S ++ l,Lst f q) → Fst f S b → Fst f (S ++ l) (l.foldl (O6 f) b)
 | [],S,b,_,h=>by rw [List.append_nil]; exact h
 | o :: r,S,b,hl,h=>by
  have e:S ++ o :: r = (S ++ [o]) ++ r:=by simp
  rw [List.foldl_cons,e]
  rw [e] at hl
  exact a8N r (S ++ [o]) _ hl (b0K (fun q hq=>hl q (List.mem_append_left _ (List.mem_append_left _ hq))) (hl o (List.mem_append_left _ (List.mem_append_right _ (List.mem_singleton.mpr rfl)))) h)
noncomputable def Snd (f p:Pt) (S:List Pt) (b:Option Pt):Prop:=(b = none ∧ ∀ q ∈ S,q = p) ∨ ∃ r,b = some r ∧ r ∈ S ∧ r ≠ p ∧ ((∃ q ∈ S,0 < a8 f p q) → 0 < a8 f p r)
theorem a6I {f p z:Pt} (hp:p ≠ f) (lp:Lst f p) (lz:Lst f z) (c:a8 f p z = 0) (hd:dsq f z ≤ dsq f p) (hz:z ≠ p):∃ s:Rat,s < 1 ∧ z = l5 f p s:=by
 obtain ⟨s,s0,hs⟩:=a8e hp lp lz c
 refine ⟨s,?_,hs⟩
 have d:=(b2W f p s).1
 rw [← hs] at d
 have dp:=b4e (fun z=>hp z.symm:f ≠ p)
 have ss:s * s ≤ 1:=by
  rcases (Rat.le_total:s * s ≤ 1 ∨ 1 ≤ s * s) with q | q
  ·exact q
  ·have:dsq f p ≤ s * s * dsq f p:=by
    have:=Rat.mul_le_mul_of_nonneg_right q (Rat.le_of_lt dp)
    rwa [Rat.one_mul] at this
   rw [← d] at this
   have e:s * s * dsq f p = 1 * dsq f p:=by rw [← d,Rat.one_mul]; exact Rat.le_antisymm hd this
   have e2:(s * s - 1) * dsq f p = 0:=by grind
   rcases Rat.mul_eq_zero.mp e2 with q | q
   ·grind
   ·rw [q] at dp; exact absurd dp Rat.lt_irrefl
 have s1:=(b34 s).mp ss
 have n1:s ≠ 1:=fun z1=>hz (by rw [hs,z1,a0B])
 grind
theorem b0c {f p:Pt} {S l:List Pt} {b:Option Pt} {o:Pt} (hp:p ≠ f) (hl:∀ q ∈ l,Lst f q) (pl:p ∈ l) (F:∀ q ∈ l,0 ≤ a8 f p q ∧ (a8 f p q = 0 → dsq f q ≤ dsq f p)) (hS:∀ q ∈ S,q ∈ l) (ho:o ∈ l) (h:Snd f p S b):Snd f p (S ++ [o]) (O6 p b o):=by
 by_cases e:o = p
 ·subst e
  rw [a6g]
  rcases h with ⟨rfl,h⟩ | ⟨r,rfl,h1,h2,h3⟩
  ·refine .inl ⟨rfl,fun q hq=>?_⟩
   rcases List.mem_append.mp hq with hq | hq
   ·exact h q hq
   ·exact List.mem_singleton.mp hq
  ·refine .inr ⟨r,rfl,List.mem_append_left _ h1,h2,fun ⟨q,hq,c⟩=>?_⟩
   rcases List.mem_append.mp hq with hq | hq
   ·exact h3 ⟨q,hq,c⟩
   ·rw [List.mem_singleton.mp hq,Q1] at c
    exact absurd c Rat.lt_irrefl
 ·rcases h with ⟨rfl,h⟩ | ⟨r,rfl,h1,h2,h3⟩
  ·rw [a8P e]
   refine .inr ⟨o,rfl,List.mem_append_right _ (List.mem_singleton.mpr rfl),e,fun ⟨q,hq,c⟩=>?_⟩
   rcases List.mem_append.mp hq with hq | hq
   ·rw [h q hq,Q1] at c
    exact absurd c Rat.lt_irrefl
   ·rw [List.mem_singleton.mp hq] at c
    exact c
  ·obtain ⟨ro1,ro2⟩:=F r (hS r h1)
   obtain ⟨oo1,oo2⟩:=F o ho
   cases hf:O9 p r o with
   | true=>
    rw [a81 e hf]
    refine .inr ⟨o,rfl,List.mem_append_right _ (List.mem_singleton.mpr rfl),e,fun ⟨q,hq,c⟩=>?_⟩
    rcases List.mem_append.mp hq with hq | hq
    ·have cr:=h3 ⟨q,hq,c⟩
     by_cases z:a8 f p o = 0
     ·obtain ⟨s,s1,hs⟩:=a6I hp (hl p pl) (hl o ho) z (oo2 z) e
      have k:a8 p r o = (1 - s) * a8 f p r:=by rw [hs]; unfold l5 a8; grind
      have k2:0 < a8 p r o:=by rw [k]; exact Rat.mul_pos (by grind) cr
      unfold O9 at hf
      rw [if_neg (by grind)] at hf
      have:=of_decide_eq_true hf
      grind
     ·grind
    ·rw [List.mem_singleton.mp hq] at c
     exact c
   | false=>
    rw [a77 e hf]
    refine .inr ⟨r,rfl,List.mem_append_left _ h1,h2,fun ⟨q,hq,c⟩=>?_⟩
    rcases List.mem_append.mp hq with hq | hq
    ·exact h3 ⟨q,hq,c⟩
    ·rw [List.mem_singleton.mp hq] at c
     by_cases z:a8 f p r = 0
     ·obtain ⟨s,s1,hs⟩:=a6I hp (hl p pl) (hl r (hS r h1)) z (ro2 z) h2
      have k:a8 p r o = -((1 - s) * a8 f p o):=by rw [hs]; unfold l5 a8; grind
      have k1:0 < (1 - s) * a8 f p o:=Rat.mul_pos (by grind) c
      unfold O9 at hf
      rw [if_neg (by grind)] at hf
      have:=of_decide_eq_false hf
      grind
     ·grind
theorem a7k {f p:Pt} {l0:List Pt} (hp:p ≠ f) (hl:∀ q ∈ l0,Lst f q) (pl:p ∈ l0) (F:∀ q ∈ l0,0 ≤ a8 f p q ∧ (a8 f p q = 0 → dsq f q ≤ dsq f p)):∀ (l S:List Pt) (b:Option Pt),(∀ q ∈ S ++ l,q ∈ l0) → Snd f p S b → Snd f p (S ++ l) (l.foldl (O6 p) b)
 | [],S,b,_,h=>by rw [List.append_nil]; exact h
 | o :: r,S,b,hm,h=>by
  have e:S ++ o :: r = (S ++ [o]) ++ r:=by simp
  rw [List.foldl_cons,e]
  rw [e] at hm
  exact a7k hp hl pl F r (S ++ [o]) _ hm (b0c hp hl pl F (fun q hq=>hm q (List.mem_append_left _ (List.mem_append_left _ hq))) (hm o (List.mem_append_left _ (List.mem_append_right _ (List.mem_singleton.mpr rfl)))) h)
theorem a5R {f p a b c:Pt} (hp:p ≠ f) (h1:a8 f p a = 0) (h2:a8 f p b = 0) (h3:a8 f p c = 0):a8 a b c = 0:=by
 obtain ⟨s,rfl⟩:=Z5 (a:=f) (b:=p) (fun z=>hp z.symm) h1
 obtain ⟨t,rfl⟩:=Z5 (a:=f) (b:=p) (fun z=>hp z.symm) h2
 obtain ⟨u,rfl⟩:=Z5 (a:=f) (b:=p) (fun z=>hp z.symm) h3
 unfold l5 a8
 grind
noncomputable def a55 (h:Pt) (l:List Pt):Option Pt:=l.foldl (O6 h) none
theorem a3A {f:Pt} {l:List Pt} (hf:f ∈ l) (hl:∀ q ∈ l,Lst f q) {a b c:Pt} (ha:a ∈ l) (hb:b ∈ l) (hc:c ∈ l) (h:a8 a b c ≠ 0):∃ p r,a55 f l = some p ∧ p ≠ f ∧ p ∈ l ∧ a55 p l = some r ∧ r ≠ f ∧ r ∈ l:=by
 have h1:=a8N l [] none (by simpa using hl) (.inl ⟨rfl,fun q hq=>by cases hq⟩)
 rw [List.nil_append] at h1
 rcases h1 with ⟨_,h1⟩ | ⟨p,e1,p1,p2,p3⟩
 ·exact absurd (by rw [h1 a ha,h1 b hb,h1 c hc,L3]) h
 ·have ex:∃ q ∈ l,0 < a8 f p q:=by
   by_cases z1:a8 f p a = 0
   ·by_cases z2:a8 f p b = 0
    ·by_cases z3:a8 f p c = 0
     ·exact absurd (a5R p2 z1 z2 z3) h
     ·have:=(p3 c hc).1
      exact ⟨c,hc,by grind⟩
    ·have:=(p3 b hb).1
     exact ⟨b,hb,by grind⟩
   ·have:=(p3 a ha).1
    exact ⟨a,ha,by grind⟩
  have h2:=a7k p2 hl p1 p3 l [] none (by simp) (.inl ⟨rfl,fun q hq=>by cases hq⟩)
  rw [List.nil_append] at h2
  rcases h2 with ⟨_,h2⟩ | ⟨r,e2,r1,r2,r3⟩
  ·exact absurd (h2 f hf) (fun z=>p2 z.symm)
  ·refine ⟨p,r,e1,p2,p1,e2,fun z=>?_,r1⟩
   have:=r3 ex
   rw [z,L3] at this
   exact absurd this Rat.lt_irrefl
end DL
namespace T
open PySem L2 DL
theorem a8E {ux uy vx vy wx wy:Rat} (hu:v5 ux uy) (hv:v5 vx vy) (hw:v5 wx wy) (h1:0 ≤ ux * vy - uy * vx) (h2:0 ≤ vx * wy - vy * wx):0 ≤ ux * wy - uy * wx:=by
 refine Rat.not_lt.mp fun h=>?_
 have hs:0 < -(ux * wy - uy * wx):=by grind
 have a1:=(U0 hs).mpr hv
 have a2:=a1g h1 hw a1
 have a3:=a1g h2 hu a2
 have e1:(vx * wy - vy * wx) * ux + ((ux * vy - uy * vx) * wx + -(ux * wy - uy * wx) * vx) = 0:=by grind
 have e2:(vx * wy - vy * wx) * uy + ((ux * vy - uy * vx) * wy + -(ux * wy - uy * wx) * vy) = 0:=by grind
 rw [e1,e2] at a3
 exact a0H a3
theorem a5a (r:Rat):sgn r = 1 ↔ 0 < r:=by
 unfold sgn
 by_cases h:0 < r
 ·rw [if_pos h]; exact ⟨fun _=>h,fun _=>rfl⟩
 ·rw [if_neg h]
  by_cases h2:r < 0
  ·rw [if_pos h2]; exact ⟨fun z=>absurd z (by decide),fun z=>absurd z h⟩
  ·rw [if_neg h2]; exact ⟨fun z=>absurd z (by decide),fun z=>absurd z h⟩
theorem L0 {a b:Pt} (h:lsB a b = true):v5 (b.1 - a.1) (b.2 - a.2):=(P4 a b).mp h
noncomputable def Ch (S:Pt → Prop):List Pt → Prop
 | b :: a :: r=>lsB a b = true ∧ (∀ q,S q → 0 ≤ a8 a b q) ∧ (∀ z r',r = z :: r' → 0 < a8 z a b) ∧ Ch S (a :: r)
 | _=>True
noncomputable def Up (S:Pt → Prop) (x b:Pt):Prop:=(∀ q,S q → q = b ∨ lsB q b = true) ∨ ∃ c,lsB b c = true ∧ (∀ q,S q → 0 ≤ a8 b c q) ∧ ¬ (0 < a8 b c x)
theorem a3B {S:Pt → Prop} {x b q:Pt} (U:Up S x b) (hq:S q) (bx:lsB b x = true) (h:q = b ∨ lsB b q = true):0 ≤ a8 b x q:=by
 rcases h with rfl | h
 ·have:a8 q x q = 0:=L3 q x
  rw [this]; exact Rat.le_refl
 ·rcases U with U | ⟨c,bc,Uc,n⟩
  ·rcases U q hq with e | e
   ·subst e
    rw [L3]; exact Rat.le_refl
   ·have:=lsB_ord.tr _ _ _ h e
    rw [lsB_ord.irr] at this; cases this
  ·have k1:=Uc q hq
   have k2:0 ≤ -a8 b c x:=by have:=Rat.not_lt.mp n; grind
   have:=a8E (L0 bx) (L0 bc) (L0 h) (by rw [show (x.1 - b.1) * (c.2 - b.2) - (x.2 - b.2) * (c.1 - b.1) = -a8 b c x by unfold a8; grind]; exact k2) (by unfold a8 at k1; exact k1)
   unfold a8
   exact this
theorem b0Q {a b x q:Pt} (ab:lsB a b = true) (bx:lsB b x = true) (qb:lsB q b = true) (h1:0 ≤ a8 a b q) (h2:0 < a8 a b x):0 ≤ a8 b x q:=by
 have:=a8E (L0 qb) (L0 ab) (L0 bx) (by rw [show (b.1 - q.1) * (b.2 - a.2) - (b.2 - q.2) * (b.1 - a.1) = a8 a b q by unfold a8; grind]; exact h1)
  (by rw [show (b.1 - a.1) * (x.2 - b.2) - (b.2 - a.2) * (x.1 - b.1) = a8 a b x by unfold a8; grind]; exact Rat.le_of_lt h2)
 have e:a8 b x q = (b.1 - q.1) * (x.2 - b.2) - (b.2 - q.2) * (x.1 - b.1):=by unfold a8; grind
 rw [e]; exact this
theorem b3t {z a b x:Pt} (za:lsB z a = true) (ab:lsB a b = true) (bx:lsB b x = true) (h1:0 < a8 z a b) (h2:0 < a8 a b x):0 < a8 z a x:=by
 have:=a85 (L0 za) (L0 ab) (L0 bx) (by rw [show (a.1 - z.1) * (b.2 - a.2) - (a.2 - z.2) * (b.1 - a.1) = a8 z a b by unfold a8; grind]; exact h1)
  (by rw [show (b.1 - a.1) * (x.2 - b.2) - (b.2 - a.2) * (x.1 - b.1) = a8 a b x by unfold a8; grind]; exact Rat.le_of_lt h2)
 have e:a8 z a x = a8 z a b + ((a.1 - z.1) * (x.2 - b.2) - (a.2 - z.2) * (x.1 - b.1)):=by unfold a8; grind
 rw [e]; grind
theorem a7o {S:Pt → Prop} {x:Pt}:∀ {r:List Pt} {b a:Pt},Ch S (b :: a :: r) → 0 < a8 a b x → lsB b x = true → Ch (fun q=>S q ∨ q = x) (b :: a :: r)
 | r,b,a,⟨ab,L,T,R⟩,h,bx=>by
  refine ⟨ab,fun q hq=>hq.elim (L q) fun e=>by rw [e]; exact Rat.le_of_lt h,T,?_⟩
  cases r with
  | nil=>trivial
  | cons z r'=>
   have t:=T z r' rfl
   exact a7o R (b3t R.1 ab bx t h) (lsB_ord.tr _ _ _ ab bx)
theorem a73 {S:Pt → Prop} {x:Pt} (hx:∀ q,S q → lsB q x = true):∀ (r:List Pt) (b:Pt),Ch S (b :: r) → Up S x b → (∀ p,(b :: r).getLast? = some p → ∀ q,S q → q = p ∨ lsB p q = true) → (∀ z ∈ b :: r,S z) → Ch (fun q=>S q ∨ q = x) (x :: B7 trB x (b :: r))
 | [],b,C,U,B,I=>by
  have bx:=hx b (I b (by simp))
  refine ⟨bx,fun q hq=>?_,fun z r' e=>(by cases e),trivial⟩
  rcases hq with hq | rfl
  ·exact a3B U hq bx (B b rfl q hq)
  ·rw [Q1]; exact Rat.le_refl
 | a :: r,b,C,U,B,I=>by
  obtain ⟨ab,L,T,R⟩:=id C
  have bx:=hx b (I b (by simp))
  simp only [B7]
  by_cases t:trB a b x = true
  ·rw [if_pos t]
   have t:0 < a8 a b x:=by
    unfold trB at t
    have:=of_decide_eq_true t
    exact (a5a _).mp this
   refine ⟨bx,fun q hq=>?_,fun z r' e=>(by cases e; exact t),a7o C t bx⟩
   rcases hq with hq | rfl
   ·by_cases n:q = b
    ·exact a3B U hq bx (.inl n)
    ·cases w:lsB q b with
     | true=>exact b0Q ab bx w (L q hq) t
     | false=>exact a3B U hq bx (.inr (lsB_ord.tot q b w n))
   ·rw [Q1]; exact Rat.le_refl
  ·rw [if_neg t]
   have t:¬ (0 < a8 a b x):=fun z=>t (by unfold trB; exact decide_eq_true ((a5a _).mpr z))
   exact a73 hx r a R (.inr ⟨b,ab,L,t⟩) (fun p e=>B p (by rw [List.getLast?_cons_cons]; exact e)) fun z hz=>I z (List.mem_cons_of_mem _ hz)
theorem a4i {α:Type} {t:α → α → α → Bool} {x:α}:∀ l:List α,(B7 t x l).getLast? = l.getLast?
 | []=>rfl
 | [b]=>rfl
 | b :: a :: r=>by
  simp only [B7]
  split
  ·rfl
  ·rw [a4i (a :: r),List.getLast?_cons_cons]
theorem a2U {α:Type} {t:α → α → α → Bool} {x:α}:∀ {l:List α},l ≠ [] → B7 t x l ≠ []
 | [],h=>absurd rfl h
 | [b],_=>by simp [B7]
 | b :: a :: r,_=>by
  simp only [B7]
  split
  ·simp
  ·exact a2U (by simp)
structure Stk (S:Pt → Prop) (acc:List Pt):Prop where
 ch:Ch S acc
 top:∀ b r,acc = b :: r → ∀ q,S q → q = b ∨ lsB q b = true
 bot:∀ p,acc.getLast? = some p → ∀ q,S q → q = p ∨ lsB p q = true
 mem:∀ z ∈ acc,S z
theorem b0n {S:Pt → Prop} {acc:List Pt} {x:Pt} (h:Stk S acc) (ne:acc ≠ []) (hx:∀ q,S q → lsB q x = true):Stk (fun q=>S q ∨ q = x) (x :: B7 trB x acc):=by
 cases acc with
 | nil=>exact absurd rfl ne
 | cons b r=>
  have pn:B7 trB x (b :: r) ≠ []:=a2U ne
  refine ⟨a73 hx r b h.ch (.inl (h.top b r rfl)) h.bot h.mem,fun b' r' e q hq=>?_,fun p e q hq=>?_,fun z hz=>?_⟩
  ·cases e
   exact hq.elim (fun z=>.inr (hx q z)) .inl
  ·have e2:(b :: r).getLast? = some p:=by
    rw [← a4i (t:=trB) (x:=x) (b :: r)]
    cases w:B7 trB x (b :: r) with
    | nil=>exact absurd w pn
    | cons c cs=>rw [w,List.getLast?_cons_cons] at e; exact e
   rcases hq with hq | rfl
   ·exact h.bot p e2 q hq
   ·exact .inr (hx p (h.mem p (List.mem_of_getLast? e2)))
  ·rcases List.mem_cons.mp hz with e | e
   ·exact .inr e
   ·exact .inl (h.mem z (a4q e))
theorem Ch.sub {S S':Pt → Prop} (h:∀ q,S' q → S q):∀ {l:List Pt},Ch S l → Ch S' l
 | [],_=>trivial
 | [b],_=>trivial
 | b :: a :: r,⟨h1,h2,h3,h4⟩=>⟨h1,fun q hq=>h2 q (h q hq),h3,Ch.sub h h4⟩
theorem Stk.sub {S S':Pt → Prop} {l:List Pt} (h:Stk S l) (e:∀ q,S' q ↔ S q):Stk S' l:=
 ⟨h.ch.sub fun q hq=>(e q).mp hq,fun b r g q hq=>h.top b r g q ((e q).mp hq),fun p g q hq=>h.bot p g q ((e q).mp hq),fun z hz=>(e z).mpr (h.mem z hz)⟩
theorem a8d:∀ (l acc:List Pt) (S:Pt → Prop),Stk S acc → acc ≠ [] → (∀ q,S q → ∀ x ∈ l,lsB q x = true) → Srt lsB l → Stk (fun q=>S q ∨ q ∈ l) (D7 trB acc l) ∧ D7 trB acc l ≠ [] ∧ (D7 trB acc l).getLast? = acc.getLast?
 | [],acc,S,h,ne,_,_=>⟨h.sub fun q=>by simp,ne,rfl⟩
 | x :: xs,acc,S,h,ne,hl,hs=>by
  obtain ⟨s1,s2⟩:=List.pairwise_cons.mp hs
  have h1:=b0n h ne fun q hq=>hl q hq x (List.mem_cons_self ..)
  obtain ⟨g1,g2,g3⟩:=a8d xs (x :: B7 trB x acc) _ h1 (by simp) (fun q hq y hy=>hq.elim (fun z=>hl q z y (List.mem_cons_of_mem _ hy)) fun z=>z ▸ s1 y hy) s2
  refine ⟨g1.sub fun q=>by rw [List.mem_cons,or_assoc],g2,?_⟩
  simp only [D7]
  rw [g3]
  cases w:B7 trB x acc with
  | nil=>exact absurd w (a2U ne)
  | cons c cs=>rw [List.getLast?_cons_cons,← w,a4i]
theorem a3y {p:Pt} {l:List Pt} (h:Srt lsB (p :: l)):Stk (fun q=>q ∈ p :: l) (D7 trB [] (p :: l)) ∧ (D7 trB [] (p :: l)).getLast? = some p ∧ D7 trB [] (p :: l) ≠ []:=by
 obtain ⟨h1,h2⟩:=List.pairwise_cons.mp h
 have s0:Stk (fun q=>q = p) [p]:=⟨trivial,fun b r e q hq=>by cases e; exact .inl hq,fun p' e q hq=>by cases e; exact .inl hq,fun z hz=>by simpa using hz⟩
 obtain ⟨g1,g2,g3⟩:=a8d l [p] _ s0 (by simp) (fun q hq x hx=>by rw [hq]; exact h1 x hx) h2
 exact ⟨g1.sub fun q=>by rw [List.mem_cons],g3,g2⟩
noncomputable def B5 (l:List Pt):List Pt:=a0O lsB trB (Q3 l)
theorem a9k {l:List Pt} {z:Pt} (h:z ∈ B5 l):z ∈ l:=by
 unfold B5 a0O at h
 rcases List.mem_append.mp h with h | h
 ·exact a3J (S6 _ (a0L (List.dropLast_subset _ h)))
 ·exact a3J (S6 _ (List.mem_reverse.mp (a0L (List.dropLast_subset _ h))))
structure Nx (S:Pt → Prop) (a b:Pt):Prop where
 ne:b ≠ a
 lf:∀ q,S q → 0 ≤ a8 a b q
 far:∀ q,S q → a8 a b q = 0 → ∃ s:Rat,0 ≤ s ∧ s ≤ 1 ∧ q = l5 a b s
theorem X5 {a b:Pt} (h:lsB a b = true):b ≠ a:=fun e=>by rw [e,lsB_ord.irr] at h; cases h
theorem b15 {a b:Pt} {s:Rat} (h:lsB a b = true) (hs:1 < s):lsB b (l5 a b s) = true:=by
 rw [P4]
 have e1:(l5 a b s).1 - b.1 = (s - 1) * (b.1 - a.1):=by unfold l5; grind
 have e2:(l5 a b s).2 - b.2 = (s - 1) * (b.2 - a.2):=by unfold l5; grind
 rw [e1,e2]
 exact (U0 (by grind)).mpr (L0 h)
theorem b1J {a b:Pt} {s:Rat} (h:lsB a b = true) (hs:s < 0):lsB (l5 a b s) a = true:=by
 rw [P4]
 have e1:a.1 - (l5 a b s).1 = (-s) * (b.1 - a.1):=by unfold l5; grind
 have e2:a.2 - (l5 a b s).2 = (-s) * (b.2 - a.2):=by unfold l5; grind
 rw [e1,e2]
 exact (U0 (by grind)).mpr (L0 h)
theorem a4P {a b:Pt} (h:lsB a b = true) (h2:lsB b a = true):False:=by
 have:=lsB_ord.tr _ _ _ h h2
 rw [lsB_ord.irr] at this; cases this
noncomputable def Abv (S:Pt → Prop) (a b:Pt):Prop:=(∀ q,S q → q = b ∨ lsB q b = true) ∨ ∃ c,0 < a8 a b c ∧ ∀ q,S q → 0 ≤ a8 b c q
theorem b5K {S:Pt → Prop} {a b:Pt} {r:List Pt} (C:Ch S (b :: a :: r)) (U:Abv S a b) (B:r = [] → ∀ q,S q → q = a ∨ lsB a q = true):Nx S a b:=by
 obtain ⟨ab,L,T,R⟩:=C
 refine ⟨X5 ab,L,fun q hq c0=>?_⟩
 obtain ⟨s,rfl⟩:=Z5 (fun e=>X5 ab e.symm) c0
 refine ⟨s,Rat.not_lt.mp fun hs=>?_,Rat.not_lt.mp fun hs=>?_,rfl⟩
 ·have lo:=b1J ab hs
  cases r with
  | nil=>
   rcases B rfl _ hq with e | e
   ·rw [e,lsB_ord.irr] at lo; cases lo
   ·exact a4P lo e
  | cons z r'=>
   have t:=T z r' rfl
   have k:=R.2.1 _ hq
   have e:a8 z a (l5 a b s) = s * a8 z a b:=by unfold a8 l5; grind
   rw [e] at k
   have:=Rat.mul_pos (show 0 < -s by grind) t
   grind
 ·have hi:=b15 ab hs
  rcases U with U | ⟨w,t,k⟩
  ·rcases U _ hq with e | e
   ·rw [e,lsB_ord.irr] at hi; cases hi
   ·exact a4P hi e
  ·have k:=k _ hq
   have e:a8 b w (l5 a b s) = -((s - 1) * a8 a b w):=by unfold a8 l5; grind
   rw [e] at k
   have:=Rat.mul_pos (show 0 < s - 1 by grind) t
   grind
noncomputable def Run (R:Pt → Pt → Prop):List Pt → Prop
 | a :: b :: r=>R a b ∧ Run R (b :: r)
 | _=>True
theorem a52 {R:Pt → Pt → Prop} {c:Pt}:∀ {l:List Pt} {b:Pt},Run R (l ++ [b]) → R b c → Run R (l ++ [b] ++ [c])
 | [],b,_,h=>⟨h,trivial⟩
 | [a],b,⟨h1,_⟩,h=>⟨h1,h,trivial⟩
 | a :: a' :: l,b,⟨h1,h2⟩,h=>⟨h1,a52 (l:=a' :: l) h2 h⟩
theorem a6B {S:Pt → Prop}:∀ (r:List Pt) (b:Pt),Ch S (b :: r) → (∀ a r',r = a :: r' → Abv S a b) → (∀ p,(b :: r).getLast? = some p → ∀ q,S q → q = p ∨ lsB p q = true) → Run (Nx S) (b :: r).reverse
 | [],b,_,_,_=>trivial
 | a :: r,b,C,U,B=>by
  have n:=b5K C (U a r rfl) (fun e=>by subst e; exact B a rfl)
  have ih:=a6B r a C.2.2.2 (fun z r' e=>.inr ⟨b,C.2.2.1 z r' e,C.2.1⟩) (fun p e=>B p (by rw [List.getLast?_cons_cons]; exact e))
  rw [List.reverse_cons] at ih
  rw [List.reverse_cons,List.reverse_cons]
  exact a52 ih n
theorem a8K {p:Pt} {l:List Pt} (h:Srt lsB (p :: l)):Run (Nx fun q=>q ∈ p :: l) (u3 trB (p :: l)):=by
 obtain ⟨s,_,ne⟩:=a3y h
 unfold u3
 cases e:D7 trB [] (p :: l) with
 | nil=>exact absurd e ne
 | cons b r=>
  rw [e] at s
  exact a6B r b s.ch (fun a r' _=>.inl (s.top b r rfl)) s.bot
theorem a5y {p:Pt} {l:List Pt} (h:Srt lsB (p :: l)):(u3 trB (p :: l)).head? = some p:=by
 obtain ⟨_,e,_⟩:=a3y h
 unfold u3
 rw [List.head?_reverse]
 exact e
theorem a5p {α:Type} {t:α → α → α → Bool}:∀ (l acc:List α) (x:α),(D7 t acc (l ++ [x])).head? = some x
 | [],acc,x=>rfl
 | y :: l,acc,x=>a5p l _ x
theorem a8w {l:List Pt} {x:Pt}:(u3 trB (l ++ [x])).getLast? = some x:=by
 unfold u3
 rw [List.getLast?_reverse]
 exact a5p l [] x
noncomputable def ng (p:Pt):Pt:=(-p.1,-p.2)
theorem U3 (p:Pt):ng (ng p) = p:=Prod.ext (by unfold ng; grind) (by unfold ng; grind)
theorem a3P (a b c:Pt):a8 (ng a) (ng b) (ng c) = a8 a b c:=by unfold a8 ng; grind
theorem a21 (a b c:Pt):trB (ng a) (ng b) (ng c) = trB a b c:=by unfold trB; rw [a3P]
theorem a5q (a b:Pt):lsB (ng a) (ng b) = lsB b a:=by
 rw [Bool.eq_iff_iff,P4,P4]
 have e1:(ng b).1 - (ng a).1 = a.1 - b.1:=by unfold ng; grind
 have e2:(ng b).2 - (ng a).2 = a.2 - b.2:=by unfold ng; grind
 rw [e1,e2]
theorem b6F (a b:Pt) (s:Rat):ng (l5 a b s) = l5 (ng a) (ng b) s:=Prod.ext (by unfold ng l5; grind) (by unfold ng l5; grind)
theorem b0W {S:Pt → Prop} {a b:Pt} (h:Nx (fun q=>S (ng q)) (ng a) (ng b)):Nx S a b:=by
 refine ⟨fun e=>h.ne (by rw [e]),fun q hq=>?_,fun q hq c=>?_⟩
 ·rw [← a3P]; exact h.lf (ng q) (by rw [U3]; exact hq)
 ·rw [← a3P] at c
  obtain ⟨s,h1,h2,e⟩:=h.far (ng q) (by rw [U3]; exact hq) c
  refine ⟨s,h1,h2,?_⟩
  rw [← b6F] at e
  rw [← U3 q,e,U3]
theorem a7K {R R':Pt → Pt → Prop} {f:Pt → Pt} (h:∀ a b,R (f a) (f b) → R' a b):∀ {l:List Pt},Run R (l.map f) → Run R' l
 | [],_=>trivial
 | [a],_=>trivial
 | a :: b :: r,⟨h1,h2⟩=>⟨h a b h1,a7K (l:=b :: r) h h2⟩
theorem a8T {R R':Pt → Pt → Prop} (h:∀ a b,R a b → R' a b):∀ {l:List Pt},Run R l → Run R' l
 | [],_=>trivial
 | [a],_=>trivial
 | a :: b :: r,⟨h1,h2⟩=>⟨h a b h1,a8T (l:=b :: r) h h2⟩
theorem Nx.sub {S S':Pt → Prop} {a b:Pt} (h:Nx S a b) (e:∀ q,S' q → S q):Nx S' a b:=⟨h.ne,fun q hq=>h.lf q (e q hq),fun q hq=>h.far q (e q hq)⟩
theorem a2C {l:List Pt} (h:Srt lsB l):Srt lsB (l.reverse.map ng):=by
 refine List.pairwise_map.mpr ?_
 have:l.reverse.Pairwise fun a b=>lsB b a = true:=List.pairwise_reverse.mpr h
 exact this.imp fun {a b} e=>by rw [a5q]; exact e
theorem b6y {l:List Pt} (h:Srt lsB l):Run (Nx fun q=>q ∈ l) (u3 trB l.reverse):=by
 have hs:=a2C h
 have e:u3 trB (l.reverse.map ng) = (u3 trB l.reverse).map ng:=a34 (f:=ng) a21 l.reverse
 have m:∀ q,q ∈ l → ng q ∈ l.reverse.map ng:=fun q hq=>List.mem_map_of_mem (List.mem_reverse.mpr hq)
 cases w:l.reverse.map ng with
 | nil=>
  have:l = []:=by simpa using w
  subst this
  trivial
 | cons p r=>
  rw [w] at hs
  have R:=a8K hs
  rw [← w,e] at R
  exact a7K (fun a b hab=>b0W (hab.sub fun q hq=>by have z:=m _ hq; rw [U3] at z; exact z)) R
theorem b4O {a b:Pt} (h:b ≠ a) {s:Rat} (e:b = l5 a b s):s = 1:=by
 unfold l5 at e
 have e1:b.1 = a.1 + s * (b.1 - a.1):=congrArg Prod.fst e
 have e2:b.2 = a.2 + s * (b.2 - a.2):=congrArg Prod.snd e
 by_cases z:b.1 - a.1 = 0
 ·have z2:b.2 - a.2 ≠ 0:=fun w=>h (Prod.ext (by grind) (by grind))
  have:(s - 1) * (b.2 - a.2) = 0:=by grind
  rcases Rat.mul_eq_zero.mp this with q | q
  ·grind
  ·exact absurd q z2
 ·have:(s - 1) * (b.1 - a.1) = 0:=by grind
  rcases Rat.mul_eq_zero.mp this with q | q
  ·grind
  ·exact absurd q z
theorem b0H (a b:Pt) (s t:Rat):l5 a (l5 a b s) t = l5 a b (t * s):=by
 unfold l5
 exact Prod.ext (by grind) (by grind)
theorem b54 (a b c:Pt):a8 a c b = -a8 a b c:=by unfold a8; grind
theorem b5b {S:Pt → Prop} {a b c:Pt} (hb:S b) (hc:S c) (h1:Nx S a b) (h2:Nx S a c):b = c:=by
 have k1:=h1.lf c hc
 have k2:=h2.lf b hb
 have e:=b54 a b c
 have z1:a8 a b c = 0:=by grind
 have z2:a8 a c b = 0:=by grind
 obtain ⟨s,s0,s1,es⟩:=h1.far c hc z1
 obtain ⟨t,t0,t1,et⟩:=h2.far b hb z2
 have q:b = l5 a b (t * s):=by rw [← b0H,← es]; exact et
 have q:=b4O h1.ne q
 have s1':s = 1:=by
  have a1:t * s ≤ 1 * s:=Rat.mul_le_mul_of_nonneg_right t1 s0
  grind
 rw [es,s1',a0B]
theorem a70 {R:Pt → Pt → Prop} {x:Pt}:∀ {l m:List Pt},Run R (l ++ [x]) → Run R (x :: m) → Run R (l ++ x :: m)
 | [],m,_,h=>h
 | [a],m,⟨h1,_⟩,h=>⟨h1,h⟩
 | a :: b :: l,m,⟨h1,h2⟩,h=>⟨h1,a70 (l:=b :: l) h2 h⟩
theorem a1e {R:Pt → Pt → Prop}:∀ {l:List Pt} {i:Nat} {a b:Pt},Run R l → l[i]? = some a → l[i + 1]? = some b → R a b
 | [],i,a,b,_,h,_=>by simp at h
 | [c],i,a,b,_,_,h=>by simp at h
 | c :: d :: r,0,a,b,⟨h1,_⟩,e1,e2=>by simp at e1 e2; subst e1; subst e2; exact h1
 | c :: d :: r,i + 1,a,b,⟨_,h2⟩,e1,e2=>a1e (l:=d :: r) h2 (by simpa using e1) (by simpa using e2)
structure Rnd (S:Pt → Prop) (p:Pt) (C:List Pt):Prop where
 hd:C.head? = some p
 run:Run (Nx S) (C ++ [p])
 mem:∀ z ∈ C,S z
 nb:∀ i,0 < i → C[i]? ≠ some p
theorem Rnd.nodup {S:Pt → Prop} {p:Pt} {C:List Pt} (h:Rnd S p C):C.Nodup:=by
 have sp:S p:=h.mem p (List.mem_of_mem_head? h.hd)
 have inS:∀ i a,(C ++ [p])[i]? = some a → S a:=fun i a e=>by
  rcases List.mem_append.mp (List.mem_of_getElem? e) with z | z
  ·exact h.mem a z
  ·rw [List.mem_singleton.mp z]; exact sp
 have shift:∀ (t i j:Nat),i < j → j + t ≤ C.length → (C ++ [p])[i]? = (C ++ [p])[j]? → (C ++ [p])[i + t]? = (C ++ [p])[j + t]?:=by
  intro t
  induction t with
  | zero=>intro i j _ _ e; exact e
  | succ t ih=>
   intro i j hij hl e
   have e':=ih i j hij (by omega) e
   have l:(C ++ [p]).length = C.length + 1:=by simp
   obtain ⟨a,ha⟩:∃ a,(C ++ [p])[j + t]? = some a:=⟨_,List.getElem?_eq_getElem (by omega)⟩
   obtain ⟨b,hb⟩:∃ b,(C ++ [p])[j + t + 1]? = some b:=⟨_,List.getElem?_eq_getElem (by omega)⟩
   obtain ⟨c,hc⟩:∃ c,(C ++ [p])[i + t + 1]? = some c:=⟨_,List.getElem?_eq_getElem (by omega)⟩
   have r1:=a1e h.run ha hb
   have r2:=a1e h.run (e'.trans ha) hc
   have:=b5b (inS _ _ hb) (inS _ _ hc) r1 r2
   show (C ++ [p])[i + t + 1]? = (C ++ [p])[j + t + 1]?
   rw [hb,hc,this]
 refine List.pairwise_iff_getElem.mpr fun i j hi hj hij e=>?_
 have e:C[i]? = C[j]?:=by rw [List.getElem?_eq_getElem hi,List.getElem?_eq_getElem hj,e]
 have g:∀ k,k < C.length → (C ++ [p])[k]? = C[k]?:=fun k hk=>List.getElem?_append_left hk
 have s:=shift (C.length - j) i j hij (by omega) (by rw [g i (by omega),g j hj]; exact e)
 rw [show j + (C.length - j) = C.length by omega,List.getElem?_append_right (Nat.le_refl _),Nat.sub_self,g _ (by omega)] at s
 exact h.nb (i + (C.length - j)) (by omega) s
theorem a4B {α:Type} {l:List α} {x:α} (h:l.getLast? = some x):l.dropLast ++ [x] = l:=by
 obtain ⟨m,rfl⟩:=List.getLast?_eq_some_iff.mp h
 simp
theorem b48 {α:Type} {l:List α} {x:α} (h:l.head? = some x) (h2:2 ≤ l.length):l.dropLast.head? = some x:=by
 match l,h2 with
 | a :: b :: r,_=>simpa using h
theorem a8X {S:Pt → Prop}:∀ {acc:List Pt},Ch S acc → acc.Pairwise fun b a=>lsB a b = true
 | [],_=>List.Pairwise.nil
 | [b],_=>List.pairwise_singleton _ _
 | b :: a :: r,⟨ab,_,_,R⟩=>by
  have ih:=a8X R
  refine List.pairwise_cons.mpr ⟨fun z hz=>?_,ih⟩
  rcases List.mem_cons.mp hz with q | q
  ·exact q ▸ ab
  ·exact lsB_ord.tr _ _ _ ((List.pairwise_cons.mp ih).1 z q) ab
theorem a42 {p:Pt} {l:List Pt} (h:Srt lsB (p :: l)):Srt lsB (u3 trB (p :: l)):=List.pairwise_reverse.mpr (a8X (a3y h).1.ch)
theorem a8Z {l:List Pt} (hl:l.length < 2 ^ 20) {p:Pt} {r:List Pt} (e:M3 l = p :: r) (hr:r ≠ []):Rnd (fun q=>q ∈ l) p (B5 l):=by
 have hs:=b4w hl
 rw [e] at hs
 obtain ⟨m,x,rx⟩:∃ m x,r = m ++ [x]:=by
  obtain ⟨x,hx⟩:∃ x,r.getLast? = some x:=by
   cases q:r.getLast? with
   | none=>exact absurd (List.getLast?_eq_none_iff.mp q) hr
   | some x=>exact ⟨x,rfl⟩
  obtain ⟨m,q⟩:=List.getLast?_eq_some_iff.mp hx
  exact ⟨m,x,q⟩
 have el:p :: r = (p :: m) ++ [x]:=by rw [rx]; rfl
 have er:(p :: r).reverse = x :: (p :: m).reverse:=by rw [el]; simp
 have px:∀ z ∈ r,lsB p z = true:=(List.pairwise_cons.mp hs).1
 have xr:x ∈ r:=by rw [rx]; simp
 have inl:∀ z,z ∈ l ↔ z ∈ p :: r:=fun z=>by rw [← rowP_in,e]
 have eh:B5 l = (u3 trB (p :: r)).dropLast ++ (u3 trB (p :: r).reverse).dropLast:=by
  unfold B5 a0O
  show (u3 trB (M3 l)).dropLast ++ (u3 trB (M3 l).reverse).dropLast = _
  rw [e]
 have R1:=a8K hs
 have R2:=b6y hs
 have H1:=a5y hs
 have L1:(u3 trB (p :: r)).getLast? = some x:=by rw [el]; exact a8w
 have L2:(u3 trB (p :: r).reverse).getLast? = some p:=by rw [List.reverse_cons]; exact a8w
 have H2:(u3 trB (p :: r).reverse).head? = some x:=by
  have hs2:=a2C hs
  have q:u3 trB ((p :: r).reverse.map ng) = (u3 trB (p :: r).reverse).map ng:=a34 (f:=ng) a21 _
  rw [er,List.map_cons] at hs2
  have b:=a5y hs2
  rw [← List.map_cons,← er,q,List.head?_map] at b
  cases w:(u3 trB (p :: r).reverse).head? with
  | none=>rw [w] at b; cases b
  | some y=>
   rw [w] at b
   have:ng y = ng x:=Option.some.inj b
   rw [← U3 y,this,U3]
 have n1:2 ≤ (u3 trB (p :: r)).length:=by
  match w:u3 trB (p :: r),H1,L1 with
  | [],h,_=>cases h
  | [a],h1,h2=>
   simp at h1 h2
   exact absurd (h2 ▸ h1 ▸ rfl:x = p) (X5 (px x xr))
  | a :: b :: c,_,_=>simp
 have mem1:∀ z ∈ u3 trB (p :: r),z ∈ p :: r:=fun z hz=>a0L hz
 have mem2:∀ z ∈ u3 trB (p :: r).reverse,z ∈ p :: r:=fun z hz=>List.mem_reverse.mp (a0L hz)
 have cp:B5 l ++ [p] = (u3 trB (p :: r)).dropLast ++ u3 trB (p :: r).reverse:=by rw [eh,List.append_assoc,a4B L2]
 refine ⟨?_,?_,fun z hz=>a9k hz,fun i hi q=>?_⟩
 ·rw [eh,List.head?_append,b48 H1 n1]; rfl
 ·rw [cp]
  cases w:u3 trB (p :: r).reverse with
  | nil=>rw [w] at H2; cases H2
  | cons y m2=>
   rw [w] at H2
   have:y = x:=by simpa using H2
   subst this
   refine a8T (R:=Nx fun q=>q ∈ p :: r) (fun a b h=>Nx.sub h fun q hq=>(inl q).mp hq) (a70 (by rw [a4B L1]; exact R1) (by rw [← w]; exact R2))
 ·have S1:=a42 hs
  have S2:(u3 trB (p :: r).reverse).Pairwise fun a b=>lsB b a = true:=by
   have hs2:=a2C hs
   have q:u3 trB ((p :: r).reverse.map ng) = (u3 trB (p :: r).reverse).map ng:=a34 (f:=ng) a21 _
   rw [er,List.map_cons] at hs2
   have b:=a42 hs2
   rw [← List.map_cons,← er,q] at b
   exact (List.pairwise_map.mp b).imp fun {a c} z=>by rw [a5q] at z; exact z
  rw [← a4B L2] at S2
  have B:∀ z ∈ (u3 trB (p :: r).reverse).dropLast,z ≠ p:=fun z hz w=>X5 ((List.pairwise_append.mp S2).2.2 z hz p (by simp)) w
  have A:∀ j,0 < j → (u3 trB (p :: r)).dropLast[j]? ≠ some p:=fun j hj w=>by
   cases c:u3 trB (p :: r) with
   | nil=>rw [c] at H1; cases H1
   | cons a t=>
    rw [c] at H1 w S1
    have ap:a = p:=by simpa using H1
    have m:p ∈ t:=by
     have w2:(a :: t)[j]? = some p:=by
      rw [List.getElem?_dropLast] at w
      split at w
      ·exact w
      ·cases w
     cases j with
     | zero=>omega
     | succ j=>exact List.mem_of_getElem? (by simpa using w2)
    exact X5 ((List.pairwise_cons.mp S1).1 p m) ap.symm
  rw [eh] at q
  by_cases hi2:i < (u3 trB (p :: r)).dropLast.length
  ·rw [List.getElem?_append_left hi2] at q
   exact A i hi q
  ·rw [List.getElem?_append_right (by omega)] at q
   exact B p (List.mem_of_getElem? q) rfl
end T
namespace DL
open PySem L2
structure Ok (k n:Nat) (d:D):Prop where
 pl:d.plain = true
 sh:d.py.showable = true
 la:d.py.canLay0 = true
 dp:d.py.depth ≤ k
 le:d.py.leavesShort 1921 = true
 bu:d.py.bulk ≤ n
structure OkL (k n:Nat) (ds:List D):Prop where
 pl:D.plains ds = true
 sh:PyData.showableAll (D.pys ds) = true
 la:PyData.canLayAll0 (D.pys ds) = true
 dp:PyData.depthAll (D.pys ds) ≤ k
 le:PyData.leavesShortAll 1921 (D.pys ds) = true
 bu:PyData.bulkAll (D.pys ds) ≤ n
theorem Ok.mono {k n k' n':Nat} {d:D} (h:Ok k n d) (hk:k ≤ k') (hn:n ≤ n'):Ok k' n' d:=⟨h.pl,h.sh,h.la,Nat.le_trans h.dp hk,h.le,Nat.le_trans h.bu hn⟩
theorem OkL.mono {k n k' n':Nat} {ds:List D} (h:OkL k n ds) (hk:k ≤ k') (hn:n ≤ n'):OkL k' n' ds:=⟨h.pl,h.sh,h.la,Nat.le_trans h.dp hk,h.le,Nat.le_trans h.bu hn⟩
theorem Ok.non:Ok 0 0 .non:=⟨rfl,rfl,rfl,Nat.le_refl _,rfl,Nat.le_refl _⟩
theorem Ok.bl (b:Bool):Ok 0 0 (.bl b):=⟨rfl,rfl,rfl,Nat.le_refl _,rfl,Nat.le_refl _⟩
theorem Ok.int {i:Int} (h:Bd 1920 i):Ok 0 0 (.int i):=by
 have hl:i.natAbs.log2 < 1920:=Y1 (by decide) h
 refine ⟨rfl,?_,rfl,Nat.le_refl _,?_,Nat.le_refl _⟩
 ·simp only [D.py,PyData.showable]; exact decide_eq_true hl
 ·simp only [D.py,PyData.leavesShort,PyData.shown]
  exact decide_eq_true (b3H hl)
theorem Ok.str {x:Str} (h:PyData.strOk x = true):Ok 0 x.length (.str x):=by
 refine ⟨rfl,rfl,?_,Nat.le_refl _,?_,Nat.le_refl _⟩
 ·simp only [D.py,PyData.canLay0]; exact h
 ·exact PyData.leavesShort_of_canLay0 1921 (.str x) (by simp only [PyData.canLay0]; exact h) rfl
theorem OkL.nil:OkL 0 0 []:=⟨rfl,rfl,rfl,Nat.le_refl _,rfl,Nat.le_refl _⟩
theorem OkL.cons {k l n m:Nat} {d:D} {ds:List D} (h:Ok k n d) (hs:OkL l m ds):OkL (max k l) (n + 1 + m) (d :: ds):=by
 refine ⟨?_,?_,?_,?_,?_,?_⟩
 ·simp only [D.plains,h.pl,hs.pl,Bool.and_self]
 ·simp only [D.pys,PyData.showableAll,h.sh,hs.sh,Bool.and_self]
 ·simp only [D.pys,PyData.canLayAll0,h.la,hs.la,Bool.and_self]
 ·have:=h.dp; have:=hs.dp; simp only [D.pys,PyData.depthAll]; omega
 ·simp only [D.pys,PyData.leavesShortAll,h.le,hs.le,Bool.and_self]
 ·have:=h.bu; have:=hs.bu; simp only [D.pys,PyData.bulkAll]; omega
theorem Ok.tup {k n:Nat} {ds:List D} (h:OkL k n ds):Ok (k + 1) n (.tup ds):=by
 refine ⟨?_,?_,?_,?_,?_,?_⟩
 ·simp only [D.plain,h.pl]
 ·simp only [D.py,PyData.showable,h.sh]
 ·simp only [D.py,PyData.canLay0,h.la]
 ·have:=h.dp; simp only [D.py,PyData.depth]; omega
 ·simp only [D.py,PyData.leavesShort,h.le]
 ·have:=h.bu; simp only [D.py,PyData.bulk]; omega
theorem Ok.lst {k n:Nat} {ds:List D} (h:OkL k n ds):Ok (k + 1) n (.lst ds):=by
 refine ⟨?_,?_,?_,?_,?_,?_⟩
 ·simp only [D.plain,h.pl]
 ·simp only [D.py,PyData.showable,h.sh]
 ·simp only [D.py,PyData.canLay0,h.la]
 ·have:=h.dp; simp only [D.py,PyData.depth]; omega
 ·simp only [D.py,PyData.leavesShort,h.le]
 ·have:=h.bu; simp only [D.py,PyData.bulk]; omega
theorem OkL.all {k n:Nat}:∀ {ds:List D},(∀ d ∈ ds,Ok k n d) → OkL k (ds.length * (n + 1)) ds
 | [],_=>OkL.nil.mono (by omega) (by omega)
 | d :: r,h=>by
  have:=(OkL.cons (h d (List.mem_cons_self ..)) (OkL.all (ds:=r) fun x hx=>h x (List.mem_cons_of_mem _ hx)))
  refine this.mono (by omega) ?_
  rw [List.length_cons,Nat.add_mul,Nat.one_mul]; omega
theorem Ok.show {k n:Nat} {d:D} (h:Ok k n d) (hk:k ≤ 64:=by decide) (hn:n ≤ 8000:=by decide):R0 d = true:=by
 have e:=PyData.shown_le_bulk 1921 (by decide) d.py h.le
 have e2:(1921 + 2) * d.py.bulk ≤ 1923 * 8000:=Nat.mul_le_mul (by decide) (Nat.le_trans h.bu hn)
 have:d.py.shown.length ≤ sizeLine:=by rw [sizeLine_eq]; omega
 simp only [R0,h.pl,h.sh,h.la,Bool.true_and,Bool.and_true,decide_eq_true this,decide_eq_true (Nat.le_trans h.dp hk)]
theorem Ok.eq {k n:Nat} {d:D} (h:Ok k n d) (hk:k ≤ 64:=by decide):t6 d = true:=by
 simp only [t6,h.pl,SeqAt.shaped,h.la,Bool.true_and,decide_eq_true (Nat.le_trans h.dp hk)]
theorem Ok.repr {k n:Nat} {d:D} (h:Ok k n d) (hk:k ≤ 64:=by decide) (hn:n ≤ 8000:=by decide):R3 d = some (.str d.py.shown):=b2L (h.show hk hn)
theorem Ok.pt {k:Nat} {a:Pt} (h:Ps k a) (hk:k ≤ 1920:=by decide):Ok 1 3 (pt a):=Ok.tup ((OkL.cons (Ok.int (h.x.mono hk)) (OkL.cons (Ok.int (h.y.mono hk)) (OkL.cons (Ok.int (h.l.mono hk)) OkL.nil))))
theorem ixT (ds:List D) (i:Int):pIx (.tup ds) (.int i) = atI ds i:=rfl
theorem ixL (ds:List D) (i:Int):pIx (.lst ds) (.int i) = atI ds i:=rfl
theorem A0 (p:Rat):pIx (DL.fr p) (.int 0) = some (.int p.num):=rfl
theorem A1 (p:Rat):pIx (DL.fr p) (.int 1) = some (.int p.den):=rfl
theorem w6 (a:Pt):pIx (DL.pt a) (.int 0) = some (.int (pX a)):=rfl
theorem y9 (a:Pt):pIx (DL.pt a) (.int 1) = some (.int (pY a)):=rfl
theorem w5 (a:Pt):pIx (DL.pt a) (.int 2) = some (.int (pL a)):=rfl
end DL
namespace T
open PySem L2 DL
section
variable {g h:Pt} (n:h ≠ g)
include n
end
theorem a9q {S:Pt → Prop} {a b c d:Pt} (sa:S a) (sb:S b) (N:Nx S c d) {s:Rat} (h0:0 < s) (h1:s < 1) (ab:b ≠ a) (e:c = l5 a b s):False:=by
 have k1:=N.lf a sa
 have k2:=N.lf b sb
 have q:(1 - s) * a8 c d a + s * a8 c d b = 0:=by
  rw [e]; unfold a8 l5; grind
 have p1:0 ≤ (1 - s) * a8 c d a:=Rat.mul_nonneg (by grind) k1
 have p2:0 ≤ s * a8 c d b:=Rat.mul_nonneg (by grind) k2
 have z1:(1 - s) * a8 c d a = 0:=by grind
 have z2:s * a8 c d b = 0:=by grind
 have c1:a8 c d a = 0:=by
  rcases Rat.mul_eq_zero.mp z1 with w | w
  ·grind
  ·exact w
 have c2:a8 c d b = 0:=by
  rcases Rat.mul_eq_zero.mp z2 with w | w
  ·grind
  ·exact w
 obtain ⟨u,u0,u1,eu⟩:=N.far a sa c1
 obtain ⟨v,v0,v1,ev⟩:=N.far b sb c2
 have dn:=N.ne
 have x1:(1 - s) * (a.1 - c.1) + s * (b.1 - c.1) = 0:=by rw [e]; unfold l5; grind
 have x2:(1 - s) * (a.2 - c.2) + s * (b.2 - c.2) = 0:=by rw [e]; unfold l5; grind
 have y1:((1 - s) * u + s * v) * (d.1 - c.1) = 0:=by
  have:=congrArg Prod.fst eu; have t:=congrArg Prod.fst ev
  unfold l5 at this t
  simp only at this t
  grind
 have y2:((1 - s) * u + s * v) * (d.2 - c.2) = 0:=by
  have:=congrArg Prod.snd eu; have t:=congrArg Prod.snd ev
  unfold l5 at this t
  simp only at this t
  grind
 have w0:(1 - s) * u + s * v = 0:=by
  rcases Rat.mul_eq_zero.mp y1 with w | w
  ·exact w
  ·rcases Rat.mul_eq_zero.mp y2 with w' | w'
   ·exact w'
   ·exact absurd (Prod.ext (by grind) (by grind)) dn
 have g1:0 ≤ (1 - s) * u:=Rat.mul_nonneg (by grind) u0
 have g2:0 ≤ s * v:=Rat.mul_nonneg (by grind) v0
 have u':u = 0:=by
  have:(1 - s) * u = 0:=by grind
  rcases Rat.mul_eq_zero.mp this with w | w
  ·grind
  ·exact w
 have v':v = 0:=by
  have:s * v = 0:=by grind
  rcases Rat.mul_eq_zero.mp this with w | w
  ·grind
  ·exact w
 rw [u',T4] at eu
 rw [v',T4] at ev
 exact ab (ev.trans eu.symm)
theorem b0I {S:Pt → Prop} {a b c d:Pt} (sa:S a) (sb:S b) (sc:S c) (N:Nx S a b) (N2:Nx S c d) (ca:c ≠ a) (cb:c ≠ b):0 < a8 a b c:=by
 have k:=N.lf c sc
 by_cases z:a8 a b c = 0
 ·obtain ⟨s,s0,s1,e⟩:=N.far c sc z
  have n0:s ≠ 0:=fun w=>ca (by rw [e,w,T4])
  have n1:s ≠ 1:=fun w=>cb (by rw [e,w,a0B])
  exact (a9q sa sb N2 (by grind) (by grind) N.ne e).elim
 ·grind
end T
namespace DL
open PySem L2
noncomputable def asc (x:Str):Prop:=∀ c ∈ x.cps.toList,c < 128
mutual
noncomputable def Th (b:Nat):Nat → D → Prop
 | _,.non=>True
 | _,.bl _=>True
 | _,.int i=>Bd b i
 | _,.str x=>asc x
 | k + 1,.tup ds=>Ths b k ds
 | k + 1,.lst ds=>Ths b k ds
 | _,_=>False
noncomputable def Ths (b:Nat):Nat → List D → Prop
 | _,[]=>True
 | k,d :: r=>Th b k d ∧ Ths b k r
end
noncomputable def bk (d:D):Nat:=d.py.bulk
noncomputable def bks (ds:List D):Nat:=PyData.bulkAll (D.pys ds)
theorem a87 (d:D) (r:List D):bks (d :: r) = bk d + 1 + bks r:=by simp only [bks,bk,D.pys,PyData.bulkAll]
theorem a8A (ds:List D):bk (.tup ds) = bks ds:=by simp only [bks,bk,D.py,PyData.bulk]
theorem b49 (ds:List D):bk (.lst ds) = bks ds:=by simp only [bks,bk,D.py,PyData.bulk]
theorem a7X:∀ ds:List D,ds.length ≤ bks ds
 | []=>Nat.le_refl _
 | d :: r=>by have:=a7X r; rw [a87,List.length_cons]; omega
section
variable {b b' k k':Nat}
mutual
theorem Th.mono (hb:b ≤ b'):∀ {k k':Nat} (d:D),k ≤ k' → Th b k d → Th b' k' d
 | k,k',.non,_,_=>by unfold Th; trivial
 | k,k',.bl _,_,_=>by unfold Th; trivial
 | k,k',.int i,_,h=>by unfold Th at *; exact Bd.mono h hb
 | k,k',.str x,_,h=>by unfold Th at *; exact h
 | 0,k',.tup ds,_,h=>by unfold Th at h; exact h.elim
 | k + 1,0,.tup ds,hk,h=>by omega
 | k + 1,k' + 1,.tup ds,hk,h=>by unfold Th at *; exact Ths.mono hb ds (by omega) h
 | 0,k',.lst ds,_,h=>by unfold Th at h; exact h.elim
 | k + 1,0,.lst ds,hk,h=>by omega
 | k + 1,k' + 1,.lst ds,hk,h=>by unfold Th at *; exact Ths.mono hb ds (by omega) h
 | k,k',.feed,_,h=>by unfold Th at h; exact h.elim
 | k,k',.scr _,_,h=>by unfold Th at h; exact h.elim
theorem Ths.mono (hb:b ≤ b'):∀ {k k':Nat} (ds:List D),k ≤ k' → Ths b k ds → Ths b' k' ds
 | k,k',[],_,_=>by unfold Ths; trivial
 | k,k',d :: r,hk,h=>by unfold Ths at *; exact ⟨Th.mono hb d hk h.1,Ths.mono hb r hk h.2⟩
end
theorem Ths.mem:∀ {ds:List D} {d:D},Ths b k ds → d ∈ ds → Th b k d
 | x :: r,d,h,m=>by
  unfold Ths at h
  rcases List.mem_cons.mp m with z | z
  ·subst z; exact h.1
  ·exact Ths.mem h.2 z
theorem Ths.of:∀ {ds:List D},(∀ d ∈ ds,Th b k d) → Ths b k ds
 | [],_=>by unfold Ths; trivial
 | d :: r,h=>by unfold Ths; exact ⟨h d (List.mem_cons_self ..),Ths.of fun x hx=>h x (List.mem_cons_of_mem _ hx)⟩
theorem b2z {x:Str} (h:asc x):PyData.strOk x = true:=by
 unfold PyData.strOk
 rw [Array.all_eq_true_iff_forall_mem]
 intro c hc
 have:=h c (Array.mem_toList_iff.mpr hc)
 exact decide_eq_true (by omega)
mutual
theorem Th.ok (hb:b ≤ 1920):∀ {k:Nat} (d:D),Th b k d → Ok k (bk d) d
 | k,.non,_=>Ok.non.mono (by omega) (Nat.zero_le _)
 | k,.bl i,_=>(Ok.bl i).mono (by omega) (Nat.zero_le _)
 | k,.int i,h=>by unfold Th at h; exact (Ok.int (Bd.mono h hb)).mono (by omega) (Nat.zero_le _)
 | k,.str x,h=>by unfold Th at h; exact (Ok.str (b2z h)).mono (by omega) (Nat.le_refl _)
 | 0,.tup ds,h=>by unfold Th at h; exact h.elim
 | k + 1,.tup ds,h=>by unfold Th at h; rw [a8A]; exact Ok.tup (Ths.ok hb ds h)
 | 0,.lst ds,h=>by unfold Th at h; exact h.elim
 | k + 1,.lst ds,h=>by unfold Th at h; rw [b49]; exact Ok.lst (Ths.ok hb ds h)
 | k,.feed,h=>by unfold Th at h; exact h.elim
 | k,.scr _,h=>by unfold Th at h; exact h.elim
theorem Ths.ok (hb:b ≤ 1920):∀ {k:Nat} (ds:List D),Ths b k ds → OkL k (bks ds) ds
 | k,[],_=>OkL.nil.mono (by omega) (Nat.zero_le _)
 | k,d :: r,h=>by
  unfold Ths at h
  rw [a87]
  exact (OkL.cons (Th.ok hb d h.1) (Ths.ok hb r h.2)).mono (by omega) (Nat.le_refl _)
end
end
theorem b4F (ds:List D) (n:Nat) (h:n ≤ ds.length):C1 ds none (some (n:Int)) = ds.take n:=by
 unfold C1 HT.sIx
 have h1:¬ (n:Int) < 0:=by omega
 simp only [h1,if_false,List.drop_zero,Nat.sub_zero,Int.toNat_natCast]
 rw [Nat.min_eq_left h]
theorem b3F (ds:List D) (n:Nat) (h:n ≤ ds.length):C1 ds (some (n:Int)) none = ds.drop n:=by
 unfold C1 HT.sIx
 have h1:¬ (n:Int) < 0:=by omega
 simp only [h1,if_false,Int.toNat_natCast]
 rw [Nat.min_eq_left h]
 exact List.take_of_length_le (by rw [List.length_drop]; omega)
end DL
namespace T
open PySem L2 DL
theorem T7 (C:String) (ds:List D):u7 C (.tup ds) = some (.bl (w4 "tuple" C)):=rfl
theorem a6O (C:String) (ds:List D):u7 C (.lst ds) = some (.bl (w4 "list" C)):=rfl
theorem a54 (C:String) (i:Int):u7 C (.int i) = some (.bl (w4 "int" C)):=rfl
theorem a5t (C:String) (i:Bool):u7 C (.bl i) = some (.bl (w4 "bool" C)):=rfl
theorem a6w (C:String) (i:Str):u7 C (.str i) = some (.bl (w4 "str" C)):=rfl
theorem a5N (C:String):u7 C .non = some (.bl (w4 "NoneType" C)):=rfl
end T
namespace DL
open PySem L2
theorem a1O {idx:List Nat} {fe:DE} {g:D → D} (caps:List Sl) (fs:Option FS):∀ (ds:List D),(∀ d ∈ ds,∃ s,fe ⟨.val d :: caps,fs⟩ = some (g d,s) ∧ s.fs = fs) → v8 (fun d=>some (.val d :: caps)) w8 fe ds fs = some (ds.map g,fs)
 | [],_=>rfl
 | d :: r,h=>by
  obtain ⟨s,e,q⟩:=h d (List.mem_cons_self ..)
  have ih:=a1O (idx:=idx) caps fs r fun x hx=>h x (List.mem_cons_of_mem _ hx)
  simp [v8,w8,e,q,ih]
theorem a5b (p:D → Bool):∀ ds:List D,S9 (ds.map fun d=>.bl (p d)) = some (ds.all p)
 | []=>rfl
 | d :: r=>by simp [S9,a5b p r]
theorem b1x {ds:List D} (h:ds.length = 2):∃ a b,ds = [a,b]:=by
 match ds,h with
 | [a,b],_=>exact ⟨a,b,rfl⟩
theorem a7O {ds:List D} (h:ds.length = 3):∃ a b c,ds = [a,b,c]:=by
 match ds,h with
 | [a,b,c],_=>exact ⟨a,b,c,rfl⟩
noncomputable def whole:D → Bool
 | .int _=>true
 | _=>false
theorem Q0 {d:D} (h:whole d = true):∃ i,d = .int i:=by
 cases d with
 | int i=>exact ⟨i,rfl⟩
 | _=>cases h
noncomputable def B6:D → Bool
 | .tup [.int x,.int y,.int d]=>decide (1 ≤ d) && decide (Int.gcd (Int.gcd x y:Int) d = 1)
 | _=>false
noncomputable def thing:D → Bool
 | .feed=>false
 | .scr _=>false
 | .fn _=>false
 | _=>true
theorem Th.thing {b k:Nat} {d:D} (h:Th b k d):thing d = true:=by
 cases d with
 | feed=>unfold Th at h; exact h.elim
 | scr _=>unfold Th at h; exact h.elim
 | fn _=>unfold Th at h; exact h.elim
 | _=>rfl
end DL
namespace T
open PySem L2 DL
theorem a4S (d:D) (fs:Option FS) (h:thing d = true):M4 [d] fs = some (.bl (whole d),fs):=by
 refine n9 (s:=⟨[.val d],fs⟩) ?_
 show a3x ⟨[.val d],fs⟩ = _
 cases d with
 | feed=>cases h
 | scr _=>cases h
 | fn _=>cases h
 | non=>rfl
 | bl _=>rfl
 | int _=>rfl
 | str _=>rfl
 | tup _=>simp [a3x,c7,p7,e8,dOp,dUn,dC,dL,dV,c8,i7,dB,e7,e5,a7,a9,e6,i8,dCB,one,j8,m6,dIf,n8,dOr,j7,o8,p9,r8,j4,l8,j9,j6,i9,k6,j5,l3,o0,dTr,p8,ixT,ixL,A0,A1,w6,y9,w5,T7,w4,whole]
 | lst _=>rfl
noncomputable abbrev FIL:DFn:=a4h (K0 D0) M4
noncomputable def C6 (size:Nat):D → Bool
 | .tup ds=>decide (ds.length = size) && ds.all whole && (match ds with
  | [.int a,.int b]=>decide (1 ≤ b) && decide (Int.gcd a b = 1)
  | [.int x,.int y,.int d]=>decide (1 ≤ d) && decide (Int.gcd (Int.gcd x y:Int) d = 1)
  | _=>false)
 | _=>false
theorem b3e (d:D) (n:Nat) (fs:Option FS) (hn:n = 2 ∨ n = 3) (h:thing d = true) (hs:∀ ds,d = .tup ds → (∀ x ∈ ds,thing x = true) ∧ ds.length ≤ sizeLine):FIL [d,.int n] fs = some (.bl (C6 n d),fs):=by
 refine n9 (s:=⟨[.val d,.val (.int n)],fs⟩) ?_
 show a0f (K0 D0) M4 ⟨[.val d,.val (.int n)],fs⟩ = _
 cases d with
 | feed=>cases h
 | scr _=>cases h
 | fn _=>cases h
 | non=>rfl
 | bl _=>rfl
 | int _=>rfl
 | str _=>rfl
 | lst _=>rfl
 | tup ds=>
  obtain ⟨ht,hl⟩:=hs ds rfl
  have cm:v8 (fun d=>some (.val d :: [])) w8 (e5 M4 (a7 (dV 0) a9)) ds fs = some (ds.map (fun d=>.bl (whole d)),fs):=a1O (idx:=[]) [] fs ds fun x hx=>⟨⟨[.val x],fs⟩,by simp [c7,p7,e8,dOp,dUn,dC,dL,dV,c8,i7,dB,e7,e5,a7,a9,e6,i8,dCB,one,j8,m6,dIf,n8,dOr,j7,o8,p9,r8,j4,l8,j9,j6,i9,k6,j5,l3,o0,dTr,p8,ixT,ixL,A0,A1,w6,y9,w5,a4S x fs (ht x hx)],rfl⟩
  have al:=a5b whole ds
  by_cases hz:ds.length = n
  ·by_cases hw:ds.all whole = true
   ·have hz':(ds.length:Int) = (n:Int):=by omega
    have pre:∀ rest:DM,c7 (i7 (dOr (j7 (dTr (dUn (u7 "tuple") (dL 0)))) (dB (dOp pNe (dCB (one i9) (a7 (dL 0) a9)) (dL 1)))) (e7 (dC (.bl false))) i8) (c7 (i7 (j7 (dTr (dCB (one Z9) (a7 (j8 (A6 [] (B1 (dV 0)) w8 (e5 M4 (a7 (dV 0) a9)))) a9)))) (e7 (dC (.bl false))) i8) rest) ⟨[.val (.tup ds),.val (.int n)],fs⟩ = rest ⟨[.val (.tup ds),.val (.int n)],fs⟩:=fun rest=>by
     rw [m7 (s1:=⟨[.val (.tup ds),.val (.int n)],fs⟩) (by simp [c7,p7,e8,dOp,dUn,dC,dL,dV,c8,i7,dB,e7,e5,a7,a9,e6,i8,dCB,one,j8,m6,dIf,n8,dOr,j7,o8,p9,r8,j4,l8,j9,j6,i9,k6,j5,l3,o0,dTr,p8,ixT,ixL,A0,A1,w6,y9,w5,T7,w4,N6,hz'])]
     rw [m7 (s1:=⟨[.val (.tup ds),.val (.int n)],fs⟩) (by simp [c7,p7,e8,dOp,dUn,dC,dL,dV,c8,i7,dB,e7,e5,a7,a9,e6,i8,dCB,one,j8,m6,dIf,n8,dOr,j7,o8,p9,r8,j4,l8,j9,j6,i9,k6,j5,l3,o0,dTr,p8,ixT,ixL,A0,A1,w6,y9,w5,A6,B1,hl,E4,cm,Z9,al,hw])]
    unfold a0f
    rw [pre]
    rcases hn with rfl | rfl
    ·obtain ⟨d1,d2,rfl⟩:=b1x hz
     ·simp only [List.all_cons,List.all_nil,Bool.and_true,Bool.and_eq_true] at hw
      obtain ⟨a,rfl⟩:=Q0 hw.1
      obtain ⟨c,rfl⟩:=Q0 hw.2
      refine o9 ?_
      by_cases hc:1 ≤ c
      ·simp [c7,p7,e8,dOp,dUn,dC,dL,dV,c8,i7,dB,e7,e5,a7,a9,e6,i8,dCB,one,j8,m6,dIf,n8,dOr,j7,o8,p9,r8,j4,l8,j9,j6,i9,k6,j5,l3,o0,dTr,p8,ixT,ixL,A0,A1,w6,y9,w5,a6i,hc,a9r,R8,C6,whole]; omega
      ·simp [c7,p7,e8,dOp,dUn,dC,dL,dV,c8,i7,dB,e7,e5,a7,a9,e6,i8,dCB,one,j8,m6,dIf,n8,dOr,j7,o8,p9,r8,j4,l8,j9,j6,i9,k6,j5,l3,o0,dTr,p8,ixT,ixL,A0,A1,w6,y9,w5,a6i,hc,C6,whole]
    ·obtain ⟨d1,d2,d3,rfl⟩:=a7O hz
     ·simp only [List.all_cons,List.all_nil,Bool.and_true,Bool.and_eq_true] at hw
      obtain ⟨a,rfl⟩:=Q0 hw.1
      obtain ⟨c,rfl⟩:=Q0 hw.2.1
      obtain ⟨e,rfl⟩:=Q0 hw.2.2
      refine o9 ?_
      by_cases hc:1 ≤ e
      ·simp [c7,p7,e8,dOp,dUn,dC,dL,dV,c8,i7,dB,e7,e5,a7,a9,e6,i8,dCB,one,j8,m6,dIf,n8,dOr,j7,o8,p9,r8,j4,l8,j9,j6,i9,k6,j5,l3,o0,dTr,p8,ixT,ixL,A0,A1,w6,y9,w5,a1W,hc,a6a,R8,C6,whole]; omega
      ·simp [c7,p7,e8,dOp,dUn,dC,dL,dV,c8,i7,dB,e7,e5,a7,a9,e6,i8,dCB,one,j8,m6,dIf,n8,dOr,j7,o8,p9,r8,j4,l8,j9,j6,i9,k6,j5,l3,o0,dTr,p8,ixT,ixL,A0,A1,w6,y9,w5,a1W,hc,C6,whole]
   ·have hw':ds.all whole = false:=by simpa using hw
    have hz':(ds.length:Int) = (n:Int):=by omega
    have:C6 n (.tup ds) = false:=by simp only [C6,hw',Bool.and_false,Bool.false_and]
    rw [this]
    unfold a0f
    rw [m7 (s1:=⟨[.val (.tup ds),.val (.int n)],fs⟩) (by simp [c7,p7,e8,dOp,dUn,dC,dL,dV,c8,i7,dB,e7,e5,a7,a9,e6,i8,dCB,one,j8,m6,dIf,n8,dOr,j7,o8,p9,r8,j4,l8,j9,j6,i9,k6,j5,l3,o0,dTr,p8,ixT,ixL,A0,A1,w6,y9,w5,T7,w4,N6,hz'])]
    refine B3 ?_
    rw [hw'] at al
    simp [c7,p7,e8,dOp,dUn,dC,dL,dV,c8,i7,dB,e7,e5,a7,a9,e6,i8,dCB,one,j8,m6,dIf,n8,dOr,j7,o8,p9,r8,j4,l8,j9,j6,i9,k6,j5,l3,o0,dTr,p8,ixT,ixL,A0,A1,w6,y9,w5,A6,B1,hl,E4,cm,Z9,al]
  ·have hz':¬ (ds.length:Int) = (n:Int):=by omega
   have:C6 n (.tup ds) = false:=by simp only [C6,decide_eq_false hz,Bool.false_and]
   rw [this]
   unfold a0f
   refine B3 ?_
   simp [c7,p7,e8,dOp,dUn,dC,dL,dV,c8,i7,dB,e7,e5,a7,a9,e6,i8,dCB,one,j8,m6,dIf,n8,dOr,j7,o8,p9,r8,j4,l8,j9,j6,i9,k6,j5,l3,o0,dTr,p8,ixT,ixL,A0,A1,w6,y9,w5,T7,w4,N6,hz']
theorem a22 (d:D):C6 3 d = B6 d:=by
 cases d with
 | tup ds=>
  match ds with
  | []=>rfl
  | [d1]=>cases d1 <;> rfl
  | [d1,d2]=>simp [C6,B6]
  | [d1,d2,d3]=>
   cases d1 with
   | int x=>
    cases d2 with
    | int y=>
     cases d3 with
     | int z=>simp [C6,B6,whole]
     | _=>simp [C6,B6,whole]
    | _=>simp [C6,B6,whole]
   | _=>simp [C6,B6,whole]
  | d1 :: d2 :: d3 :: d4 :: r=>simp [C6,B6]
 | _=>rfl
noncomputable abbrev FIP:DFn:=a4o FIL
theorem Th.subs {b k:Nat} {d:D} (h:Th b k d) (hs:bk d ≤ 1000000):∀ ds,d = .tup ds → (∀ x ∈ ds,thing x = true) ∧ ds.length ≤ sizeLine:=fun ds e=>by
 subst e
 refine ⟨fun x hx=>?_,?_⟩
 ·cases k with
  | zero=>unfold Th at h; exact h.elim
  | succ k=>unfold Th at h; exact (Ths.mem h hx).thing
 ·have:=a7X ds
  rw [a8A] at hs
  rw [sizeLine_eq]; omega
theorem b2c {b k:Nat} (d:D) (fs:Option FS) (h:Th b k d) (hs:bk d ≤ 1000000):FIP [d] fs = some (.bl (B6 d),fs):=by
 refine n9 (s:=⟨[.val d],fs⟩) ?_
 show a1q FIL ⟨[.val d],fs⟩ = _
 have e:=b3e d 3 fs (.inr rfl) h.thing (Th.subs h hs)
 rw [a22] at e
 have e':FIL [d,.int 3] fs = some (.bl (B6 d),fs):=e
 simp [a1q,c7,p7,e8,dOp,dUn,dC,dL,dV,c8,i7,dB,e7,e5,a7,a9,e6,i8,dCB,one,j8,m6,dIf,n8,dOr,j7,o8,p9,r8,j4,l8,j9,j6,i9,k6,j5,l3,o0,dTr,p8,ixT,ixL,A0,A1,w6,y9,w5,e']
theorem a71 {k b:Nat} {a:Pt} (h:Ps k a) (hk:k ≤ b):Th b 1 (pt a):=by
 unfold pt Th
 exact Ths.of (by
  intro d hd
  simp only [List.mem_cons,List.not_mem_nil,or_false] at hd
  rcases hd with rfl | rfl | rfl
  ·unfold Th; exact h.x.mono hk
  ·unfold Th; exact h.y.mono hk
  ·unfold Th; exact h.l.mono hk)
theorem a8v (a:Pt):bk (pt a) = 3:=rfl
end T
namespace DL
open PySem L2
noncomputable def nbs {α:Type} (c:Bool) (l:List α):List (α × α):=l.zip (if c then l.drop 1 ++ l.take 1 else l.drop 1)
noncomputable def pr2 (p:D × D):D:=.tup [p.1,p.2]
theorem b6k {α β:Type} (f:α → β) (c:Bool) (l:List α):nbs c (l.map f) = (nbs c l).map fun p=>(f p.1,f p.2):=by
 unfold nbs
 cases c
 ·simp only [Bool.false_eq_true,if_false]
  rw [← List.map_drop,List.zip_map]; rfl
 ·simp only [if_true]
  rw [← List.map_drop,← List.map_take,← List.map_append,List.zip_map]; rfl
theorem T8 {α:Type} (c:Bool) (l:List α):(nbs c l).length ≤ l.length:=by
 unfold nbs
 rw [List.length_zip]
 exact Nat.min_le_left ..
theorem E6 {α:Type} {c:Bool} {l:List α} {p:α × α} (h:p ∈ nbs c l):p.1 ∈ l ∧ p.2 ∈ l:=by
 unfold nbs at h
 obtain ⟨h1,h2⟩:=List.of_mem_zip (a:=p.1) (b:=p.2) h
 refine ⟨h1,?_⟩
 cases c
 ·simp only [Bool.false_eq_true,if_false] at h2
  exact List.mem_of_mem_drop h2
 ·simp only [if_true] at h2
  rcases List.mem_append.mp h2 with h | h
  ·exact List.mem_of_mem_drop h
  ·exact List.mem_of_mem_take h
theorem Z0:∀ (xs ys:List D),List.zipWith G6 xs ys = (xs.zip ys).map pr2
 | [],_=>by simp
 | _ :: _,[]=>by simp
 | x :: xs,y :: ys=>by
  rw [List.zipWith_cons_cons,List.zip_cons_cons,List.map_cons,Z0 xs ys]
  rfl
noncomputable def lo (c:Bool):Nat:=if c then 3 else 2
noncomputable def hi (c:Bool):Nat:=if c then 8 else 9
theorem a0x (ds:List D):C1 ds (some 1) none = ds.drop 1:=by
 cases ds with
 | nil=>rfl
 | cons d r=>exact b3F (d :: r) 1 (by simp)
theorem a4N (ds:List D):C1 ds none (some 1) = ds.take 1:=by
 cases ds with
 | nil=>rfl
 | cons d r=>exact b4F (d :: r) 1 (by simp)
end DL
namespace T
open PySem L2 DL
theorem b6T (ds:List D) (c:Bool) (fs:Option FS) (hl:ds.length + 1 ≤ sizeLine):M8 [.tup ds,.bl c] fs = some (.lst ((nbs c ds).map pr2),fs):=by
 refine n9 (s:=⟨[.val (.tup ds),.val (.bl c)],fs⟩) ?_
 show U4 ⟨[.val (.tup ds),.val (.bl c)],fs⟩ = _
 have h1:ds.length - 1 + min 1 ds.length ≤ sizeLine:=by omega
 cases c
 ·simp [U4,c7,p7,e8,dOp,dUn,dC,dL,dV,c8,i7,dB,e7,e5,a7,a9,e6,i8,dCB,one,j8,m6,dIf,n8,dOr,j7,o8,p9,r8,j4,l8,j9,j6,i9,k6,j5,l3,o0,dTr,p8,ixT,ixL,A0,A1,w6,y9,w5,dSl,dAt,dNo,dCF,P2,E9,a0x,nbs,Z0]
 ·simp [U4,c7,p7,e8,dOp,dUn,dC,dL,dV,c8,i7,dB,e7,e5,a7,a9,e6,i8,dCB,one,j8,m6,dIf,n8,dOr,j7,o8,p9,r8,j4,l8,j9,j6,i9,k6,j5,l3,o0,dTr,p8,ixT,ixL,A0,A1,w6,y9,w5,dSl,dAt,dNo,dCF,P2,E9,a0x,a4N,nbs,Z0,h1]
end T
namespace DL
open PySem L2
theorem a0q {α:Type} (c:Bool) (l:List α):(nbs c l).length = l.length - 1 + (if c then min 1 l.length else 0):=by
 unfold nbs
 cases c
 ·show (l.zip (l.drop 1)).length = l.length - 1 + 0
  rw [List.length_zip,List.length_drop,Nat.min_eq_right (Nat.sub_le ..)]
  rfl
 ·show (l.zip (l.drop 1 ++ l.take 1)).length = l.length - 1 + min 1 l.length
  rw [List.length_zip,List.length_append,List.length_drop,List.length_take]
  exact Nat.min_eq_right (by omega)
theorem b6S {α:Type} {c:Bool} {l:List α} {j:Nat} (h:j < (nbs c l).length):∃ a b,l[j]? = some a ∧ l[(j + 1) % l.length]? = some b ∧ (nbs c l)[j]? = some (a,b):=by
 have hl:=a0q c l
 have hj:j < l.length:=Nat.lt_of_lt_of_le h (T8 c l)
 cases hq:(nbs c l)[j]? with
 | none=>rw [List.getElem?_eq_none_iff] at hq; omega
 | some p=>
  obtain ⟨h1,h2⟩:=List.getElem?_zip_eq_some.mp (show (l.zip (if c then l.drop 1 ++ l.take 1 else l.drop 1))[j]? = some p from hq)
  refine ⟨p.1,p.2,h1,?_,rfl⟩
  cases c
  ·simp only [Bool.false_eq_true,if_false] at h2 hl
   rw [List.getElem?_drop] at h2
   rw [Nat.mod_eq_of_lt (by omega),Nat.add_comm]
   exact h2
  ·simp only [if_true] at h2 hl
   by_cases hz:j + 1 < l.length
   ·rw [List.getElem?_append_left (by rw [List.length_drop]; omega),List.getElem?_drop] at h2
    rw [Nat.mod_eq_of_lt hz,Nat.add_comm]
    exact h2
   ·have e:j + 1 = l.length:=by omega
    rw [List.getElem?_append_right (by rw [List.length_drop]; omega),List.length_drop,show j - (l.length - 1) = 0 by omega,List.getElem?_take] at h2
    rw [e,Nat.mod_self]
    simpa using h2
end DL
namespace T
open PySem L2 DL
noncomputable def tk (l:List Pt) (i:Nat):Pt:=(l[i % l.length]?).getD (0,0)
theorem a3Z {l:List Pt} {i:Nat} (h:0 < l.length):l[i % l.length]? = some (tk l i):=by
 unfold tk
 rw [List.getElem?_eq_getElem (Nat.mod_lt _ h)]
 rfl
theorem K1 {l:List Pt} {i:Nat} (h:i < l.length):l[i]? = some (tk l i):=by
 have:=a3Z (l:=l) (i:=i) (by omega)
 rwa [Nat.mod_eq_of_lt h] at this
theorem G8 {l:List Pt} (i:Nat) (h:0 < l.length):tk l i ∈ l:=List.mem_of_getElem? (a3Z (i:=i) h)
theorem a50 {l:List Pt} (h:0 < l.length) {i:Nat} (hi:i ≤ l.length):(l ++ [tk l 0])[i]? = some (tk l i):=by
 rcases Nat.lt_or_eq_of_le hi with w | w
 ·rw [List.getElem?_append_left w,K1 w]
 ·subst w
  rw [List.getElem?_append_right (Nat.le_refl _),Nat.sub_self]
  show some (tk l 0) = _
  unfold tk
  rw [Nat.mod_self,Nat.zero_mod]
theorem C9 {l:List Pt} (i:Nat):tk l (i % l.length) = tk l i:=by unfold tk; rw [Nat.mod_mod]
theorem b6j {l:List Pt} {p:Pt} (e:M3 l = [p]):B5 l = []:=by
 unfold B5 a0O
 show (u3 trB (M3 l)).dropLast ++ (u3 trB (M3 l).reverse).dropLast = []
 rw [e]; rfl
theorem a7I {l:List Pt} (h:0 < l.length):∃ p r,M3 l = p :: r:=by
 cases e:M3 l with
 | cons p r=>exact ⟨p,r,rfl⟩
 | nil=>
  have:=rowP_in.mpr (G8 (l:=l) 0 h)
  rw [e] at this
  cases this
section
variable {S:Pt → Prop} {p:Pt} {C:List Pt} (R:Rnd S p C)
include R
theorem T0:0 < C.length:=by
 have:=R.hd
 cases C with
 | nil=>cases this
 | cons a r=>simp
theorem b2I:tk C 0 = p:=by
 have:=R.hd
 rw [List.head?_eq_getElem?,K1 (T0 R)] at this
 exact Option.some.inj this
theorem Z3 (k:Nat):Nx S (tk C k) (tk C (k + 1)):=by
 have h0:=T0 R
 have hk:=Nat.mod_lt k h0
 have run:=R.run
 rw [← b2I R] at run
 have:=a1e run (a50 h0 (Nat.le_of_lt hk)) (a50 h0 hk)
 rw [C9] at this
 have e:tk C (k % C.length + 1) = tk C (k + 1):=by rw [← C9,Nat.mod_add_mod,C9]
 rw [e] at this
 exact this
theorem b0J {i j:Nat} (w:tk C i = tk C j):i % C.length = j % C.length:=by
 have h0:=T0 R
 have inj:∀ i j,i < C.length → j < C.length → tk C i = tk C j → i = j:=fun i j hi hj w=>by
  have nd:=R.nodup
  have a1:=K1 hi
  have a2:=K1 hj
  rw [List.getElem?_eq_getElem hi] at a1
  rw [List.getElem?_eq_getElem hj] at a2
  rcases Nat.lt_trichotomy i j with q | q | q
  ·exact absurd ((Option.some.inj a1).trans (w.trans (Option.some.inj a2).symm)) (List.pairwise_iff_getElem.mp nd i j hi hj q)
  ·exact q
  ·exact absurd ((Option.some.inj a2).trans (w.symm.trans (Option.some.inj a1).symm)) (List.pairwise_iff_getElem.mp nd j i hj hi q)
 exact inj _ _ (Nat.mod_lt _ h0) (Nat.mod_lt _ h0) (by rw [C9,C9]; exact w)
theorem a6X {k j:Nat} (h1:0 < j) (h2:j < C.length):tk C (k + j) ≠ tk C k:=fun w=>by
 have h0:=T0 R
 have:=b0J R w
 rw [← Nat.mod_add_mod] at this
 have hk:=Nat.mod_lt k h0
 by_cases c:k % C.length + j < C.length
 ·rw [Nat.mod_eq_of_lt c] at this; omega
 ·rw [Nat.mod_eq_sub_mod (by omega),Nat.mod_eq_of_lt (by omega)] at this; omega
theorem b3l (k:Nat) {j:Nat} (h1:2 ≤ j) (h2:j < C.length):0 < a8 (tk C k) (tk C (k + 1)) (tk C (k + j)):=by
 have h0:=T0 R
 have m:∀ i,S (tk C i):=fun i=>R.mem _ (G8 i h0)
 refine b0I (m _) (m _) (m _) (Z3 R k) (Z3 R (k + j)) (a6X R (by omega) h2) ?_
 have:=a6X R (k:=k + 1) (j:=j - 1) (by omega) (by omega)
 rwa [show k + 1 + (j - 1) = k + j by omega] at this
end
theorem a9i {l:List Pt} (hl:l.length < 2 ^ 20) {a b c:Pt} (ha:a ∈ l) (hb:b ∈ l) (hc:c ∈ l) (h:a8 a b c ≠ 0):3 ≤ (B5 l).length:=by
 have h0:0 < l.length:=List.length_pos_of_mem ha
 obtain ⟨p,r,e⟩:=a7I h0
 have hr:r ≠ []:=fun w=>by
  have one:∀ q ∈ l,q = p:=fun q hq=>by
   have:=rowP_in.mpr hq
   rw [e,w] at this
   simpa using this
  rw [one a ha,one b hb,one c hc] at h
  exact h (L3 p p)
 have R:=a8Z hl e hr
 have q0:=T0 R
 have N:=Z3 R 0
 have N2:=Z3 R 1
 rcases Nat.lt_or_ge (B5 l).length 3 with w | w
 ·exfalso
  have cases12:(B5 l).length = 1 ∨ (B5 l).length = 2:=by omega
  rcases cases12 with q | q
  ·have:tk (B5 l) 1 = tk (B5 l) 0:=by rw [← C9 1,q]
   exact N.ne this
  ·have e2:tk (B5 l) 2 = tk (B5 l) 0:=by rw [← C9 2,q]
   rw [e2] at N2
   generalize tk (B5 l) 0 = x at *
   rw [Nat.zero_add] at N
   generalize tk (B5 l) 1 = y at *
   have z:∀ t ∈ l,a8 x y t = 0:=fun t ht=>by
    have k1:=N.lf t ht
    have k2:=N2.lf t ht
    have:a8 y x t = -a8 x y t:=by unfold a8; grind
    grind
   exact h (a5R N.ne (z a ha) (z b hb) (z c hc))
 ·exact w
end T
namespace T
open DL
noncomputable def crs (u v:Pt):Rat:=u.1 * v.2 - u.2 * v.1
noncomputable def vec (a b:Pt):Pt:=(b.1 - a.1,b.2 - a.2)
noncomputable def nmX (a b c d:Pt):Rat:=(b.1 - a.1) * (c.1 * d.2 - c.2 * d.1) - (a.1 * b.2 - a.2 * b.1) * (d.1 - c.1)
noncomputable def nmY (a b c d:Pt):Rat:=(a.1 * b.2 - a.2 * b.1) * (c.2 - d.2) - (a.2 - b.2) * (c.1 * d.2 - c.2 * d.1)
noncomputable def xpt (a b c d:Pt):Pt:=(nmX a b c d / crs (vec a b) (vec c d),nmY a b c d / crs (vec a b) (vec c d))
end T
namespace T
open PySem L2 DL
noncomputable def CvT (A:List Pt):Prop:=∀ k,∀ z ∈ A,0 ≤ a8 (tk A k) (tk A (k + 1)) z
noncomputable def gv (d z:Pt):Rat:=d.1 * z.2 - d.2 * z.1
theorem b0i {A:List Pt} {a:Pt} (h:a ∈ A):∃ i,i < A.length ∧ tk A i = a:=by
 obtain ⟨i,hi⟩:=List.getElem?_of_mem h
 have il:=(List.getElem?_eq_some_iff.mp hi).1
 refine ⟨i,il,?_⟩
 rw [K1 il] at hi
 exact Option.some.inj hi
theorem T6 {d v:Pt} (hd:d ≠ (0,0)) (h:gv d v = 0):∃ t:Rat,v = (t * d.1,t * d.2):=by
 have n:0 < d.1 * d.1 + d.2 * d.2:=by
  have a:=M2 d.1
  have b:=M2 d.2
  by_cases z:d.1 = 0
  ·have:d.2 ≠ 0:=fun y=>hd (Prod.ext z y)
   have:=a09 this
   grind
  ·have:=a09 z
   grind
 have nz:d.1 * d.1 + d.2 * d.2 ≠ 0:=by grind
 refine ⟨(v.1 * d.1 + v.2 * d.2) / (d.1 * d.1 + d.2 * d.2),?_⟩
 unfold gv at h
 generalize hN:d.1 * d.1 + d.2 * d.2 = N at *
 have ic:N * N⁻¹ = 1:=Rat.mul_inv_cancel _ nz
 refine Prod.ext ?_ ?_
 ·show v.1 = (v.1 * d.1 + v.2 * d.2) / N * d.1
  rw [Rat.div_def]
  have e0:d.2 * (d.1 * v.2 - d.2 * v.1) = 0:=by rw [h,Rat.mul_zero]
  have e:(v.1 * d.1 + v.2 * d.2) * d.1 = v.1 * N:=by rw [← hN]; grind
  have:(v.1 * d.1 + v.2 * d.2) * N⁻¹ * d.1 = (v.1 * d.1 + v.2 * d.2) * d.1 * N⁻¹:=by grind
  rw [this,e,Rat.mul_assoc,ic,Rat.mul_one]
 ·show v.2 = (v.1 * d.1 + v.2 * d.2) / N * d.2
  rw [Rat.div_def]
  have e0:d.1 * (d.1 * v.2 - d.2 * v.1) = 0:=by rw [h,Rat.mul_zero]
  have e:(v.1 * d.1 + v.2 * d.2) * d.2 = v.2 * N:=by rw [← hN]; grind
  have:(v.1 * d.1 + v.2 * d.2) * N⁻¹ * d.2 = (v.1 * d.1 + v.2 * d.2) * d.2 * N⁻¹:=by grind
  rw [this,e,Rat.mul_assoc,ic,Rat.mul_one]
theorem a6x {A:List Pt} {d a a' z:Pt} (C:CvT A) (nd:∀ k,tk A (k + 1) ≠ tk A k) (hd:d ≠ (0,0)) (ha:a ∈ A) (ha':a' ∈ A) (hz:z ∈ A) (mn:∀ x ∈ A,gv d a ≤ gv d x) (e:gv d a' = gv d a) (ne:a' ≠ a) (off:gv d a < gv d z) :
  ∃ k,∃ s:Rat,0 < s ∧ ∀ w,a8 (tk A k) (tk A (k + 1)) w = s * (gv d w - gv d a):=by
 have h0:0 < A.length:=List.length_pos_of_mem ha
 obtain ⟨i,il,ei⟩:=b0i ha
 have fin:∀ k,gv d (tk A k) = gv d a → gv d (tk A (k + 1)) = gv d a → ∃ k,∃ s:Rat,0 < s ∧ ∀ w,a8 (tk A k) (tk A (k + 1)) w = s * (gv d w - gv d a):=fun k e1 e2=>by
  obtain ⟨s,hs⟩:=T6 (v:=((tk A (k + 1)).1 - (tk A k).1,(tk A (k + 1)).2 - (tk A k).2)) hd (by unfold gv at *; grind)
  have s1:(tk A (k + 1)).1 - (tk A k).1 = s * d.1:=congrArg Prod.fst hs
  have s2:(tk A (k + 1)).2 - (tk A k).2 = s * d.2:=congrArg Prod.snd hs
  have f:∀ w,a8 (tk A k) (tk A (k + 1)) w = s * (gv d w - gv d a):=fun w=>by
   rw [← e1]
   unfold a8 gv
   rw [s1,s2]
   grind
  refine ⟨k,s,?_,f⟩
  have c:=C k z hz
  rw [f] at c
  refine Rat.not_le.mp fun q=>?_
  by_cases s0:s = 0
  ·rw [s0] at s1 s2
   exact nd k (Prod.ext (by grind) (by grind))
  ·have:0 < -s * (gv d z - gv d a):=Rat.mul_pos (by grind) (by grind)
   grind
 by_cases q1:gv d (tk A (i + 1)) = gv d a
 ·exact fin i (by rw [ei]) q1
 have ep:tk A (i + (A.length - 1) + 1) = a:=by
  rw [show i + (A.length - 1) + 1 = i + A.length by omega,← C9,Nat.add_mod_right,C9,ei]
 by_cases q2:gv d (tk A (i + (A.length - 1))) = gv d a
 ·exact fin (i + (A.length - 1)) q2 (by rw [ep])
 exfalso
 have g1:=mn _ (G8 (l:=A) (i + 1) h0)
 have g2:=mn _ (G8 (l:=A) (i + (A.length - 1)) h0)
 have c1:=C i a' ha'
 have c2:=C (i + (A.length - 1)) a' ha'
 rw [ei] at c1
 rw [ep] at c2
 generalize tk A (i + 1) = n at *
 generalize tk A (i + (A.length - 1)) = p at *
 obtain ⟨t,ht⟩:=T6 (v:=(a'.1 - a.1,a'.2 - a.2)) hd (by unfold gv at *; grind)
 have t1:a'.1 - a.1 = t * d.1:=congrArg Prod.fst ht
 have t2:a'.2 - a.2 = t * d.2:=congrArg Prod.snd ht
 have k1:a8 a n a' = -(t * (gv d n - gv d a)):=by unfold a8 gv; rw [t1,t2]; grind
 have k2:a8 p a a' = t * (gv d p - gv d a):=by
  have:a8 p a a' = (a.1 - p.1) * (a'.2 - a.2) - (a.2 - p.2) * (a'.1 - a.1):=by unfold a8; grind
  rw [this,t1,t2]; unfold gv; grind
 rw [k1] at c1
 rw [k2] at c2
 have tz:t = 0:=by
  by_cases tp:0 < t
  ·have:=Rat.mul_pos tp (show 0 < gv d n - gv d a by grind)
   grind
  ·by_cases tn:t < 0
   ·have:=Rat.mul_pos (show 0 < -t by grind) (show 0 < gv d p - gv d a by grind)
    grind
   ·grind
 rw [tz] at t1 t2
 exact ne (Prod.ext (by grind) (by grind))
noncomputable def Nco (A:List Pt):Prop:=∃ a b c,a ∈ A ∧ b ∈ A ∧ c ∈ A ∧ a8 a b c ≠ 0
theorem a9a {A:List Pt} (h:Nco A) {d a:Pt} (hd:d ≠ (0,0)) (mn:∀ x ∈ A,gv d a ≤ gv d x):∃ z ∈ A,gv d a < gv d z:=by
 obtain ⟨x,y,w,hx,hy,hw,n⟩:=h
 refine Classical.byContradiction fun q=>n ?_
 have eq:∀ z ∈ A,gv d z = gv d a:=fun z hz=>by
  have:=mn z hz
  have:¬ gv d a < gv d z:=fun t=>q ⟨z,hz,t⟩
  grind
 obtain ⟨t,ht⟩:=T6 (v:=(y.1 - x.1,y.2 - x.2)) hd (by have:=eq x hx; have:=eq y hy; unfold gv at *; grind)
 obtain ⟨s,hs⟩:=T6 (v:=(w.1 - x.1,w.2 - x.2)) hd (by have:=eq x hx; have:=eq w hw; unfold gv at *; grind)
 have t1:y.1 - x.1 = t * d.1:=congrArg Prod.fst ht
 have t2:y.2 - x.2 = t * d.2:=congrArg Prod.snd ht
 have s1:w.1 - x.1 = s * d.1:=congrArg Prod.fst hs
 have s2:w.2 - x.2 = s * d.2:=congrArg Prod.snd hs
 unfold a8
 rw [t1,t2,s1,s2]
 grind
noncomputable def Ip (K:List Pt) (p:Pt):Prop:=∀ α β:Rat,∃ k ∈ K,0 ≤ α * (k.1 - p.1) + β * (k.2 - p.2)
noncomputable def R9 (A B:List Pt):List Pt:=A.flatMap fun a=>B.map fun b=>(a.1 - b.1,a.2 - b.2)
theorem diffs_in {A B:List Pt} {q:Pt}:q ∈ R9 A B ↔ ∃ a ∈ A,∃ b ∈ B,q = (a.1 - b.1,a.2 - b.2):=by
 unfold R9
 rw [List.mem_flatMap]
 constructor
 ·rintro ⟨a,ha,h⟩
  obtain ⟨b,hb,rfl⟩:=List.mem_map.mp h
  exact ⟨a,ha,b,hb,rfl⟩
 ·rintro ⟨a,ha,b,hb,rfl⟩
  exact ⟨a,ha,List.mem_map.mpr ⟨b,hb,rfl⟩⟩
theorem b1p (A B:List Pt):(R9 A B).length = A.length * B.length:=by
 unfold R9
 induction A with
 | nil=>simp
 | cons a r ih=>rw [List.flatMap_cons,List.length_append,ih,List.length_map,List.length_cons,Nat.add_mul,Nat.one_mul,Nat.add_comm]
theorem a7V (s:Nat → Rat):∀ n:Nat,0 ≤ s 1 → s (n + 2) ≤ 0 → ∃ i,1 ≤ i ∧ i ≤ n + 1 ∧ 0 ≤ s i ∧ s (i + 1) ≤ 0
 | 0,h1,h2=>⟨1,by omega,by omega,h1,h2⟩
 | n + 1,h1,h2=>by
  by_cases q:0 ≤ s (n + 2)
  ·exact ⟨n + 2,by omega,by omega,q,h2⟩
  ·obtain ⟨i,a,b,c,d⟩:=a7V s n h1 (by grind)
   exact ⟨i,a,by omega,c,d⟩
theorem b4y {A B:List Pt} (lA:A.length ≤ 100) (lB:B.length ≤ 100) (hB:B ≠ []) (cA:CvT A) (cB:CvT B) (nA:∀ k,tk A (k + 1) ≠ tk A k) (nB:∀ k,tk B (k + 1) ≠ tk B k) (oA:Nco A) (oB:Nco B) :
  (∃ p,Ip A p ∧ ∀ k,0 ≤ a8 (tk B k) (tk B (k + 1)) p) ∨ (∃ k,∀ z ∈ B,a8 (tk A k) (tk A (k + 1)) z < 0) ∨ ∃ k,∀ z ∈ A,a8 (tk B k) (tk B (k + 1)) z < 0:=by
 obtain ⟨b0,hb0⟩:=List.exists_mem_of_ne_nil B hB
 have dl:(R9 A B).length < 2 ^ 20:=by
  rw [b1p]
  have:A.length * B.length ≤ 100 * 100:=Nat.mul_le_mul lA lB
  omega
 have a3A:3 ≤ (B5 (R9 A B)).length:=by
  obtain ⟨x,y,w,hx,hy,hw,n⟩:=oA
  refine a9i dl (diffs_in.mpr ⟨x,hx,b0,hb0,rfl⟩) (diffs_in.mpr ⟨y,hy,b0,hb0,rfl⟩) (diffs_in.mpr ⟨w,hw,b0,hb0,rfl⟩) fun z=>n ?_
  rw [← z]; unfold a8; grind
 obtain ⟨x0,hx0⟩:∃ x,x ∈ R9 A B:=by
  obtain ⟨x,y,w,hx,hy,hw,n⟩:=oA
  exact ⟨_,diffs_in.mpr ⟨x,hx,b0,hb0,rfl⟩⟩
 obtain ⟨q0,r0,er⟩:=a7I (List.length_pos_of_mem hx0)
 have hr:r0 ≠ []:=fun w=>by
  rw [b6j (by rw [er,w])] at a3A
  exact absurd a3A (by decide)
 have R:=a8Z dl er hr
 generalize B5 (R9 A B) = C at *
 have h0:=T0 R
 have mem:∀ i,∃ a ∈ A,∃ b ∈ B,tk C i = (a.1 - b.1,a.2 - b.2):=fun i=>diffs_in.mp (R.mem _ (G8 i h0))
 by_cases all:∀ k,0 ≤ a8 (tk C k) (tk C (k + 1)) (0,0)
 ·left
  obtain ⟨m,hm⟩:∃ m,C.length = m + 3:=⟨C.length - 3,by omega⟩
  have last:tk C (m + 2 + 1) = tk C 0:=by
   rw [← C9 (m + 2 + 1),hm,Nat.mod_self]
  obtain ⟨i,i1,i2,s1,s2⟩:=a7V (fun i=>a8 (tk C 0) (tk C i) (0,0)) m (all 0) (by
   have:=all (m + 2)
   rw [last] at this
   have e:a8 (tk C (m + 2)) (tk C 0) (0,0) = -a8 (tk C 0) (tk C (m + 2)) (0,0):=by unfold a8; grind
   show a8 (tk C 0) (tk C (m + 2)) (0,0) ≤ 0
   grind)
  have st:=b3l R i (j:=m + 3 - i) (by omega) (by omega)
  have e0:tk C (i + (m + 3 - i)) = tk C 0:=by
   rw [show i + (m + 3 - i) = m + 2 + 1 by omega,last]
  rw [e0] at st
  have s0:=all i
  obtain ⟨a0,ha0,b0',hb0',E0⟩:=mem 0
  obtain ⟨a1,ha1,b1,hb1,E1⟩:=mem i
  obtain ⟨a2,ha2,b2,hb2,E2⟩:=mem (i + 1)
  simp only [E0,E1,E2] at st s0 s1 s2
  generalize hw0:a8 (a1.1 - b1.1,a1.2 - b1.2) (a2.1 - b2.1,a2.2 - b2.2) (0,0) = w0 at *
  generalize hw2:a8 (a0.1 - b0'.1,a0.2 - b0'.2) (a1.1 - b1.1,a1.2 - b1.2) (0,0) = w2 at *
  generalize hw1:a8 (a0.1 - b0'.1,a0.2 - b0'.2) (a2.1 - b2.1,a2.2 - b2.2) (0,0) = v1 at *
  have W:a8 (a1.1 - b1.1,a1.2 - b1.2) (a2.1 - b2.1,a2.2 - b2.2) (a0.1 - b0'.1,a0.2 - b0'.2) = w0 + w2 - v1:=by
   rw [← hw0,← hw2,← hw1]; unfold a8; grind
  rw [W] at st
  have X:w0 * (a0.1 - b0'.1) + -v1 * (a1.1 - b1.1) + w2 * (a2.1 - b2.1) = 0:=by
   rw [← hw0,← hw2,← hw1]; unfold a8; grind
  have Y:w0 * (a0.2 - b0'.2) + -v1 * (a1.2 - b1.2) + w2 * (a2.2 - b2.2) = 0:=by
   rw [← hw0,← hw2,← hw1]; unfold a8; grind
  clear hw0 hw1 hw2 W
  have wn:w0 + w2 - v1 ≠ 0:=by grind
  have ic:(w0 + w2 - v1) * (w0 + w2 - v1)⁻¹ = 1:=Rat.mul_inv_cancel _ wn
  have ip:0 < (w0 + w2 - v1)⁻¹:=Rat.inv_pos.mpr st
  generalize (w0 + w2 - v1)⁻¹ = n at *
  refine ⟨(n * (w0 * a0.1 + -v1 * a1.1 + w2 * a2.1),n * (w0 * a0.2 + -v1 * a1.2 + w2 * a2.2)),fun α β=>?_,fun k=>?_⟩
  ·refine Classical.byContradiction fun q=>?_
   have q':∀ z ∈ A,α * (z.1 - n * (w0 * a0.1 + -v1 * a1.1 + w2 * a2.1)) + β * (z.2 - n * (w0 * a0.2 + -v1 * a1.2 + w2 * a2.2)) < 0:=fun z hz=>Rat.not_le.mp fun t=>q ⟨z,hz,t⟩
   have u0:=q' a0 ha0
   have u1:=q' a1 ha1
   have u2:=q' a2 ha2
   generalize hf0:α * (a0.1 - n * (w0 * a0.1 + -v1 * a1.1 + w2 * a2.1)) + β * (a0.2 - n * (w0 * a0.2 + -v1 * a1.2 + w2 * a2.2)) = F0 at *
   generalize hf1:α * (a1.1 - n * (w0 * a0.1 + -v1 * a1.1 + w2 * a2.1)) + β * (a1.2 - n * (w0 * a0.2 + -v1 * a1.2 + w2 * a2.2)) = F1 at *
   generalize hf2:α * (a2.1 - n * (w0 * a0.1 + -v1 * a1.1 + w2 * a2.1)) + β * (a2.2 - n * (w0 * a0.2 + -v1 * a1.2 + w2 * a2.2)) = F2 at *
   have sum:w0 * F0 + -v1 * F1 + w2 * F2 = 0:=by
    rw [← hf0,← hf1,← hf2]
    have e1:(w0 + w2 - v1) * n * (w0 * a0.1 + -v1 * a1.1 + w2 * a2.1) = w0 * a0.1 + -v1 * a1.1 + w2 * a2.1:=by rw [ic,Rat.one_mul]
    have e2:(w0 + w2 - v1) * n * (w0 * a0.2 + -v1 * a1.2 + w2 * a2.2) = w0 * a0.2 + -v1 * a1.2 + w2 * a2.2:=by rw [ic,Rat.one_mul]
    grind
   have y0:=Rat.mul_nonneg s0 (show 0 ≤ -F0 by grind)
   have y1:=Rat.mul_nonneg (show 0 ≤ -v1 by grind) (show 0 ≤ -F1 by grind)
   have y2:=Rat.mul_nonneg s1 (show 0 ≤ -F2 by grind)
   have big:0 < w0 ∨ 0 < -v1 ∨ 0 < w2:=by
    by_cases z1:0 < w0
    ·exact .inl z1
    ·by_cases z2:0 < -v1
     ·exact .inr (.inl z2)
     ·exact .inr (.inr (by grind))
   rcases big with z | z | z
   ·have:=Rat.mul_pos z (show 0 < -F0 by grind); grind
   ·have:=Rat.mul_pos z (show 0 < -F1 by grind); grind
   ·have:=Rat.mul_pos z (show 0 < -F2 by grind); grind
  ·have k0:=cB k b0' hb0'
   have k1:=cB k b1 hb1
   have k2:=cB k b2 hb2
   have px:n * (w0 * a0.1 + -v1 * a1.1 + w2 * a2.1) = n * (w0 * b0'.1 + -v1 * b1.1 + w2 * b2.1):=by
    have:w0 * a0.1 + -v1 * a1.1 + w2 * a2.1 = w0 * b0'.1 + -v1 * b1.1 + w2 * b2.1:=by grind
    rw [this]
   have py:n * (w0 * a0.2 + -v1 * a1.2 + w2 * a2.2) = n * (w0 * b0'.2 + -v1 * b1.2 + w2 * b2.2):=by
    have:w0 * a0.2 + -v1 * a1.2 + w2 * a2.2 = w0 * b0'.2 + -v1 * b1.2 + w2 * b2.2:=by grind
    rw [this]
   rw [px,py]
   have e:a8 (tk B k) (tk B (k + 1)) (n * (w0 * b0'.1 + -v1 * b1.1 + w2 * b2.1),n * (w0 * b0'.2 + -v1 * b1.2 + w2 * b2.2)) = n * (w0 * a8 (tk B k) (tk B (k + 1)) b0' + -v1 * a8 (tk B k) (tk B (k + 1)) b1 + w2 * a8 (tk B k) (tk B (k + 1)) b2):=by
    generalize tk B k = u at *
    generalize tk B (k + 1) = v at *
    have e1:(w0 + w2 - v1) * n * u.1 = u.1:=by rw [ic,Rat.one_mul]
    have e2:(w0 + w2 - v1) * n * u.2 = u.2:=by rw [ic,Rat.one_mul]
    unfold a8
    grind
   rw [e]
   refine Rat.mul_nonneg (Rat.le_of_lt ip) ?_
   have y0:=Rat.mul_nonneg s0 k0
   have y1:=Rat.mul_nonneg (show 0 ≤ -v1 by grind) k1
   have y2:=Rat.mul_nonneg s1 k2
   grind
 ·right
  obtain ⟨k,hk⟩:=Classical.not_forall.mp all
  have hk:=Rat.not_le.mp hk
  have N:=Z3 R k
  obtain ⟨a,ha,b,hb,E1⟩:=mem k
  obtain ⟨a',ha',b',hb',E2⟩:=mem (k + 1)
  rw [E1,E2] at hk N
  have lf:∀ x ∈ A,∀ y ∈ B,0 ≤ a8 (a.1 - b.1,a.2 - b.2) (a'.1 - b'.1,a'.2 - b'.2) (x.1 - y.1,x.2 - y.2):=fun x hx y hy=>N.lf _ (diffs_in.mpr ⟨x,hx,y,hy,rfl⟩)
  generalize hd:((a'.1 - b'.1 - (a.1 - b.1),a'.2 - b'.2 - (a.2 - b.2)):Pt) = d at *
  have d1:a'.1 - b'.1 - (a.1 - b.1) = d.1:=congrArg Prod.fst hd
  have d2:a'.2 - b'.2 - (a.2 - b.2) = d.2:=congrArg Prod.snd hd
  have dn:d ≠ (0,0):=fun z=>N.ne (by
   rw [z] at d1 d2
   have d1:a'.1 - b'.1 - (a.1 - b.1) = 0:=d1
   have d2:a'.2 - b'.2 - (a.2 - b.2) = 0:=d2
   exact Prod.ext (by show a'.1 - b'.1 = a.1 - b.1; grind) (by show a'.2 - b'.2 = a.2 - b.2; grind))
  have cf:∀ q:Pt,a8 (a.1 - b.1,a.2 - b.2) (a'.1 - b'.1,a'.2 - b'.2) q = gv d q - (gv d a - gv d b):=fun q=>by
   unfold a8 gv
   rw [d1,d2]
   grind
  have all':∀ x ∈ A,∀ y ∈ B,gv d a - gv d b ≤ gv d x - gv d y:=fun x hx y hy=>by
   have:=lf x hx y hy
   rw [cf] at this
   unfold gv at *
   grind
  have mA:∀ x ∈ A,gv d a ≤ gv d x:=fun x hx=>by have:=all' x hx b hb; grind
  have mB:∀ y ∈ B,gv d y ≤ gv d b:=fun y hy=>by have:=all' a ha y hy; grind
  have ab:gv d b < gv d a:=by
   rw [cf] at hk
   have:gv d ((0,0):Pt) = 0:=by unfold gv; grind
   grind
  have on:gv d a' - gv d b' = gv d a - gv d b:=by
   have:=cf (a'.1 - b'.1,a'.2 - b'.2)
   rw [Q1] at this
   unfold gv at *
   grind
  have ea:gv d a' = gv d a:=by have:=mA a' ha'; have:=mB b' hb'; grind
  have eb:gv d b' = gv d b:=by grind
  by_cases q:a' = a
  ·have qb:b' ≠ b:=fun w=>dn (Prod.ext (by rw [← d1,q,w]; show _ = (0:Rat); grind) (by rw [← d2,q,w]; show _ = (0:Rat); grind))
   have ng:∀ z,gv (-d.1,-d.2) z = -gv d z:=fun z=>by unfold gv; grind
   have dn':((-d.1,-d.2):Pt) ≠ (0,0):=fun z=>dn (by
    have z1:-d.1 = 0:=congrArg Prod.fst z
    have z2:-d.2 = 0:=congrArg Prod.snd z
    exact Prod.ext (by show d.1 = 0; grind) (by show d.2 = 0; grind))
   have mB':∀ y ∈ B,gv (-d.1,-d.2) b ≤ gv (-d.1,-d.2) y:=fun y hy=>by rw [ng,ng]; have:=mB y hy; grind
   obtain ⟨z,hz,oz⟩:=a9a oB dn' mB'
   obtain ⟨k,s,sp,f⟩:=a6x cB nB dn' hb hb' hz mB' (by rw [ng,ng,eb]) qb oz
   right
   refine ⟨k,fun x hx=>?_⟩
   rw [f,ng,ng]
   have:=mA x hx
   have:=Rat.mul_pos sp (show 0 < gv d x - gv d b by grind)
   grind
  ·obtain ⟨z,hz,oz⟩:=a9a oA dn mA
   obtain ⟨k,s,sp,f⟩:=a6x cA nA dn ha ha' hz mA ea q oz
   left
   refine ⟨k,fun y hy=>?_⟩
   rw [f]
   have:=mB y hy
   have:=Rat.mul_pos sp (show 0 < gv d a - gv d y by grind)
   grind
theorem a08 (a b u w:Pt) (s:Rat):a8 a b (l5 u w s) = (1 - s) * a8 a b u + s * a8 a b w:=by unfold a8 l5; grind
noncomputable def xq (a b u w:Pt):Pt:=l5 u w (a8 a b u / (a8 a b u - a8 a b w))
theorem Q9 {a b u w:Pt} (h:a8 a b u * a8 a b w < 0):∃ s:Rat,0 < s ∧ s < 1 ∧ xq a b u w = l5 u w s:=by
 refine ⟨_,?_,?_,rfl⟩
 ·by_cases p:0 < a8 a b u
  ·have n:a8 a b w < 0:=by
    refine Rat.not_le.mp fun z=>?_
    have:=Rat.mul_nonneg (Rat.le_of_lt p) z
    grind
   rw [Rat.div_def]
   exact Rat.mul_pos p (Rat.inv_pos.mpr (by grind))
  ·have p':a8 a b u ≤ 0:=by grind
   have pn:a8 a b u ≠ 0:=fun z=>by rw [z,Rat.zero_mul] at h; exact absurd h (by decide +kernel)
   have n:0 < a8 a b w:=by
    refine Rat.not_le.mp fun z=>?_
    have:=Rat.mul_nonneg (show 0 ≤ -a8 a b u by grind) (show 0 ≤ -a8 a b w by grind)
    grind
   have e:a8 a b u / (a8 a b u - a8 a b w) = (-a8 a b u) * (a8 a b w - a8 a b u)⁻¹:=by
    have h1:a8 a b u - a8 a b w ≠ 0:=by grind
    have h2:a8 a b w - a8 a b u ≠ 0:=by grind
    rw [Rat.div_def]
    grind
   rw [e]
   exact Rat.mul_pos (by grind) (Rat.inv_pos.mpr (by grind))
 ·by_cases p:0 < a8 a b u
  ·have n:a8 a b w < 0:=by
    refine Rat.not_le.mp fun z=>?_
    have:=Rat.mul_nonneg (Rat.le_of_lt p) z
    grind
   have hd:0 < a8 a b u - a8 a b w:=by grind
   have e:1 - a8 a b u / (a8 a b u - a8 a b w) = (-a8 a b w) * (a8 a b u - a8 a b w)⁻¹:=by
    have h1:a8 a b u - a8 a b w ≠ 0:=by grind
    rw [Rat.div_def]
    grind
   have:=Rat.mul_pos (show 0 < -a8 a b w by grind) (Rat.inv_pos.mpr hd)
   rw [← e] at this
   grind
  ·have p':a8 a b u ≤ 0:=by grind
   have pn:a8 a b u ≠ 0:=fun z=>by rw [z,Rat.zero_mul] at h; exact absurd h (by decide +kernel)
   have n:0 < a8 a b w:=by
    refine Rat.not_le.mp fun z=>?_
    have:=Rat.mul_nonneg (show 0 ≤ -a8 a b u by grind) (show 0 ≤ -a8 a b w by grind)
    grind
   have hd:0 < a8 a b w - a8 a b u:=by grind
   have e:1 - a8 a b u / (a8 a b u - a8 a b w) = a8 a b w * (a8 a b w - a8 a b u)⁻¹:=by
    have h1:a8 a b u - a8 a b w ≠ 0:=by grind
    have h2:a8 a b w - a8 a b u ≠ 0:=by grind
    rw [Rat.div_def]
    grind
   have:=Rat.mul_pos n (Rat.inv_pos.mpr hd)
   rw [← e] at this
   grind
section
variable {S:Pt → Prop} {p:Pt} {C:List Pt} (R:Rnd S p C) (h3:3 ≤ C.length)
include R h3
end
theorem a0n {x y:Rat} (h1:0 < x) (h2:0 < y):0 < x * y:=Rat.mul_pos h1 h2
noncomputable def ro1:D → D
 | .tup es=>.tup (es.drop 1 ++ es.take 1)
 | d=>d
noncomputable abbrev wgT:DT:=dB (dOp (j6 (fun i j=>decide (j < i))) (dL 1) (dC (.int 0)))
noncomputable abbrev wgB:DM:=o0 0 1 (a7 (dV 1) (a7 (dOp v6 (dL 0) (dL 1)) a9))
theorem b52 (fs:Option FS) (r:Nat):∀ (g:Nat),F9 wgT wgB ⟨[.val (.int g),.val (.int r)],fs⟩ = some (.next,⟨[.val (.int (Nat.gcd g r)),.val (.int 0)],fs⟩):=by
 induction r using Nat.strongRecOn with
 | ind r ih=>
  intro g
  by_cases h:r = 0
  ·subst h
   rw [Nat.gcd_zero_right]
   exact a7f (by simp [c7,p7,e8,dOp,dUn,dC,dL,dV,c8,i7,dB,e7,e5,a7,a9,e6,i8,dCB,one,j8,m6,dIf,n8,dOr,j7,o8,p9,r8,pIx,j4,l8,j9,j6,i9,k6,j5,l3,o0,dTr,p8])
  ·have e:((g:Int).fmod (r:Int)) = ((g % r:Nat):Int):=by rw [Int.fmod_eq_emod_of_nonneg _ (by omega)]; rfl
   have hy:=ih (g % r) (Nat.mod_lt _ (by omega)) r
   have hg:Nat.gcd g r = Nat.gcd r (g % r):=by rw [Nat.gcd_comm g r,Nat.gcd_rec,Nat.gcd_comm]
   rw [hg]
   refine a7g (s1:=⟨[.val (.int g),.val (.int r)],fs⟩) (s2:=⟨[.val (.int r),.val (.int ((g % r:Nat):Int))],fs⟩) (by simp [c7,p7,e8,dOp,dUn,dC,dL,dV,c8,i7,dB,e7,e5,a7,a9,e6,i8,dCB,one,j8,m6,dIf,n8,dOr,j7,o8,p9,r8,pIx,j4,l8,j9,j6,i9,k6,j5,l3,o0,dTr,p8]; omega) ?_ hy
   rw [← e]
   simp [o0,a7,a9,dV,dOp,dL,v6,h]
noncomputable abbrev LGd:DFn:=b1t
theorem b4j (a b:Int) (fs:Option FS):LGd [.int a,.int b] fs = some (.int (Int.gcd a b),fs):=by
 have hy:=b52 fs b.natAbs a.natAbs
 refine n9 (s:=⟨[.val (.int (Nat.gcd a.natAbs b.natAbs)),.val (.int 0)],fs⟩) ?_
 show a3O ⟨[.val (.int a),.val (.int b)],fs⟩ = _
 unfold a3O
 rw [m7 (s1:=⟨[.val (.int a.natAbs),.val (.int b.natAbs)],fs⟩) (by simp [c7,p7,e8,dOp,dUn,dC,dL,dV,c8,i7,dB,e7,e5,a7,a9,e6,i8,dCB,one,j8,m6,dIf,n8,dOr,j7,o8,p9,r8,pIx,j4,l8,j9,j6,i9,k6,j5,l3,o0,dTr,p8,M0,a2W])]
 rw [m7 hy]
 refine o9 ?_
 simp [dV,Int.gcd]
end T
namespace DL
open PySem L2
theorem ug0 (f:FS) (h:f.kind = 2):f.tget 0 = some (.lst (f.cells.map .int)):=by unfold FS.tget; rw [if_neg (by omega),if_pos rfl]
theorem ug1 (f:FS) (h:f.kind = 2):f.tget 1 = some (.int f.pos):=by unfold FS.tget; rw [if_neg (by omega),if_neg (by decide),if_pos rfl]
theorem ug2 (f:FS) (h:f.kind = 2):f.tget 2 = some (.int f.left):=by unfold FS.tget; rw [if_neg (by omega),if_neg (by decide),if_neg (by decide),if_pos rfl]
theorem ug3 (f:FS) (h:f.kind = 2):f.tget 3 = some (.int f.turn):=by unfold FS.tget; rw [if_neg (by omega),if_neg (by decide),if_neg (by decide),if_neg (by decide),if_pos ⟨rfl,by omega⟩]
theorem up1 (f:FS) (v:Int) (h:f.kind = 2):f.tput 1 v = some { f with pos:=v }:=by unfold FS.tput; rw [if_neg (by omega),if_pos rfl]
theorem up2 (f:FS) (v:Int) (h:f.kind = 2):f.tput 2 v = some { f with left:=v }:=by unfold FS.tput; rw [if_neg (by omega),if_neg (by decide),if_pos rfl]
theorem up3 (f:FS) (v:Int) (h:f.kind = 2):f.tput 3 v = some { f with turn:=v }:=by unfold FS.tput; rw [if_neg (by omega),if_neg (by decide),if_neg (by decide),if_pos ⟨rfl,by omega⟩]
end DL
namespace T
open PySem L2 DL
noncomputable abbrev LDx:DFn:=X1
set_option maxHeartbeats 4000000 in
theorem b5E (f:FS) (many:Int) (hm:0 < many) (hm2:many < 2 ^ 100) (ht:0 ≤ f.pos) (ht2:f.pos < 2 ^ 40) (hu:0 ≤ f.turn) (hu2:f.turn < 2 ^ 40) (hk:f.kind = 2) (hcn:f.cells ≠ []) :
  ∃ r f',LDx [.feed,.int many] (some f) = some (.int r,some f') ∧ 0 ≤ r ∧ r < many ∧ f.pos ≤ f'.pos ∧ f'.pos ≤ f.pos + 1 ∧ f'.turn = f.turn + 1 ∧ f'.kind = 2 ∧ f'.cells = f.cells:=by
 have dm:D5 many = true:=b1A (by omega) (by omega)
 have hne:many ≠ 0:=by omega
 obtain ⟨cs,ps,lf,tn,kd⟩:=f
 simp only at ht ht2 hu hu2 hk hcn ⊢
 subst hk
 have st0:dTP 0 3 (dOp j4 (dTG 0 3) (dC (.int 1))) ⟨[.val .feed,.val (.int many),.no,.no,.no,.no],some ⟨cs,ps,lf,tn,2⟩⟩ = some (.next,⟨[.val .feed,.val (.int many),.no,.no,.no,.no],some ⟨cs,ps,lf,tn + 1,2⟩⟩):=by
  simp [dTP,dOp,dTG,ug3,up3,dC,j4]
 by_cases hl:0 < lf
 ·refine ⟨lf.fmod many,⟨cs,ps,lf.fdiv many,tn + 1,2⟩,n9 (s:=⟨[.val .feed,.val (.int many),.val (.int (lf.fmod many)),.no,.no,.no],some ⟨cs,ps,lf.fdiv many,tn + 1,2⟩⟩) ?_,(N4 hm).1,(N4 hm).2,by simp,by simp; omega,rfl,rfl,rfl⟩
  show Q5 ⟨[.val .feed,.val (.int many),.no,.no,.no,.no],some ⟨cs,ps,lf,tn,2⟩⟩ = _
  unfold Q5
  rw [m7 st0]
  refine B3 ?_
  simp [c7,p7,e8,dOp,dTG,dTP,ug0,ug1,ug2,up1,up2,dC,dL,dV,c8,i7,dB,j6,v6,C3,hl,hne,dm,e7,Option.bind]
 ·have hc:0 < cs.length:=List.length_pos_iff.mpr hcn
  have hi:=N4 (a:=ps) (b:=(cs.length:Int)) (by omega)
  obtain ⟨c,hg⟩:∃ c:Int,atI (cs.map D.int) (ps.fmod (cs.length:Int)) = some (.int c):=by
   have:(ps.fmod (cs.length:Int)).toNat < cs.length:=by omega
   refine ⟨cs[(ps.fmod (cs.length:Int)).toNat],?_⟩
   rw [a4n hi.1 (by rw [List.length_map]; exact hi.2),List.getElem?_map,List.getElem?_eq_getElem this]
   rfl
  have hc1:=N4 (a:=c) (b:=1000003) (by decide)
  have pre:∀ rest:DM,c7 (dTP 0 3 (dOp j4 (dTG 0 3) (dC (.int 1)))) (c7 (i7 (dB (dOp (j6 (fun i j=>decide (j < i))) (dTG 0 2) (dC (.int 0)))) (c7 (e8 (dOp v6 (dTG 0 2) (dL 1)) (c8 2)) (c7 (dTP 0 2 (dOp C3 (dTG 0 2) (dL 1))) (e7 (dV 2)))) i8) (c7 (e8 (dTG 0 1) (c8 3)) (c7 (dTP 0 1 (dOp j4 (dL 3) (dC (.int 1)))) (c7 (e8 (dOp pIx (dTG 0 0) (dOp v6 (dL 3) (dCB (one i9) (a7 (dTG 0 0) a9)))) (c8 4)) rest))))
    ⟨[.val .feed,.val (.int many),.no,.no,.no,.no],some ⟨cs,ps,lf,tn,2⟩⟩ = rest ⟨[.val .feed,.val (.int many),.no,.val (.int ps),.val (.int c),.no],some ⟨cs,ps + 1,lf,tn + 1,2⟩⟩:=fun rest=>by
   rw [m7 st0]
   rw [m7 (s1:=⟨[.val .feed,.val (.int many),.no,.no,.no,.no],some ⟨cs,ps,lf,tn + 1,2⟩⟩) (by simp [i7,dB,dOp,dTG,ug2,dC,j6,hl,i8])]
   rw [m7 (s1:=⟨[.val .feed,.val (.int many),.no,.val (.int ps),.no,.no],some ⟨cs,ps,lf,tn + 1,2⟩⟩) (by simp [e8,dTG,ug1,c8])]
   rw [m7 (s1:=⟨[.val .feed,.val (.int many),.no,.val (.int ps),.no,.no],some ⟨cs,ps + 1,lf,tn + 1,2⟩⟩) (by simp [dTP,up1,dOp,dL,dC,j4])]
   rw [m7 (s1:=⟨[.val .feed,.val (.int many),.no,.val (.int ps),.val (.int c),.no],some ⟨cs,ps + 1,lf,tn + 1,2⟩⟩) (by
    have hn:¬ (cs.length:Int) = 0:=by omega
    simp [e8,dOp,dTG,ug0,dL,dCB,one,i9,a7,a9,v6,pIx,c8,hcn,hg])]
  have test:n8 (dB (dOp (j6 (fun i j=>decide (j ≤ i))) (dL 4) (dOp Y3 (dC (.int 10)) (dC (.int 18))))) (dB (dOp (j6 (fun i j=>decide (i < j))) (dL 3) (dCB (one i9) (a7 (dTG 0 0) a9)))) ⟨[.val .feed,.val (.int many),.no,.val (.int ps),.val (.int c),.no],some ⟨cs,ps + 1,lf,tn + 1,2⟩⟩ =
    some (decide (1000000000000000000 ≤ c) && decide (ps < (cs.length:Int)),⟨[.val .feed,.val (.int many),.no,.val (.int ps),.val (.int c),.no],some ⟨cs,ps + 1,lf,tn + 1,2⟩⟩):=by
   by_cases h1:1000000000000000000 ≤ c
   ·simp [n8,dB,dOp,dL,dC,Y3,j6,dTG,ug0,dCB,one,i9,a7,a9,h1]
   ·simp [n8,dB,dOp,dL,dC,Y3,j6,h1]
  by_cases hb:(decide (1000000000000000000 ≤ c) && decide (ps < (cs.length:Int))) = true
  ·refine ⟨c.fmod many,⟨cs,ps + 1,c.fdiv many,tn + 1,2⟩,n9 (s:=⟨[.val .feed,.val (.int many),.no,.val (.int ps),.val (.int c),.no],some ⟨cs,ps + 1,c.fdiv many,tn + 1,2⟩⟩) ?_,(N4 hm).1,(N4 hm).2,by simp; omega,by simp,rfl,rfl,rfl⟩
   show Q5 ⟨[.val .feed,.val (.int many),.no,.no,.no,.no],some ⟨cs,ps,lf,tn,2⟩⟩ = _
   unfold Q5
   rw [pre]
   rw [hb] at test
   refine B3 ?_
   rw [C4 test]
   simp [c7,p7,dTP,dOp,dL,C3,dm,up2,e7,v6,hne]
  ·have hb':(decide (1000000000000000000 ≤ c) && decide (ps < (cs.length:Int))) = false:=by simpa using hb
   have b1:v7 48271 = true:=by decide
   have b2:v7 (c.fmod 1000003) = true:=a0W (by omega)
   have b3:v7 7919 = true:=by decide
   have b4:v7 (tn + 1) = true:=a0W (by omega)
   have b5:v7 69621 = true:=by decide
   have b6:v7 31 = true:=by decide
   have b7:v7 (31 * (tn + 1)) = true:=a0W (by omega)
   have d64:D5 64 = true:=by decide
   obtain ⟨M,hM,m1,m2⟩:∃ M:Int,(c.fmod 1000003 * 48271 + 7919 * (tn + 1) + 104729).fmod 2147483647 = M ∧ 0 ≤ M ∧ M < 2147483647:=⟨_,rfl,N4 (by decide)⟩
   have hD:=Int.fdiv_eq_ediv_of_nonneg M (show (0:Int) ≤ 64 by decide)
   have b8:v7 (M.fdiv 64) = true:=a0W (by rw [hD]; omega)
   obtain ⟨L,hL⟩:∃ L:Int,(M.fdiv 64 * 69621 + 31 * (tn + 1) * (tn + 1) + ps).fmod 2147483587 = L:=⟨_,rfl⟩
   refine ⟨(L.fdiv 64).fmod many,⟨cs,ps + 1,lf,tn + 1,2⟩,n9 (s:=⟨[.val .feed,.val (.int many),.no,.val (.int ps),.val (.int c),.val (.int L)],some ⟨cs,ps + 1,lf,tn + 1,2⟩⟩) ?_,(N4 hm).1,(N4 hm).2,by simp; omega,by simp,rfl,rfl,rfl⟩
   show Q5 ⟨[.val .feed,.val (.int many),.no,.no,.no,.no],some ⟨cs,ps,lf,tn,2⟩⟩ = _
   unfold Q5
   rw [pre]
   rw [hb'] at test
   rw [m7 (by rw [V5 test]; rfl)]
   rw [m7 (s1:=⟨[.val .feed,.val (.int many),.no,.val (.int ps),.val (.int c),.val (.int M)],some ⟨cs,ps + 1,lf,tn + 1,2⟩⟩) (by
    simp [e8,dOp,dL,dC,dTG,ug3,c8,v6,o7,j4,b1,b2,b3,b4,hM])]
   rw [m7 (s1:=⟨[.val .feed,.val (.int many),.no,.val (.int ps),.val (.int c),.val (.int L)],some ⟨cs,ps + 1,lf,tn + 1,2⟩⟩) (by
    simp [e8,dOp,dL,dC,dTG,ug3,c8,v6,o7,j4,C3,b4,b5,b6,b7,b8,d64,hL])]
   simp [e7,dOp,dL,dC,v6,C3,d64,hne]
noncomputable def Fd4 (n:Nat) (f:FS):Prop:=0 ≤ f.pos ∧ f.pos ≤ n ∧ 0 ≤ f.turn ∧ f.turn ≤ n ∧ f.kind = 2 ∧ f.cells ≠ []
theorem Fd4.mono {n m:Nat} {f:FS} (h:Fd4 n f) (hm:n ≤ m):Fd4 m f:=⟨h.1,by have:=h.2.1; omega,h.2.2.1,by have:=h.2.2.2.1; omega,h.2.2.2.2⟩
theorem J4 {n:Nat} {f:FS} (many:Int) (h:Fd4 n f) (hm:0 < many:=by omega) (hn:n < 2 ^ 30:=by omega) (hm2:many < 2 ^ 100:=by omega) :
  ∃ r f',LDx [.feed,.int many] (some f) = some (.int r,some f') ∧ 0 ≤ r ∧ r < many ∧ Fd4 (n + 1) f':=by
 obtain ⟨a1,a2,a3,a4,a5,a6⟩:=h
 obtain ⟨r,f',e,h0,h1,h2,h3,h4,h5,h6⟩:=b5E f many hm hm2 a1 (by omega) a3 (by omega) a5 a6
 exact ⟨r,f',e,h0,h1,by omega,by omega,by omega,by omega,h5,by rw [h6]; exact a6⟩
theorem b0b (ns:List Int):E8 ns ≠ []:=by
 unfold E8
 cases ns with
 | nil=>simp
 | cons n r=>simp
theorem b5H {ns:List Int} (h:ns.length ≤ 63):(E8 ns).length ≤ 63:=by
 unfold E8
 cases ns with
 | nil=>simp
 | cons n r=>simpa using h
theorem b2k (ns:List Int) (h:ns.length ≤ 63):V2 [.scr ns] none = some (.feed,some ⟨E8 ns,0,0,0,2⟩):=by
 refine n9 (s:=⟨[.val (.scr ns)],some ⟨E8 ns,0,0,0,2⟩⟩) ?_
 show a14 ⟨[.val (.scr ns)],none⟩ = _
 have:=b5H h
 simp [a14,e7,a04,this]
theorem Fd4.zero (ns:List Int):Fd4 0 ⟨E8 ns,0,0,0,2⟩:=⟨by simp,by simp,by simp,by simp,rfl,b0b ns⟩
theorem Th.part {b k:Nat} {ds:List D} (h:Th b k (.tup ds)):∀ d ∈ ds,Th b k d:=fun d hd=>by
 cases k with
 | zero=>unfold Th at h; exact h.elim
 | succ k=>unfold Th at h; exact Th.mono (Nat.le_refl _) d (by omega) (Ths.mem h hd)
theorem T2 {i j:Int} (h1:v7 i = true) (h2:v7 j = true):o7 (.int i) (.int j) = some (.int (i * j)):=by simp [o7,h1,h2]
theorem a1F (a b:Int) (fs:Option FS):R4 [.int a,.int b] fs = some (.int (Int.gcd a b),fs):=b4j a b fs
noncomputable abbrev LPx:DFn:=a3V R4
theorem b40 {k:Nat} (x y d:Int) (fs:Option FS) (hd:d ≠ 0) (h:Bd k d) (hk:k ≤ 8000):LPx [.int x,.int y,.int d] fs = some (pt (Rat.divInt x d,Rat.divInt y d),fs):=by
 obtain ⟨p0,p1,p2,p3⟩:=a4b x y d hd
 have dg:=a5i (x:=x) (y:=y) hd h hk
 have e1:=a1F x y fs
 have e2:=a1F (Int.gcd x y:Int) d fs
 refine n9 (s:=⟨[.val (.int x),.val (.int y),.val (.int d),.val (.int (if d < 0 then -(Int.gcd (Int.gcd x y:Int) d:Int) else (Int.gcd (Int.gcd x y:Int) d:Int)))],fs⟩) ?_
 show a0G R4 ⟨[.val (.int x),.val (.int y),.val (.int d),.no],fs⟩ = _
 unfold a0G
 rw [m7 (s1:=⟨[.val (.int x),.val (.int y),.val (.int d),.val (.int (Int.gcd (Int.gcd x y:Int) d))],fs⟩) (by simp [c7,p7,e8,dOp,dUn,dC,dL,dV,c8,i7,dB,e7,e5,a7,a9,e6,i8,dCB,one,j8,m6,dIf,n8,dOr,j7,o8,p9,r8,pIx,j4,l8,j9,j6,i9,k6,j5,l3,o0,dTr,p8,e1,e2])]
 rw [m7 (s1:=⟨[.val (.int x),.val (.int y),.val (.int d),.val (.int (if d < 0 then -(Int.gcd (Int.gcd x y:Int) d:Int) else (Int.gcd (Int.gcd x y:Int) d:Int)))],fs⟩) (by
  by_cases nb:d < 0
  ·simp [c7,p7,e8,dOp,dUn,dC,dL,dV,c8,i7,dB,e7,e5,a7,a9,e6,i8,dCB,one,j8,m6,dIf,n8,dOr,j7,o8,p9,r8,pIx,j4,l8,j9,j6,i9,k6,j5,l3,o0,dTr,p8,nb]
  ·simp [c7,p7,e8,dOp,dUn,dC,dL,dV,c8,i7,dB,e7,e5,a7,a9,e6,i8,dCB,one,j8,m6,dIf,n8,dOr,j7,o8,p9,r8,pIx,j4,l8,j9,j6,i9,k6,j5,l3,o0,dTr,p8,nb])]
 generalize hg:(if d < 0 then -(Int.gcd (Int.gcd x y:Int) d:Int) else (Int.gcd (Int.gcd x y:Int) d:Int)) = gg at *
 refine o9 ?_
 unfold pt
 rw [← p1,← p2,← p3]
 have s3:(3:Nat) ≤ sizeLine:=by decide
 simp [c7,p7,e8,dOp,dUn,dC,dL,dV,c8,i7,dB,e7,e5,a7,a9,e6,i8,dCB,one,j8,m6,dIf,n8,dOr,j7,o8,p9,r8,pIx,j4,l8,j9,j6,i9,k6,j5,l3,o0,dTr,p8,C3,dg,s3]
end T
namespace DL
open PySem L2
theorem atN {α:Type} {xs:List α} {i:Nat} {x:α} (h:xs[i]? = some x):atI xs (i:Int) = some x:=by
 have hi:=(List.getElem?_eq_some_iff.mp h).1
 rw [a4n (by omega) (by omega)]
 simpa using h
theorem a6o {fc:DT} (caps:List Sl) (p:D → Bool) (fs:Option FS):∀ ds:List D,(∀ d ∈ ds,fc ⟨.val d :: caps,fs⟩ = some (p d,⟨.val d :: caps,fs⟩)) → v8 (fun d=>some (.val d :: caps)) fc (dV 0) ds fs = some (ds.filter p,fs)
 | [],_=>rfl
 | d :: r,h=>by
  have e:=h d (List.mem_cons_self ..)
  have ih:=a6o caps p fs r fun x hx=>h x (List.mem_cons_of_mem _ hx)
  cases hp:p d
  ·rw [hp] at e
   simp [v8,e,hp,ih]
  ·rw [hp] at e
   simp [v8,e,hp,ih,dV]
theorem b16 (ds:List D):PyData.eqv (D.py (.lst ds)) (D.py (.lst [])) = decide (ds = []):=by
 cases ds with
 | nil=>rfl
 | cons d r=>simp [D.py,D.pys,PyData.eqv,PyData.eqvAll]
theorem neL {b k:Nat} (ds:List D) (h:∀ d ∈ ds,Th b k d) (hb:b ≤ 1920) (hk:k + 1 ≤ 64):pNe (.lst ds) (.lst []) = some (.bl (!decide (ds = []))):=by
 have t:Th b (k + 1) (.lst ds):=by unfold Th; exact Ths.of h
 have o1:=(Th.ok hb _ t).eq hk
 have o2:t6 (.lst []) = true:=by decide +kernel
 have:pNe (.lst ds) (.lst []) = if t6 (.lst ds) && t6 (.lst []) then some (.bl (!PyData.eqv (D.py (.lst ds)) (D.py (.lst [])))) else none:=rfl
 rw [this,o1,o2,b16]; rfl
theorem b30 (bs:List Bool):pIn (.bl false) (.lst (bs.map .bl)) = some (.bl (!bs.all id)) ∧ P5 (.bl false) (.lst (bs.map .bl)) = some (.bl (bs.all id)):=by
 have h1:t6 (.bl false) = true:=rfl
 have h2:t6 (.lst (bs.map .bl)) = true:=by
  have:=Ok.lst (OkL.all (k:=0) (n:=0) (ds:=bs.map D.bl) (fun d hd=>by
   obtain ⟨b,_,rfl⟩:=List.mem_map.mp hd
   exact Ok.bl b))
  exact this.eq
 have h3:inD (.bl false) (bs.map .bl) = !bs.all id:=by
  clear h2
  induction bs with
  | nil=>rfl
  | cons b r ih=>
   simp only [List.map_cons,inD,D.pys,D.py,List.any_cons,List.all_cons] at ih ⊢
   cases b
   ·rfl
   ·simpa [PyData.eqv] using ih
 constructor
 ·simp only [pIn,L9,h1,h2,Bool.and_self,if_true,id,h3]
 ·simp only [P5,L9,h1,h2,Bool.and_self,if_true,h3,Bool.not_not]
end DL
namespace T
open PySem L2 DL
theorem b1X (d:D) (fs:Option FS) (h:thing d = true):dOr (j7 (dTr (dUn (u7 "int") (dL 0)))) (dTr (dUn (u7 "bool") (dL 0))) ⟨[.val d],fs⟩ = some (!DL.whole d,⟨[.val d],fs⟩):=by
 cases d with
 | feed=>cases h
 | scr _=>cases h
 | fn _=>cases h
 | non=>simp [c7,p7,e8,dOp,dUn,dC,dL,dV,c8,i7,dB,e7,e5,a7,a9,e6,i8,dCB,one,j8,m6,dIf,n8,dOr,j7,o8,p9,r8,pIx,j4,l8,j9,j6,i9,k6,j5,l3,o0,dTr,p8,a5N,w4,DL.whole]
 | bl _=>simp [c7,p7,e8,dOp,dUn,dC,dL,dV,c8,i7,dB,e7,e5,a7,a9,e6,i8,dCB,one,j8,m6,dIf,n8,dOr,j7,o8,p9,r8,pIx,j4,l8,j9,j6,i9,k6,j5,l3,o0,dTr,p8,a5t,w4,DL.whole]
 | int _=>simp [c7,p7,e8,dOp,dUn,dC,dL,dV,c8,i7,dB,e7,e5,a7,a9,e6,i8,dCB,one,j8,m6,dIf,n8,dOr,j7,o8,p9,r8,pIx,j4,l8,j9,j6,i9,k6,j5,l3,o0,dTr,p8,a54,w4,DL.whole]
 | str _=>simp [c7,p7,e8,dOp,dUn,dC,dL,dV,c8,i7,dB,e7,e5,a7,a9,e6,i8,dCB,one,j8,m6,dIf,n8,dOr,j7,o8,p9,r8,pIx,j4,l8,j9,j6,i9,k6,j5,l3,o0,dTr,p8,a6w,w4,DL.whole]
 | tup _=>simp [c7,p7,e8,dOp,dUn,dC,dL,dV,c8,i7,dB,e7,e5,a7,a9,e6,i8,dCB,one,j8,m6,dIf,n8,dOr,j7,o8,p9,r8,pIx,j4,l8,j9,j6,i9,k6,j5,l3,o0,dTr,p8,T7,w4,DL.whole]
 | lst _=>simp [c7,p7,e8,dOp,dUn,dC,dL,dV,c8,i7,dB,e7,e5,a7,a9,e6,i8,dCB,one,j8,m6,dIf,n8,dOr,j7,o8,p9,r8,pIx,j4,l8,j9,j6,i9,k6,j5,l3,o0,dTr,p8,a6O,w4,DL.whole]
noncomputable abbrev LIx:DFn:=a4f R4
theorem a9J {ds:List D}:decide (ds.filter (fun d=>!DL.whole d) = []) = ds.all DL.whole:=by
 rw [Bool.eq_iff_iff,decide_eq_true_iff,List.filter_eq_nil_iff,List.all_eq_true]
 simp
set_option maxHeartbeats 4000000 in
theorem b3I {b k:Nat} (d:D) (fs:Option FS) (h:Th b k d) (hb:b ≤ 1900) (hk:k ≤ 60) (hs:bk d ≤ 1000000):LIx [d] fs = some (.bl (B6 d),fs):=by
 refine n9 (s:=⟨[.val d],fs⟩) ?_
 show M7 R4 ⟨[.val d],fs⟩ = _
 have hth:=h.thing
 cases d with
 | feed=>cases hth
 | scr _=>cases hth
 | fn _=>cases hth
 | non=>simp [M7,c7,p7,e8,dOp,dUn,dC,dL,dV,c8,i7,dB,e7,e5,a7,a9,e6,i8,dCB,one,j8,m6,dIf,n8,dOr,j7,o8,p9,r8,j4,l8,j9,j6,i9,k6,j5,l3,o0,dTr,p8,ixT,ixL,A0,A1,w6,y9,w5,a5N,w4,B6]
 | bl _=>simp [M7,c7,p7,e8,dOp,dUn,dC,dL,dV,c8,i7,dB,e7,e5,a7,a9,e6,i8,dCB,one,j8,m6,dIf,n8,dOr,j7,o8,p9,r8,j4,l8,j9,j6,i9,k6,j5,l3,o0,dTr,p8,ixT,ixL,A0,A1,w6,y9,w5,a5t,w4,B6]
 | int _=>simp [M7,c7,p7,e8,dOp,dUn,dC,dL,dV,c8,i7,dB,e7,e5,a7,a9,e6,i8,dCB,one,j8,m6,dIf,n8,dOr,j7,o8,p9,r8,j4,l8,j9,j6,i9,k6,j5,l3,o0,dTr,p8,ixT,ixL,A0,A1,w6,y9,w5,a54,w4,B6]
 | str _=>simp [M7,c7,p7,e8,dOp,dUn,dC,dL,dV,c8,i7,dB,e7,e5,a7,a9,e6,i8,dCB,one,j8,m6,dIf,n8,dOr,j7,o8,p9,r8,j4,l8,j9,j6,i9,k6,j5,l3,o0,dTr,p8,ixT,ixL,A0,A1,w6,y9,w5,a6w,w4,B6]
 | lst _=>simp [M7,c7,p7,e8,dOp,dUn,dC,dL,dV,c8,i7,dB,e7,e5,a7,a9,e6,i8,dCB,one,j8,m6,dIf,n8,dOr,j7,o8,p9,r8,j4,l8,j9,j6,i9,k6,j5,l3,o0,dTr,p8,ixT,ixL,A0,A1,w6,y9,w5,a6O,w4,B6]
 | tup ds=>
  obtain ⟨ht,hl⟩:=Th.subs h hs ds rfl
  have hpt:=Th.part h
  by_cases hz:ds.length = 3
  ·have hz':(ds.length:Int) = 3:=by omega
   have cf:=a6o (fc:=dOr (j7 (dTr (dUn (u7 "int") (dL 0)))) (dTr (dUn (u7 "bool") (dL 0)))) [] (fun d=>!DL.whole d) fs ds (fun d hd=>b1X d fs (ht d hd))
   have hc:A6 [] (B1 (dV 0)) (dOr (j7 (dTr (dUn (u7 "int") (dL 0)))) (dTr (dUn (u7 "bool") (dL 0)))) (dV 0) ⟨[.val (.tup ds)],fs⟩ = some (ds.filter (fun d=>!DL.whole d),⟨[.val (.tup ds)],fs⟩):=by
    simp only [A6,B1,dV,List.getElem?_cons_zero,Option.bind_some,if_pos hl,E4,List.map_nil] at cf ⊢
    rw [cf]; rfl
   have ne:=neL (ds.filter (fun d=>!DL.whole d)) (fun d hd=>hpt d (List.mem_filter.mp hd).1) (by omega) (by omega)
   rw [a9J] at ne
   have s0:(0:Nat) ≤ sizeLine:=by decide
   unfold M7
   rw [m7 (s1:=⟨[.val (.tup ds)],fs⟩) (by simp [c7,p7,e8,dOp,dUn,dC,dL,dV,c8,i7,dB,e7,e5,a7,a9,e6,i8,dCB,one,j8,m6,dIf,n8,dOr,j7,o8,p9,r8,pIx,j4,l8,j9,j6,i9,k6,j5,l3,o0,dTr,p8,T7,w4,N6,hz'])]
   cases hw:ds.all DL.whole
   ·rw [hw] at ne
    have:B6 (.tup ds) = false:=by rw [← a22]; simp [C6,hw]
    rw [this]
    refine B3 ?_
    generalize (A6 [] (B1 (dV 0)) (dOr (j7 (dTr (dUn (u7 "int") (dL 0)))) (dTr (dUn (u7 "bool") (dL 0)))) (dV 0)) = F at *
    generalize ds.filter (fun d=>!DL.whole d) = L at *
    simp [c7,p7,e8,dOp,dUn,dC,dL,dV,c8,i7,dB,e7,e5,a7,a9,e6,i8,dCB,one,j8,m6,dIf,n8,dOr,j7,o8,p9,r8,pIx,j4,l8,j9,j6,i9,k6,j5,l3,o0,dTr,p8,hc,ne]
   ·rw [hw] at ne
    obtain ⟨d1,d2,d3,rfl⟩:=a7O hz
    simp only [List.all_cons,List.all_nil,Bool.and_true,Bool.and_eq_true] at hw
    obtain ⟨x,rfl⟩:=Q0 hw.1
    obtain ⟨y,rfl⟩:=Q0 hw.2.1
    obtain ⟨c,rfl⟩:=Q0 hw.2.2
    generalize (A6 [] (B1 (dV 0)) (dOr (j7 (dTr (dUn (u7 "int") (dL 0)))) (dTr (dUn (u7 "bool") (dL 0)))) (dV 0)) = F at *
    generalize List.filter (fun d=>!DL.whole d) [D.int x,D.int y,D.int c] = L at *
    by_cases hc1:c < 1
    ·have hc2:¬ 1 ≤ c:=by omega
     refine B3 ?_
     simp [c7,p7,e8,dOp,dUn,dC,dL,dV,c8,i7,dB,e7,e5,a7,a9,e6,i8,dCB,one,j8,m6,dIf,n8,dOr,j7,o8,p9,r8,j4,l8,j9,j6,i9,k6,j5,l3,o0,dTr,p8,ixT,ixL,A0,A1,w6,y9,w5,hc,ne,a0V,hc1,B6,hc2]
    ·have hc2:1 ≤ c:=by omega
     rw [m7 (s1:=⟨[.val (.tup [.int x,.int y,.int c])],fs⟩) (by simp [c7,p7,e8,dOp,dUn,dC,dL,dV,c8,i7,dB,e7,e5,a7,a9,e6,i8,dCB,one,j8,m6,dIf,n8,dOr,j7,o8,p9,r8,j4,l8,j9,j6,i9,k6,j5,l3,o0,dTr,p8,ixT,ixL,A0,A1,w6,y9,w5,hc,ne,a0V,hc1])]
     have g1:=a1F x y fs
     have g2:=a1F (Int.gcd x y:Int) c fs
     refine o9 ?_
     have e:decide ((Int.gcd (Int.gcd x y:Int) c:Int) = 1) = decide (Int.gcd (Int.gcd x y:Int) c = 1):=by rw [Bool.eq_iff_iff]; simp; omega
     simp [c7,p7,e8,dOp,dUn,dC,dL,dV,c8,i7,dB,e7,e5,a7,a9,e6,i8,dCB,one,j8,m6,dIf,n8,dOr,j7,o8,p9,r8,j4,l8,j9,j6,i9,k6,j5,l3,o0,dTr,p8,ixT,ixL,A0,A1,w6,y9,w5,a8m,a7A,a0V,g1,g2,R8,B6,hc2,e]
  ·have hz':¬ (ds.length:Int) = 3:=by omega
   have:B6 (.tup ds) = false:=by rw [← a22]; simp [C6,hz]
   rw [this]
   simp [M7,c7,p7,e8,dOp,dUn,dC,dL,dV,c8,i7,dB,e7,e5,a7,a9,e6,i8,dCB,one,j8,m6,dIf,n8,dOr,j7,o8,p9,r8,j4,l8,j9,j6,i9,k6,j5,l3,o0,dTr,p8,ixT,ixL,A0,A1,w6,y9,w5,T7,w4,N6,hz']
noncomputable def edG (S:List D):D → D
 | .int k=>.tup [(S[k.toNat]?).getD .non,(S[(k.toNat + 1) % S.length]?).getD .non]
 | _=>.non
theorem b31 (S:List D) (fs:Option FS):∀ d ∈ ups 0 S.length,∃ s,e6 (a7 (dOp pIx (dL 1) (dL 0)) (a7 (dOp pIx (dL 1) (dOp v6 (dOp j4 (dL 0) (dC (.int 1))) (dCB (one i9) (a7 (dL 1) a9)))) a9)) ⟨.val d :: [.val (.tup S)],fs⟩ = some (edG S d,s) ∧ s.fs = fs:=by
 intro d hd
 obtain ⟨i,hi⟩:=List.getElem?_of_mem hd
 obtain ⟨rfl,hi2⟩:=V0 hi
 rw [Int.zero_add]
 have hm:(i + 1) % S.length < S.length:=Nat.mod_lt _ (by omega)
 have a1:atI S (i:Int) = some S[i]:=atN (xs:=S) (i:=i) (x:=S[i]) (by rw [List.getElem?_eq_getElem (by omega)])
 have fm:((i:Int) + 1).fmod (S.length:Int) = (((i + 1) % S.length:Nat):Int):=by
  rw [Int.fmod_eq_emod_of_nonneg _ (by omega)]; simp
 have a2:atI S (((i:Int) + 1).fmod (S.length:Int)) = some S[(i + 1) % S.length]:=by
  rw [fm]
  exact atN (xs:=S) (i:=(i + 1) % S.length) (x:=S[(i + 1) % S.length]) (by rw [List.getElem?_eq_getElem hm])
 have n0:¬ (S.length:Int) = 0:=by omega
 refine ⟨⟨[.val (.int (i:Int)),.val (.tup S)],fs⟩,?_,rfl⟩
 have eg:edG S (.int (i:Int)) = .tup [S[i],S[(i + 1) % S.length]]:=by
  simp only [edG,Int.toNat_natCast]
  rw [List.getElem?_eq_getElem (by omega),List.getElem?_eq_getElem hm]
  rfl
 rw [eg]
 have pm:v6 (.int ((i:Int) + 1)) (.int (S.length:Int)) = some (.int (((i:Int) + 1).fmod (S.length:Int))):=by simp only [v6,ne_eq,n0,not_false_eq_true,if_true]
 generalize S[i] = x at *
 generalize S[(i + 1) % S.length] = y at *
 generalize ((i:Int) + 1).fmod (S.length:Int) = z at *
 simp [c7,p7,e8,dOp,dUn,dC,dL,dV,c8,i7,dB,e7,e5,a7,a9,e6,i8,dCB,one,j8,m6,dIf,n8,dOr,j7,o8,p9,r8,j4,l8,j9,j6,i9,k6,j5,l3,o0,dTr,p8,ixT,ixL,A0,A1,w6,y9,w5,a1,a2,pm,sz2]
theorem b5a (ds:List D):(ups 0 ds.length).map (edG ds) = (nbs true ds).map pr2:=by
 have hlen:(nbs true ds).length = ds.length:=by
  rw [a0q]
  simp only [if_true]
  omega
 apply List.ext_getElem?
 intro i
 by_cases hi:i < (nbs true ds).length
 ·obtain ⟨a,b,q1,q2,q3⟩:=b6S hi
  have u:(ups 0 ds.length)[i]? = some (.int (i:Int)):=by
   unfold ups
   rw [List.getElem?_map,List.getElem?_range (by omega)]
   simp
  rw [List.getElem?_map,u,List.getElem?_map,q3]
  simp only [Option.map_some,edG,Int.toNat_natCast,q1,q2]
  rfl
 ·have hi':(nbs true ds).length ≤ i:=by omega
  rw [List.getElem?_eq_none (by rw [List.length_map]; unfold ups; rw [List.length_map,List.length_range]; omega)]
  rw [List.getElem?_eq_none (by rw [List.length_map]; exact hi')]
theorem a9V (ds:List D) (fs:Option FS) (hl:ds.length ≤ 1000000):J5 [.tup ds] fs = some (.lst ((nbs true ds).map pr2),fs):=by
 have cm:=a1O (idx:=[0]) (g:=edG ds) [.val (.tup ds)] fs (ups 0 ds.length) (b31 ds fs)
 rw [b5a] at cm
 have rg:G2 [.int (ds.length:Int)] = some (ups 0 ds.length):=S7 (by omega)
 have hz:(ups 0 ds.length).length ≤ sizeLine:=by
  unfold ups; rw [List.length_map,List.length_range,sizeLine_eq]; omega
 have ha:a7 (dCB (one i9) (a7 (dL 0) a9)) a9 ⟨[.val (.tup ds)],fs⟩ = some ([.int (ds.length:Int)],⟨[.val (.tup ds)],fs⟩):=by
  simp [c7,p7,e8,dOp,dUn,dC,dL,dV,c8,i7,dB,e7,e5,a7,a9,e6,i8,dCB,one,j8,m6,dIf,n8,dOr,j7,o8,p9,r8,pIx,j4,l8,j9,j6,i9,k6,j5,l3,o0,dTr,p8]
 have hr:N8 (a7 (dCB (one i9) (a7 (dL 0) a9)) a9) ⟨[.val (.tup ds)],fs⟩ = some (ups 0 ds.length,⟨[.val (.tup ds)],fs⟩):=by
  unfold N8
  rw [ha,Option.bind_some]
  show (G2 [.int (ds.length:Int)]).map _ = _
  rw [rg]
  rfl
 have hc:A6 [0] (N8 (a7 (dCB (one i9) (a7 (dL 0) a9)) a9)) w8 (e6 (a7 (dOp pIx (dL 1) (dL 0)) (a7 (dOp pIx (dL 1) (dOp v6 (dOp j4 (dL 0) (dC (.int 1))) (dCB (one i9) (a7 (dL 1) a9)))) a9))) ⟨[.val (.tup ds)],fs⟩ = some ((nbs true ds).map pr2,⟨[.val (.tup ds)],fs⟩):=by
  unfold A6
  rw [hr,Option.bind_some]
  simp only [if_pos hz]
  have cp:E4 [0] [Sl.val (.tup ds)] = [.val (.tup ds)]:=rfl
  rw [cp,cm]
  rfl
 refine n9 (s:=⟨[.val (.tup ds)],fs⟩) ?_
 show a38 ⟨[.val (.tup ds)],fs⟩ = _
 unfold a38
 refine o9 ?_
 generalize (A6 [0] (N8 (a7 (dCB (one i9) (a7 (dL 0) a9)) a9)) w8 (e6 (a7 (dOp pIx (dL 1) (dL 0)) (a7 (dOp pIx (dL 1) (dOp v6 (dOp j4 (dL 0) (dC (.int 1))) (dCB (one i9) (a7 (dL 1) a9)))) a9)))) = F at *
 generalize (nbs true ds).map pr2 = W at *
 simp [j8,hc]
theorem S3 {ds:List D} {i:Int} {d:D} (h:atI ds i = some d):pIx (.lst ds) (.int i) = some d:=(ixL ds i).trans h
theorem a3v {idx:List Nat} {fi:DA} {fc:DT} {fe:DE} {s s1:DS} {ds R:List D} {fs':Option FS} (h:fi s = some (ds,s1)) (hz:ds.length ≤ sizeLine) (c:v8 (fun d=>some (.val d :: E4 idx s1.sl)) fc fe ds s1.fs = some (R,fs')):A6 idx fi fc fe s = some (R,{ s1 with fs:=fs' }):=by
 unfold A6
 rw [h,Option.bind_some,if_pos hz,c]
 rfl
noncomputable def cr (a b:Pt):Rat:=a.1 * b.2 - a.2 * b.1
theorem b6m {i j:Nat} {f:DA} {s s1 s2:DS} {a b:D} (h:f s = some ([a,b],s1)) (e:{ s1 with sl:=(s1.sl.set i (.val a)).set j (.val b) } = s2):o0 i j f s = some (.next,s2):=by
 unfold o0
 rw [h,← e]
 rfl
theorem a8W {f:DA} {s s1:DS} {ds:List D} (h:f s = some (ds,s1)) (hz:ds.length ≤ sizeLine):e6 f s = some (.tup ds,s1):=by
 unfold e6
 rw [h,Option.bind_some,if_pos hz]
theorem O8 {p q:DE} {s s1 s2:DS} {x y:D} {w:Bool} (h1:p s = some (x,s1)) (h2:q s1 = some (y,s2)) (h3:pNe x y = some (.bl w)):dB (dOp pNe p q) s = some (w,s2):=by
 unfold dB
 rw [b9 h1 h2 h3]
 rfl
theorem B0 {a b:DT} {s s1 s2:DS} (h1:a s = some (false,s1)) (h2:b s1 = some (false,s2)):dOr a b s = some (false,s2):=by
 unfold dOr
 rw [h1,Option.bind_some]
 exact h2
theorem A4 {p:List D → Option D} {a:DA} {s s1:DS} {xs:List D} {d:D} (ha:a s = some (xs,s1)) (hp:p xs = some d):dCB p a s = some (d,s1):=by
 unfold dCB
 rw [ha,Option.bind_some,hp]
 rfl
noncomputable abbrev W5 (x y l:Int):D:=.tup [.int x,.int y,.int l]
theorem a5d {k:Nat} {x y l x' y' l':Int} (fs:Option FS) (hx:Bd k x) (hy:Bd k y) (hl:Bd k l) (hx':Bd k x') (hy':Bd k y') (hl':Bd k l') (hk:k ≤ 2000):V6 [W5 x y l,W5 x' y' l'] fs = some (W5 (y * l' - l * y') (l * x' - x * l') (x * y' - y * x'),fs):=by
 have b1:=hx.bits (by omega)
 have b2:=hy.bits (by omega)
 have b3:=hl.bits (by omega)
 have c1:=hx'.bits (by omega)
 have c2:=hy'.bits (by omega)
 have c3:=hl'.bits (by omega)
 refine n9 (s:=⟨[.val (W5 x y l),.val (W5 x' y' l')],fs⟩) (o9 ?_)
 exact b0r (b9 (b9 (b9 rfl rfl rfl) (b9 rfl rfl rfl) (D8 b2 c3)) (b9 (b9 rfl rfl rfl) (b9 rfl rfl rfl) (D8 b3 c2)) rfl) (b9 (b9 (b9 rfl rfl rfl) (b9 rfl rfl rfl) (D8 b3 c1)) (b9 (b9 rfl rfl rfl) (b9 rfl rfl rfl) (D8 b1 c3)) rfl) (b9 (b9 (b9 rfl rfl rfl) (b9 rfl rfl rfl) (D8 b1 c2)) (b9 (b9 rfl rfl rfl) (b9 rfl rfl rfl) (D8 b2 c1)) rfl)
noncomputable abbrev FSg:DFn:=a2b V6
noncomputable def lnA (a b:Pt):Int:=pY a * pL b - pL a * pY b
noncomputable def lnB (a b:Pt):Int:=pL a * pX b - pX a * pL b
noncomputable def lnC (a b:Pt):Int:=pX a * pY b - pY a * pX b
noncomputable abbrev lnT (a b:Pt):D:=W5 (lnA a b) (lnB a b) (lnC a b)
theorem a0y {k:Nat} {a b:Pt} (ha:Ps k a) (hb:Ps k b):Bd (k + k + 1) (lnA a b) ∧ Bd (k + k + 1) (lnB a b) ∧ Bd (k + k + 1) (lnC a b):=
 ⟨((ha.y.mul hb.l).sub (ha.l.mul hb.y)).mono (by omega),((ha.l.mul hb.x).sub (ha.x.mul hb.l)).mono (by omega),((ha.x.mul hb.y).sub (ha.y.mul hb.x)).mono (by omega)⟩
theorem a7T {k:Nat} {a b:Pt} (fs:Option FS) (ha:Ps k a) (hb:Ps k b) (hk:k ≤ 900):FSg [pt a,pt b] fs = some (lnT a b,fs):=by
 have e:=a5d fs ha.x ha.y ha.l hb.x hb.y hb.l (by omega)
 exact n9 (s:=⟨[.val (pt a),.val (pt b)],fs⟩) (o9 (l7 rfl e))
theorem a65 {q a b:Rat} (hq:q ≠ 0) (hb:b ≠ 0):(q * a) / (q * b) = a / b:=by
 have hz:q * b ≠ 0:=fun z=>by
  rcases Rat.mul_eq_zero.mp z with z | z
  ·exact hq z
  ·exact hb z
 have e1:=Rat.div_mul_cancel (a:=q * a) hz
 have e2:=Rat.div_mul_cancel (a:=a) hb
 have:(q * a / (q * b) - a / b) * (q * b) = 0:=by grind
 rcases Rat.mul_eq_zero.mp this with z | z
 ·grind
 ·exact absurd z hz
theorem a8Q {a b c d:Pt} (hW:crs (vec a b) (vec c d) ≠ 0):lnA a b * lnB c d - lnB a b * lnA c d ≠ 0 ∧ (Rat.divInt (lnB a b * lnC c d - lnC a b * lnB c d) (lnA a b * lnB c d - lnB a b * lnA c d),Rat.divInt (lnC a b * lnA c d - lnA a b * lnC c d) (lnA a b * lnB c d - lnB a b * lnA c d)) = xpt a b c d:=by
 have P:(pL a:Rat) * pL b * (pL c * pL d) ≠ 0:=fun z=>by
  rcases Rat.mul_eq_zero.mp z with z | z
  ·rcases Rat.mul_eq_zero.mp z with z | z
   ·exact V3 a z
   ·exact V3 b z
  ·rcases Rat.mul_eq_zero.mp z with z | z
   ·exact V3 c z
   ·exact V3 d z
 have eD:((lnA a b * lnB c d - lnB a b * lnA c d:Int):Rat) = ((pL a:Rat) * pL b * (pL c * pL d)) * crs (vec a b) (vec c d):=by
  unfold lnA lnB crs vec
  simp only [Rat.intCast_sub,Rat.intCast_mul,L6,L5]
  grind
 have eX:((lnB a b * lnC c d - lnC a b * lnB c d:Int):Rat) = ((pL a:Rat) * pL b * (pL c * pL d)) * nmX a b c d:=by
  unfold lnB lnC nmX
  simp only [Rat.intCast_sub,Rat.intCast_mul,L6,L5]
  grind
 have eY:((lnC a b * lnA c d - lnA a b * lnC c d:Int):Rat) = ((pL a:Rat) * pL b * (pL c * pL d)) * nmY a b c d:=by
  unfold lnA lnC nmY
  simp only [Rat.intCast_sub,Rat.intCast_mul,L6,L5]
  grind
 refine ⟨fun z=>?_,?_⟩
 ·rw [z] at eD
  rcases Rat.mul_eq_zero.mp eD.symm with q | q
  ·exact P q
  ·exact hW q
 ·unfold xpt
  rw [Rat.divInt_eq_div,Rat.divInt_eq_div,eD,eX,eY,a65 P hW,a65 P hW]
theorem b5r {k:Nat} {a b c d:Pt} (ha:Ps k a) (hb:Ps k b) (hc:Ps k c) (hd:Ps k d) (hW:crs (vec a b) (vec c d) ≠ 0):PtS (4 * k + 3) (xpt a b c d):=by
 obtain ⟨h1,h2,h3⟩:=a0y ha hb
 obtain ⟨g1,g2,g3⟩:=a0y hc hd
 obtain ⟨hz,q⟩:=a8Q hW
 rw [← q]
 exact ⟨Sz.of_divInt hz (((h2.mul g3).sub (h3.mul g2)).mono (by omega)) (((h1.mul g2).sub (h2.mul g1)).mono (by omega)),Sz.of_divInt hz (((h3.mul g1).sub (h1.mul g3)).mono (by omega)) (((h1.mul g2).sub (h2.mul g1)).mono (by omega))⟩
noncomputable abbrev FCr:DFn:=a37 FL V6
theorem b1W {k:Nat} {a b c d:Pt} (fs:Option FS) (ha:Ps k a) (hb:Ps k b) (hc:Ps k c) (hd:Ps k d) (hk:k ≤ 400) (hW:crs (vec a b) (vec c d) ≠ 0):FCr [lnT a b,lnT c d] fs = some (pt (xpt a b c d),fs):=by
 obtain ⟨h1,h2,h3⟩:=a0y ha hb
 obtain ⟨g1,g2,g3⟩:=a0y hc hd
 have e:=a5d fs h1 h2 h3 g1 g2 g3 (by omega)
 obtain ⟨hz,q⟩:=a8Q hW
 have l:=b5h (lnB a b * lnC c d - lnC a b * lnB c d) (lnC a b * lnA c d - lnA a b * lnC c d) (lnA a b * lnB c d - lnB a b * lnA c d) fs hz ((h1.mul g2).sub (h2.mul g1)) (by omega)
 rw [q] at l
 exact n9 (s:=⟨[.val (lnT a b),.val (lnT c d)],fs⟩) (o9 (l7 (B8 (l7 rfl e) rfl) l))
theorem a6b (x:Rat):v7 (sgn x) = true:=by
 unfold sgn
 split
 ·decide
 ·split <;> decide
theorem a49 (a b u w:Pt):crs (vec a b) (vec u w) = a8 a b w - a8 a b u:=by unfold crs vec a8; grind
theorem b2D {a b u w:Pt} (h:a8 a b u * a8 a b w < 0):crs (vec a b) (vec u w) ≠ 0 ∧ xpt a b u w = xq a b u w:=by
 have hw:a8 a b w - a8 a b u ≠ 0:=fun z=>by
  have e:a8 a b w = a8 a b u:=by grind
  rw [e] at h
  have:=M2 (a8 a b u)
  grind
 refine ⟨by rw [a49]; exact hw,?_⟩
 have hw2:a8 a b u - a8 a b w ≠ 0:=by grind
 unfold xpt xq l5
 rw [a49]
 have s:a8 a b u / (a8 a b u - a8 a b w) = -a8 a b u / (a8 a b w - a8 a b u):=by
  rw [Rat.div_def,Rat.div_def]; grind
 rw [s]
 refine Prod.ext ?_ ?_
 ·show nmX a b u w / (a8 a b w - a8 a b u) = u.1 + -a8 a b u / (a8 a b w - a8 a b u) * (w.1 - u.1)
  have e:nmX a b u w = u.1 * (a8 a b w - a8 a b u) - a8 a b u * (w.1 - u.1):=by unfold nmX a8; grind
  rw [e,Rat.div_def,Rat.div_def]
  generalize a8 a b w - a8 a b u = W at *
  grind
 ·show nmY a b u w / (a8 a b w - a8 a b u) = u.2 + -a8 a b u / (a8 a b w - a8 a b u) * (w.2 - u.2)
  have e:nmY a b u w = u.2 * (a8 a b w - a8 a b u) - a8 a b u * (w.2 - u.2):=by unfold nmY a8; grind
  rw [e,Rat.div_def,Rat.div_def]
  generalize a8 a b w - a8 a b u = W at *
  grind
theorem G7 (x:Rat):sgn x = -1 ↔ x < 0:=by
 unfold sgn
 by_cases h:0 < x
 ·rw [if_pos h]; exact ⟨fun z=>absurd z (by decide),fun z=>by grind⟩
 ·rw [if_neg h]
  by_cases h2:x < 0
  ·rw [if_pos h2]; exact ⟨fun _=>h2,fun _=>rfl⟩
  ·rw [if_neg h2]; exact ⟨fun z=>absurd z (by decide),fun z=>absurd z h2⟩
theorem a46 (x:Rat):(0 < x ∧ sgn x = 1) ∨ (x < 0 ∧ sgn x = -1) ∨ (x = 0 ∧ sgn x = 0):=by
 unfold sgn
 by_cases h:0 < x
 ·rw [if_pos h]; exact .inl ⟨h,rfl⟩
 ·rw [if_neg h]
  by_cases h2:x < 0
  ·rw [if_pos h2]; exact .inr (.inl ⟨h2,rfl⟩)
  ·rw [if_neg h2]; exact .inr (.inr ⟨by grind,rfl⟩)
theorem G3 (x y:Rat):sgn x * sgn y = -1 ↔ x * y < 0:=by
 rcases a46 x with ⟨a,e⟩ | ⟨a,e⟩ | ⟨a,e⟩ <;> rcases a46 y with ⟨b,e'⟩ | ⟨b,e'⟩ | ⟨b,e'⟩ <;> rw [e,e']
 ·have:=Rat.mul_pos a b; exact ⟨fun z=>absurd z (by decide),fun z=>by grind⟩
 ·have:=Rat.mul_pos a (show 0 < -y by grind); exact ⟨fun _=>by grind,fun _=>rfl⟩
 ·rw [b]; exact ⟨fun z=>absurd z (by decide),fun z=>by grind⟩
 ·have:=Rat.mul_pos (show 0 < -x by grind) b; exact ⟨fun _=>by grind,fun _=>rfl⟩
 ·have:=Rat.mul_pos (show 0 < -x by grind) (show 0 < -y by grind); exact ⟨fun z=>absurd z (by decide),fun z=>by grind⟩
 ·rw [b]; exact ⟨fun z=>absurd z (by decide),fun z=>by grind⟩
 ·rw [a]; exact ⟨fun z=>absurd z (by decide),fun z=>by grind⟩
 ·rw [a]; exact ⟨fun z=>absurd z (by decide),fun z=>by grind⟩
 ·rw [a]; exact ⟨fun z=>absurd z (by decide),fun z=>by grind⟩
noncomputable def cl1 (a b:Pt) (q:Pt × Pt):List Pt:=(if sgn (a8 a b q.1) = -1 then [] else [q.1]) ++ (if sgn (a8 a b q.1) * sgn (a8 a b q.2) = -1 then [xq a b q.1 q.2] else [])
noncomputable def clL (a b:Pt) (qs:List (Pt × Pt)):List Pt:=qs.flatMap (cl1 a b)
theorem a7b (a b:Pt) (q:Pt × Pt):(cl1 a b q).length ≤ 2:=by
 unfold cl1
 rw [List.length_append]
 split <;> split <;> simp
theorem a60 (a b:Pt):∀ qs:List (Pt × Pt),(clL a b qs).length ≤ 2 * qs.length
 | []=>Nat.le_refl _
 | q :: r=>by
  have h:=a60 a b r
  have h1:=a7b a b q
  unfold clL at *
  rw [List.flatMap_cons,List.length_append,List.length_cons]
  omega
noncomputable abbrev FEk:DFn:=U1 M8
noncomputable abbrev FCk:DFn:=a2d FTn FCr FSg FEk
noncomputable abbrev qS (x0:Sl) (a b:Pt) (ln:D) (acc:List Pt) (x5 x6 x7:Sl) (fs:Option FS):DS:=⟨[x0,.val (pt a),.val (pt b),.val ln,.own (acc.map pt),x5,x6,x7],fs⟩
theorem b1G {a b u w:Pt} (x0 x7:Sl) (acc:List Pt) (fs:Option FS) (ha:PtS 120 a) (hb:PtS 120 b) (hu:PtS 120 u) (hw:PtS 120 w) (hl:acc.length ≤ 1000) :
  a06 FTn FCr FSg FEk (qS x0 a b (lnT a b) acc (.val (pt u)) (.val (pt w)) x7 fs) = some (.next,qS x0 a b (lnT a b) (acc ++ cl1 a b (u,w)) (.val (pt u)) (.val (pt w)) (.val (.int (sgn (a8 a b u)))) fs):=by
 have t1:=a0D a b u fs ha.ps hb.ps hu.ps (by decide)
 have t2:=a0D a b w fs ha.ps hb.ps hw.ps (by decide)
 have bits1:=a6b (a8 a b u)
 have bits2:=a6b (a8 a b w)
 have ls:∀ l:List Pt,l.length ≤ 1001 → (l.map pt).length < sizeLine:=fun l h=>by rw [List.length_map]; exact Nat.lt_of_le_of_lt h (by decide)
 unfold a06
 rw [m7 (s1:=qS x0 a b (lnT a b) acc (.val (pt u)) (.val (pt w)) (.val (.int (sgn (a8 a b u)))) fs) (u6 (l7 rfl t1) rfl)]
 have c1:dB (dOp pNe (dL 7) (dUn j9 (dC (.int 1)))) (qS x0 a b (lnT a b) acc (.val (pt u)) (.val (pt w)) (.val (.int (sgn (a8 a b u)))) fs) = some (!decide (sgn (a8 a b u) = -1),qS x0 a b (lnT a b) acc (.val (pt u)) (.val (pt w)) (.val (.int (sgn (a8 a b u)))) fs):=u4 (b9 rfl rfl (N6 _ (-1)))
 have st:∀ acc1:List Pt,acc1.length ≤ 1001 → i7 (dB (dOp pEq (dOp o7 (dL 7) (e5 FTn (a7 (dV 1) (a7 (dV 2) (a7 (dV 6) a9))))) (dUn j9 (dC (.int 1))))) (C5 4 (e5 FCr (a7 (dV 3) (a7 (e5 FSg (a7 (dV 5) (a7 (dV 6) a9))) a9)))) i8 (qS x0 a b (lnT a b) acc1 (.val (pt u)) (.val (pt w)) (.val (.int (sgn (a8 a b u)))) fs)
   = some (.next,qS x0 a b (lnT a b) (acc1 ++ (if sgn (a8 a b u) * sgn (a8 a b w) = -1 then [xq a b u w] else [])) (.val (pt u)) (.val (pt w)) (.val (.int (sgn (a8 a b u)))) fs):=fun acc1 h1=>by
  have c2:dB (dOp pEq (dOp o7 (dL 7) (e5 FTn (a7 (dV 1) (a7 (dV 2) (a7 (dV 6) a9))))) (dUn j9 (dC (.int 1)))) (qS x0 a b (lnT a b) acc1 (.val (pt u)) (.val (pt w)) (.val (.int (sgn (a8 a b u)))) fs) = some (decide (sgn (a8 a b u) * sgn (a8 a b w) = -1),qS x0 a b (lnT a b) acc1 (.val (pt u)) (.val (pt w)) (.val (.int (sgn (a8 a b u)))) fs):=
   u4 (b9 (b9 rfl (l7 rfl t2) (D8 bits1 bits2)) rfl (R8 _ (-1)))
  by_cases h:sgn (a8 a b u) * sgn (a8 a b w) = -1
  ·rw [decide_eq_true h] at c2
   rw [C4 c2,if_pos h]
   obtain ⟨q1,q2⟩:=b2D ((G3 _ _).mp h)
   have e1:=a7T fs hu.ps hw.ps (by decide)
   have e2:=b1W fs ha.ps hb.ps hu.ps hw.ps (by decide) q1
   rw [q2] at e2
   have:=O7 (i:=4) (s:=qS x0 a b (lnT a b) acc1 (.val (pt u)) (.val (pt w)) (.val (.int (sgn (a8 a b u)))) fs) (s1:=qS x0 a b (lnT a b) acc1 (.val (pt u)) (.val (pt w)) (.val (.int (sgn (a8 a b u)))) fs) (ds:=acc1.map pt) (ds0:=acc1.map pt) (d:=pt (xq a b u w)) (f:=e5 FCr (a7 (dV 3) (a7 (e5 FSg (a7 (dV 5) (a7 (dV 6) a9))) a9))) rfl (l7 (o6 rfl (o6 (l7 rfl e1) rfl)) e2) rfl (ls acc1 h1)
   rw [this]
   show _ = some (Fl.next,qS x0 a b (lnT a b) (acc1 ++ [xq a b u w]) (.val (pt u)) (.val (pt w)) (.val (.int (sgn (a8 a b u)))) fs)
   unfold qS
   rw [List.map_append]
   rfl
  ·rw [decide_eq_false h] at c2
   rw [V5 c2,if_neg h,List.append_nil]
   rfl
 unfold cl1
 by_cases h:sgn (a8 a b u) = -1
 ·rw [decide_eq_true h] at c1
  rw [m7 (u5 c1),st acc (by omega)]
  show _ = some (Fl.next,qS x0 a b (lnT a b) (acc ++ ((if sgn (a8 a b u) = -1 then [] else [u]) ++ _)) _ _ _ fs)
  rw [if_pos h,List.nil_append]
 ·rw [decide_eq_false h] at c1
  have ap:i7 (dB (dOp pNe (dL 7) (dUn j9 (dC (.int 1))))) (C5 4 (dV 5)) i8 (qS x0 a b (lnT a b) acc (.val (pt u)) (.val (pt w)) (.val (.int (sgn (a8 a b u)))) fs) = some (.next,qS x0 a b (lnT a b) (acc ++ [u]) (.val (pt u)) (.val (pt w)) (.val (.int (sgn (a8 a b u)))) fs):=by
   rw [C4 c1]
   have:=O7 (i:=4) (s:=qS x0 a b (lnT a b) acc (.val (pt u)) (.val (pt w)) (.val (.int (sgn (a8 a b u)))) fs) (s1:=qS x0 a b (lnT a b) acc (.val (pt u)) (.val (pt w)) (.val (.int (sgn (a8 a b u)))) fs) (ds:=acc.map pt) (ds0:=acc.map pt) (d:=pt u) (f:=dV 5) rfl rfl rfl (ls acc (by omega))
   rw [this]
   unfold qS
   rw [List.map_append]
   rfl
  rw [m7 ap,st (acc ++ [u]) (by rw [List.length_append,List.length_singleton]; omega)]
  show _ = some (Fl.next,qS x0 a b (lnT a b) (acc ++ ((if sgn (a8 a b u) = -1 then [] else [u]) ++ _)) _ _ _ fs)
  rw [if_neg h,List.append_assoc]
theorem a8b {a b:Pt} (x0:Sl) (fs:Option FS) (ha:PtS 120 a) (hb:PtS 120 b):∀ (qs:List (Pt × Pt)) (acc:List Pt) (x5 x6 x7:Sl),(∀ q ∈ qs,PtS 120 q.1 ∧ PtS 120 q.2) → acc.length + 2 * qs.length ≤ 1000 → ∃ y5 y6 y7,u9 (k6 2 (j5 (c8 5) (j5 (c8 6) l3))) (a06 FTn FCr FSg FEk) (qs.map fun q=>.tup [pt q.1,pt q.2]) (qS x0 a b (lnT a b) acc x5 x6 x7 fs) = some (.next,qS x0 a b (lnT a b) (acc ++ clL a b qs) y5 y6 y7 fs)
 | [],acc,x5,x6,x7,_,_=>⟨x5,x6,x7,by unfold clL; rw [List.flatMap_nil,List.append_nil]; rfl⟩
 | q :: r,acc,x5,x6,x7,h,hl=>by
  obtain ⟨h1,h2⟩:=h q (List.mem_cons_self ..)
  rw [List.length_cons] at hl
  have l1:=a7b a b q
  obtain ⟨y5,y6,y7,e⟩:=a8b x0 fs ha hb r (acc ++ cl1 a b q) (.val (pt q.1)) (.val (pt q.2)) (.val (.int (sgn (a8 a b q.1)))) (fun z hz=>h z (List.mem_cons_of_mem _ hz)) (by rw [List.length_append]; omega)
  refine ⟨y5,y6,y7,?_⟩
  rw [List.map_cons,J9 (s1:=qS x0 a b (lnT a b) acc (.val (pt q.1)) (.val (pt q.2)) x7 fs) rfl (b1G x0 x7 acc fs ha hb h1 h2 (by omega)),e]
  unfold clL
  rw [List.flatMap_cons,List.append_assoc]
theorem a0v {fd:List Pt} (h0:0 < fd.length) (q:Pt × Pt):q ∈ nbs true fd ↔ ∃ k,q = (tk fd k,tk fd (k + 1)):=by
 have l2:(fd.drop 1 ++ fd.take 1).length = fd.length:=by rw [List.length_append,List.length_drop,List.length_take]; omega
 have g2:∀ i,i < fd.length → (fd.drop 1 ++ fd.take 1)[i]? = some (tk fd (i + 1)):=fun i hi=>by
  by_cases c:i + 1 < fd.length
  ·rw [List.getElem?_append_left (by rw [List.length_drop]; omega),List.getElem?_drop,Nat.add_comm 1 i,K1 c]
  ·have ei:i + 1 = fd.length:=by omega
   rw [List.getElem?_append_right (by rw [List.length_drop]; omega),List.length_drop,show i - (fd.length - 1) = 0 by omega,List.getElem?_take_of_lt (by decide),K1 h0]
   rw [← C9 (i + 1),ei,Nat.mod_self]
 unfold nbs
 simp only [if_true]
 constructor
 ·intro h
  obtain ⟨i,hi⟩:=List.getElem?_of_mem h
  have il:=(List.getElem?_eq_some_iff.mp hi).1
  rw [List.length_zip,l2,Nat.min_self] at il
  rw [List.getElem?_zip_eq_some] at hi
  refine ⟨i,Prod.ext ?_ ?_⟩
  ·have:=hi.1; rw [K1 il] at this; exact (Option.some.inj this).symm
  ·have:=hi.2; rw [g2 i il] at this; exact (Option.some.inj this).symm
 ·rintro ⟨k,rfl⟩
  have kl:=Nat.mod_lt k h0
  refine List.mem_of_getElem? (i:=k % fd.length) (List.getElem?_zip_eq_some.mpr ⟨a3Z h0,?_⟩)
  rw [g2 _ kl]
  show some (tk fd (k % fd.length + 1)) = some (tk fd (k + 1))
  rw [← C9 (k % fd.length + 1),Nat.mod_add_mod,C9]
noncomputable def CvL (K:List Pt):Prop:=∀ q ∈ nbs true K,∀ k ∈ K,0 ≤ a8 q.1 q.2 k
theorem Q4 {a b o w:Pt} (h:a8 a b o * a8 a b w < 0):a8 a b (xq a b o w) = 0:=by
 have n:a8 a b o - a8 a b w ≠ 0:=fun z=>by
  have e:a8 a b w = a8 a b o:=by grind
  rw [e] at h
  have:=M2 (a8 a b o)
  grind
 unfold xq
 rw [a08]
 generalize a8 a b o = x at *
 generalize a8 a b w = y at *
 have ic:(x - y) * (x - y)⁻¹ = 1:=Rat.mul_inv_cancel _ n
 rw [Rat.div_def]
 grind
section
variable {K:List Pt} {a b:Pt}
theorem a20 {k:Pt} (hk:k ∈ clL a b (nbs true K)):(k ∈ K ∧ 0 ≤ a8 a b k) ∨ ∃ q ∈ nbs true K,a8 a b q.1 * a8 a b q.2 < 0 ∧ k = xq a b q.1 q.2:=by
 unfold clL at hk
 obtain ⟨q,hq,hk⟩:=List.mem_flatMap.mp hk
 unfold cl1 at hk
 rcases List.mem_append.mp hk with w | w
 ·by_cases c:sgn (a8 a b q.1) = -1
  ·rw [if_pos c] at w; cases w
  ·rw [if_neg c] at w
   rw [List.mem_singleton.mp w]
   exact .inl ⟨(E6 hq).1,Rat.not_lt.mp fun z=>c ((G7 _).mpr z)⟩
 ·by_cases c:sgn (a8 a b q.1) * sgn (a8 a b q.2) = -1
  ·rw [if_pos c] at w
   exact .inr ⟨q,hq,(G3 _ _).mp c,List.mem_singleton.mp w⟩
  ·rw [if_neg c] at w; cases w
theorem a2e {u v:Pt} (h:∀ k ∈ K,0 ≤ a8 u v k):∀ k ∈ clL a b (nbs true K),0 ≤ a8 u v k:=fun k hk=>by
 rcases a20 hk with ⟨m,_⟩ | ⟨q,hq,c,rfl⟩
 ·exact h k m
 ·obtain ⟨s,s0,s1,e⟩:=Q9 c
  rw [e,a08]
  have t1:=Rat.mul_nonneg (show 0 ≤ 1 - s by grind) (h _ (E6 hq).1)
  have t2:=Rat.mul_nonneg (Rat.le_of_lt s0) (h _ (E6 hq).2)
  grind
theorem a74:∀ k ∈ clL a b (nbs true K),0 ≤ a8 a b k:=fun k hk=>by
 rcases a20 hk with ⟨_,m⟩ | ⟨q,_,c,rfl⟩
 ·exact m
 ·rw [Q4 c]; exact Rat.le_refl
theorem a2D {k:Pt} (hk:k ∈ K):∃ w,(k,w) ∈ nbs true K:=by
 obtain ⟨i,hi⟩:=List.getElem?_of_mem hk
 have il:=(List.getElem?_eq_some_iff.mp hi).1
 have:i < (nbs true K).length:=by rw [a0q,if_pos rfl]; omega
 have e:=List.getElem?_eq_getElem this
 have z:=e
 unfold nbs at z
 have z1:=(List.getElem?_zip_eq_some.mp z).1
 rw [hi] at z1
 refine ⟨((nbs true K)[i]).2,?_⟩
 have:(nbs true K)[i] = (k,((nbs true K)[i]).2):=Prod.ext (Option.some.inj z1).symm rfl
 rw [← this]
 exact List.getElem_mem _
theorem a02 {k:Pt} (hk:k ∈ K) (h:0 ≤ a8 a b k):k ∈ clL a b (nbs true K):=by
 obtain ⟨w,hw⟩:=a2D hk
 refine List.mem_flatMap.mpr ⟨_,hw,?_⟩
 unfold cl1
 refine List.mem_append_left _ ?_
 show k ∈ (if sgn (a8 a b k) = -1 then [] else [k])
 rw [if_neg fun z=>absurd ((G7 _).mp z) (Rat.not_lt.mpr h)]
 simp
theorem a2H {q:Pt × Pt} (hq:q ∈ nbs true K) (c:a8 a b q.1 * a8 a b q.2 < 0):xq a b q.1 q.2 ∈ clL a b (nbs true K):=by
 refine List.mem_flatMap.mpr ⟨q,hq,?_⟩
 unfold cl1
 refine List.mem_append_right _ ?_
 rw [if_pos ((G3 _ _).mpr c)]
 simp
end
noncomputable def G4 (G:Pt → Pt → Prop):Option Pt → List Pt → Prop
 | _,[]=>True
 | pv,x :: r=>(∀ z,pv = some z → G z x) ∧ G4 G (some x) r
noncomputable def lsO:Option Pt → List Pt → Option Pt
 | pv,[]=>pv
 | _,x :: r=>lsO (some x) r
theorem a4E (G:Pt → Pt → Prop):∀ (l m:List Pt) (pv:Option Pt),G4 G pv l → G4 G (lsO pv l) m → G4 G pv (l ++ m)
 | [],m,pv,_,h=>h
 | x :: r,m,pv,h1,h2=>⟨h1.1,a4E G r m (some x) h1.2 h2⟩
theorem a2n:∀ (l m:List Pt) (pv:Option Pt),lsO pv (l ++ m) = lsO (lsO pv l) m
 | [],m,pv=>rfl
 | x :: r,m,pv=>a2n r m (some x)
noncomputable def Pth:Pt → List (Pt × Pt) → Pt → Prop
 | o,[],e=>o = e
 | o,q :: r,e=>q.1 = o ∧ Pth q.2 r e
theorem a1d:∀ (r:List Pt) (o e:Pt),Pth o ((o :: r).zip (r ++ [e])) e
 | [],o,e=>⟨rfl,rfl⟩
 | x :: r,o,e=>⟨rfl,a1d r x e⟩
theorem Z4 (x:Pt) (r:List Pt):nbs true (x :: r) = (x :: r).zip (r ++ [x]):=rfl
theorem a3p (G:Pt → Pt → Prop):∀ (r:List Pt) (x e:Pt),G4 G (some x) r → (∀ z,lsO (some x) r = some z → G z e) → ∀ q ∈ (x :: r).zip (r ++ [e]),G q.1 q.2
 | [],x,e,_,h,q,hq=>by
  have:q = (x,e):=by simpa using hq
  rw [this]
  exact h x rfl
 | y :: r,x,e,h1,h2,q,hq=>by
  rcases List.mem_cons.mp hq with rfl | hq
  ·exact h1.1 x rfl
  ·exact a3p G r y e h1.2 h2 q hq
section
variable {K:List Pt} {a b:Pt} (ab:a ≠ b) (C:CvL K)
noncomputable def Gd (K:List Pt) (a b r s:Pt):Prop:=∀ k ∈ clL a b (nbs true K),0 ≤ a8 r s k
noncomputable def Lv (K:List Pt) (a b z:Pt):Prop:=∀ s ∈ clL a b (nbs true K),a8 a b s = 0 → Gd K a b z s
noncomputable def a1J (K:List Pt) (a b:Pt) (pv:Option Pt) (o:Pt):Prop:=∀ z,pv = some z → (0 ≤ a8 a b o → Gd K a b z o) ∧ (a8 a b o < 0 → Lv K a b z)
include ab C
theorem a9b {q:Pt × Pt} (hq:q ∈ nbs true K) {x:Pt} {s:Rat} (ex:x = l5 q.1 q.2 s) (hx:a8 a b x = 0) (h:a8 a b q.2 < a8 a b q.1):Lv K a b x:=by
 intro t ht h0 k hk
 have f:=a2e (fun k hk=>C q hq k hk) t ht
 have side:=a74 k hk
 have D:((b.1 - a.1,b.2 - a.2):Pt) ≠ (0,0):=fun z=>ab (by
  have z1:b.1 - a.1 = 0:=congrArg Prod.fst z
  have z2:b.2 - a.2 = 0:=congrArg Prod.snd z
  exact Prod.ext (by grind) (by grind))
 obtain ⟨m,hm⟩:=T6 (v:=(t.1 - x.1,t.2 - x.2)) D (by unfold gv a8 at *; grind)
 have m1:t.1 - x.1 = m * (b.1 - a.1):=congrArg Prod.fst hm
 have m2:t.2 - x.2 = m * (b.2 - a.2):=congrArg Prod.snd hm
 have e1:a8 x t k = m * a8 a b k:=by
  have:a8 x t k = (t.1 - x.1) * (k.2 - x.2) - (t.2 - x.2) * (k.1 - x.1):=rfl
  rw [this,m1,m2]
  unfold a8 at hx ⊢
  have:m * ((b.1 - a.1) * (x.2 - a.2) - (b.2 - a.2) * (x.1 - a.1)) = 0:=by rw [hx,Rat.mul_zero]
  grind
 have e2:a8 q.1 q.2 t = m * (a8 a b q.1 - a8 a b q.2):=by
  have z:a8 q.1 q.2 t = (q.2.1 - q.1.1) * (t.2 - x.2) - (q.2.2 - q.1.2) * (t.1 - x.1):=by
   rw [ex]; unfold a8 l5; grind
  rw [z,m1,m2]
  unfold a8
  grind
 rw [e2] at f
 have mp:0 ≤ m:=Rat.not_lt.mp fun z=>by
  have:=Rat.mul_pos (show 0 < -m by grind) (show 0 < a8 a b q.1 - a8 a b q.2 by grind)
  grind
 rw [e1]
 exact Rat.mul_nonneg mp side
theorem b3m {q:Pt × Pt} (hq:q ∈ nbs true K) {pv:Option Pt} (I:a1J K a b pv q.1):G4 (Gd K a b) pv (cl1 a b q) ∧ a1J K a b (lsO pv (cl1 a b q)) q.2:=by
 have F:∀ k ∈ clL a b (nbs true K),0 ≤ a8 q.1 q.2 k:=a2e (fun k hk=>C q hq k hk)
 obtain ⟨m1,m2⟩:=E6 hq
 unfold cl1
 by_cases ho:a8 a b q.1 < 0
 ·rw [if_pos ((G7 _).mpr ho),List.nil_append]
  by_cases hw:0 < a8 a b q.2
  ·have c:a8 a b q.1 * a8 a b q.2 < 0:=by
    have:=Rat.mul_pos (show 0 < -a8 a b q.1 by grind) hw
    grind
   rw [if_pos ((G3 _ _).mpr c)]
   obtain ⟨s,s0,s1,e⟩:=Q9 c
   refine ⟨⟨fun z hz=>((I z hz).2 ho) _ (a2H hq c) (Q4 c),trivial⟩,fun z hz=>?_⟩
   cases hz
   refine ⟨fun _ k hk=>?_,fun n=>absurd hw (by grind)⟩
   rw [e]
   have:a8 (l5 q.1 q.2 s) q.2 k = (1 - s) * a8 q.1 q.2 k:=by unfold a8 l5; grind
   rw [this]
   exact Rat.mul_nonneg (by grind) (F k hk)
  ·have nc:¬ sgn (a8 a b q.1) * sgn (a8 a b q.2) = -1:=fun z=>by
    have:=(G3 _ _).mp z
    have:=Rat.mul_nonneg (show 0 ≤ -a8 a b q.1 by grind) (show 0 ≤ -a8 a b q.2 by grind)
    grind
   rw [if_neg nc]
   refine ⟨trivial,fun z hz=>⟨fun n=>?_,fun n=>(I z hz).2 ho⟩⟩
   have z0:a8 a b q.2 = 0:=by grind
   exact (I z hz).2 ho _ (a02 m2 n) z0
 ·rw [if_neg fun z=>ho ((G7 _).mp z)]
  have ho:0 ≤ a8 a b q.1:=by grind
  by_cases hw:0 ≤ a8 a b q.2
  ·have nc:¬ sgn (a8 a b q.1) * sgn (a8 a b q.2) = -1:=fun z=>by
    have:=(G3 _ _).mp z
    have:=Rat.mul_nonneg ho hw
    grind
   rw [if_neg nc,List.append_nil]
   refine ⟨⟨fun z hz=>(I z hz).1 ho,trivial⟩,fun z hz=>?_⟩
   cases hz
   exact ⟨fun _=>F,fun n=>absurd hw (by grind)⟩
  ·have hw:a8 a b q.2 < 0:=by grind
   by_cases oz:a8 a b q.1 = 0
   ·have nc:¬ sgn (a8 a b q.1) * sgn (a8 a b q.2) = -1:=fun z=>by
     have:=(G3 _ _).mp z
     rw [oz,Rat.zero_mul] at this
     exact absurd this (by decide +kernel)
    rw [if_neg nc,List.append_nil]
    refine ⟨⟨fun z hz=>(I z hz).1 ho,trivial⟩,fun z hz=>?_⟩
    cases hz
    exact ⟨fun n=>absurd hw (by grind),fun _=>a9b ab C hq (s:=0) (by rw [T4]) oz (by grind)⟩
   ·have c:a8 a b q.1 * a8 a b q.2 < 0:=by
     have:=Rat.mul_pos (show 0 < a8 a b q.1 by grind) (show 0 < -a8 a b q.2 by grind)
     grind
    rw [if_pos ((G3 _ _).mpr c)]
    obtain ⟨s,s0,s1,e⟩:=Q9 c
    refine ⟨⟨fun z hz=>(I z hz).1 ho,⟨fun z hz=>?_,trivial⟩⟩,fun z hz=>?_⟩
    ·cases hz
     intro k hk
     rw [e]
     have:a8 q.1 (l5 q.1 q.2 s) k = s * a8 q.1 q.2 k:=by unfold a8 l5; grind
     rw [this]
     exact Rat.mul_nonneg (Rat.le_of_lt s0) (F k hk)
    ·cases hz
     exact ⟨fun n=>absurd hw (by grind),fun _=>a9b ab C hq e (Q4 c) (by grind)⟩
theorem a2y:∀ (es:List (Pt × Pt)) (o e:Pt) (pv:Option Pt),(∀ q ∈ es,q ∈ nbs true K) → Pth o es e → a1J K a b pv o → G4 (Gd K a b) pv (es.flatMap (cl1 a b)) ∧ a1J K a b (lsO pv (es.flatMap (cl1 a b))) e
 | [],o,e,pv,_,p,I=>by
  have p:o = e:=p
  subst p
  exact ⟨trivial,I⟩
 | q :: r,o,e,pv,hq,p,I=>by
  obtain ⟨p1,p2⟩:=p
  subst p1
  obtain ⟨c1,I1⟩:=b3m ab C (hq q (List.mem_cons_self ..)) I
  obtain ⟨c2,I2⟩:=a2y r q.2 e _ (fun z hz=>hq z (List.mem_cons_of_mem _ hz)) p2 I1
  rw [List.flatMap_cons]
  exact ⟨a4E _ _ _ _ c1 c2,by rw [a2n]; exact I2⟩
theorem b02:CvL (clL a b (nbs true K)):=by
 cases K with
 | nil=>intro q hq; cases hq
 | cons o r=>
  have P:Pth o (nbs true (o :: r)) o:=by rw [Z4]; exact a1d r o o
  obtain ⟨c1,I1⟩:=a2y ab C _ o o none (fun q hq=>hq) P (fun z hz=>by cases hz)
  obtain ⟨c2,_⟩:=a2y ab C _ o o _ (fun q hq=>hq) P I1
  have c1:G4 (Gd (o :: r) a b) none (clL a b (nbs true (o :: r))):=c1
  have c2:G4 (Gd (o :: r) a b) (lsO none (clL a b (nbs true (o :: r)))) (clL a b (nbs true (o :: r))):=c2
  intro q hq
  show Gd (o :: r) a b q.1 q.2
  cases e:clL a b (nbs true (o :: r)) with
  | nil=>rw [e] at hq; cases hq
  | cons x t=>
   rw [e] at hq c1 c2
   rw [Z4] at hq
   exact a3p _ t x x c1.2 (fun z hz=>c2.1 z hz) q hq
end
theorem a4A {P:Pt → Prop}:∀ (es:List (Pt × Pt)) (o e:Pt),Pth o es e → (∀ q ∈ es,P q.1 → P q.2) → P o → (∀ q ∈ es,P q.1) ∧ P e
 | [],o,e,p,_,h=>by
  have p:o = e:=p
  subst p
  exact ⟨fun q hq=>(by cases hq),h⟩
 | q :: r,o,e,p,st,h=>by
  obtain ⟨p1,p2⟩:=p
  subst p1
  obtain ⟨a,b⟩:=a4A r q.2 e p2 (fun z hz=>st z (List.mem_cons_of_mem _ hz)) (st q (List.mem_cons_self ..) h)
  refine ⟨fun z hz=>?_,b⟩
  rcases List.mem_cons.mp hz with rfl | hz
  ·exact h
  ·exact a z hz
theorem a5T {P:Pt → Prop}:∀ (es:List (Pt × Pt)) (o e:Pt),Pth o es e → (∀ q ∈ es,P q.1 → P q.2) → (∃ q ∈ es,P q.1) → P e
 | [],o,e,_,_,⟨q,hq,_⟩=>by cases hq
 | q :: r,o,e,p,st,⟨z,hz,h⟩=>by
  obtain ⟨p1,p2⟩:=p
  have st':∀ q ∈ r,P q.1 → P q.2:=fun z hz=>st z (List.mem_cons_of_mem _ hz)
  rcases List.mem_cons.mp hz with rfl | hz
  ·exact (a4A r _ e p2 st' (st _ (List.mem_cons_self ..) h)).2
  ·exact a5T r q.2 e p2 st' ⟨z,hz,h⟩
theorem a8G {P:Pt → Prop} {K:List Pt} {x y:Pt} (hx:x ∈ K) (px:P x) (hy:y ∈ K) (py:¬ P y):∃ q ∈ nbs true K,P q.1 ∧ ¬ P q.2:=by
 cases K with
 | nil=>cases hx
 | cons o r=>
  refine Classical.byContradiction fun n=>?_
  have st:∀ q ∈ nbs true (o :: r),P q.1 → P q.2:=fun q hq h=>Classical.byContradiction fun z=>n ⟨q,hq,h,z⟩
  have P':Pth o (nbs true (o :: r)) o:=by rw [Z4]; exact a1d r o o
  obtain ⟨w,hw⟩:=a2D hx
  obtain ⟨v,hv⟩:=a2D hy
  have po:=a5T _ o o P' st ⟨_,hw,px⟩
  exact py ((a4A _ o o P' st po).1 _ hv)
section
variable {K:List Pt} {a b p:Pt}
theorem a0a {A l α β:Rat} {x:Pt} {e:Pt → Rat} (I:Ip K p) (hp:0 ≤ a8 a b p) (hl:0 < l) (hx:α * (x.1 - p.1) + β * (x.2 - p.2) < 0)
  (he:∀ z,e z = A * a8 a b z - l * (α * (z.1 - x.1) + β * (z.2 - x.2))) (pos:∀ k ∈ K,0 ≤ e k) (inn:∀ k ∈ K,0 ≤ a8 a b k → α * (k.1 - p.1) + β * (k.2 - p.2) < 0):False:=by
 by_cases hA:0 ≤ A
 ·obtain ⟨k,hk,q⟩:=I α β
  by_cases h:0 ≤ a8 a b k
  ·have:=inn k hk h; grind
  ·have z:=pos k hk
   rw [he] at z
   have t:=Rat.mul_nonneg hA (show 0 ≤ -a8 a b k by grind)
   have:α * (k.1 - x.1) + β * (k.2 - x.2) ≤ 0:=Rat.not_lt.mp fun w=>by
    have:=Rat.mul_pos hl w
    grind
   grind
 ·obtain ⟨k,hk,q⟩:=I (A * (b.2 - a.2) + l * α) (-A * (b.1 - a.1) + l * β)
  have z:=pos k hk
  have ep:e p < 0:=by
   rw [he]
   have t:=Rat.mul_nonneg (show 0 ≤ -A by grind) hp
   have u:=Rat.mul_pos hl (show 0 < -(α * (x.1 - p.1) + β * (x.2 - p.2)) by grind)
   grind
  have d:(A * (b.2 - a.2) + l * α) * (k.1 - p.1) + (-A * (b.1 - a.1) + l * β) * (k.2 - p.2) = -(e k - e p):=by
   rw [he,he]; unfold a8; grind
  rw [d] at q
  grind
theorem b2l (ab:a ≠ b) (C:CvL K) (I:Ip K p) (hp:0 ≤ a8 a b p):Ip (clL a b (nbs true K)) p:=by
 intro α β
 refine Classical.byContradiction fun n=>?_
 have neg:∀ k ∈ clL a b (nbs true K),α * (k.1 - p.1) + β * (k.2 - p.2) < 0:=fun k hk=>Rat.not_le.mp fun z=>n ⟨k,hk,z⟩
 have inn:∀ k ∈ K,0 ≤ a8 a b k → α * (k.1 - p.1) + β * (k.2 - p.2) < 0:=fun k hk h=>neg k (a02 hk h)
 obtain ⟨u,hu,cu⟩:∃ u ∈ K,0 ≤ a8 a b u:=by
  obtain ⟨k,hk,q⟩:=I (-(b.2 - a.2)) (b.1 - a.1)
  refine ⟨k,hk,?_⟩
  have:a8 a b k = a8 a b p + (-(b.2 - a.2) * (k.1 - p.1) + (b.1 - a.1) * (k.2 - p.2)):=by unfold a8; grind
  grind
 obtain ⟨v,hv,cv⟩:∃ v ∈ K,¬ 0 ≤ a8 a b v:=by
  obtain ⟨k,hk,q⟩:=I α β
  exact ⟨k,hk,fun z=>by have:=inn k hk z; grind⟩
 have D:((b.1 - a.1,b.2 - a.2):Pt) ≠ (0,0):=fun z=>ab (by
  have z1:b.1 - a.1 = 0:=congrArg Prod.fst z
  have z2:b.2 - a.2 = 0:=congrArg Prod.snd z
  exact Prod.ext (by grind) (by grind))
 obtain ⟨q,hq,q1,q2⟩:=a8G (P:=fun z=>0 ≤ a8 a b z) hu cu hv cv
 have q2:a8 a b q.2 < 0:=by grind
 obtain ⟨x,s,ex,hx,mx⟩:∃ x s,x = l5 q.1 q.2 s ∧ a8 a b x = 0 ∧ x ∈ clL a b (nbs true K):=by
  by_cases z:a8 a b q.1 = 0
  ·exact ⟨q.1,0,by rw [T4],z,a02 (E6 hq).1 q1⟩
  ·have c:a8 a b q.1 * a8 a b q.2 < 0:=by
    have:=Rat.mul_pos (show 0 < a8 a b q.1 by grind) (show 0 < -a8 a b q.2 by grind)
    grind
   obtain ⟨s,_,_,e⟩:=Q9 c
   exact ⟨_,s,e,Q4 c,a2H hq c⟩
 obtain ⟨r,hr,r1,r2⟩:=a8G (P:=fun z=>¬ 0 ≤ a8 a b z) hv cv hu (fun z=>z cu)
 have r1:a8 a b r.1 < 0:=by grind
 have r2:0 ≤ a8 a b r.2:=Classical.byContradiction r2
 obtain ⟨y,t,ey,hy,my⟩:∃ y s,y = l5 r.1 r.2 s ∧ a8 a b y = 0 ∧ y ∈ clL a b (nbs true K):=by
  by_cases z:a8 a b r.2 = 0
  ·exact ⟨r.2,1,by rw [a0B],z,a02 (E6 hr).2 r2⟩
  ·have c:a8 a b r.1 * a8 a b r.2 < 0:=by
    have:=Rat.mul_pos (show 0 < -a8 a b r.1 by grind) (show 0 < a8 a b r.2 by grind)
    grind
   obtain ⟨s,_,_,e⟩:=Q9 c
   exact ⟨_,s,e,Q4 c,a2H hr c⟩
 have fx:=neg x mx
 have fy:=neg y my
 have ident:∀ (q:Pt × Pt) (x:Pt) (s:Rat),x = l5 q.1 q.2 s → a8 a b x = 0 → ∀ z,-(α * (b.1 - a.1) + β * (b.2 - a.2)) * a8 q.1 q.2 z = (-(α * (q.2.1 - q.1.1) + β * (q.2.2 - q.1.2))) * a8 a b z + (a8 a b q.2 - a8 a b q.1) * (α * (z.1 - x.1) + β * (z.2 - x.2)):=fun q x s e h z=>by
  have e1:a8 q.1 q.2 z = (q.2.1 - q.1.1) * (z.2 - x.2) - (q.2.2 - q.1.2) * (z.1 - x.1):=by rw [e]; unfold a8 l5; grind
  have e2:a8 a b z = (b.1 - a.1) * (z.2 - x.2) - (b.2 - a.2) * (z.1 - x.1):=by
   have:a8 a b z = a8 a b x + ((b.1 - a.1) * (z.2 - x.2) - (b.2 - a.2) * (z.1 - x.1)):=by unfold a8; grind
   rw [this,h,Rat.zero_add]
  have e3:a8 a b q.2 - a8 a b q.1 = (b.1 - a.1) * (q.2.2 - q.1.2) - (b.2 - a.2) * (q.2.1 - q.1.1):=by unfold a8; grind
  rw [e1,e2,e3]
  grind
 generalize hδ:-(α * (b.1 - a.1) + β * (b.2 - a.2)) = δ at *
 by_cases dp:0 < δ
 ·refine a0a (A:=-(α * (q.2.1 - q.1.1) + β * (q.2.2 - q.1.2))) (l:=a8 a b q.1 - a8 a b q.2) (x:=x) (e:=fun z=>δ * a8 q.1 q.2 z) I hp (by grind) fx (fun z=>?_) (fun k hk=>Rat.mul_nonneg (Rat.le_of_lt dp) (C q hq k hk)) inn
  rw [ident q x s ex hx z]
  grind
 ·by_cases dn:δ < 0
  ·refine a0a (A:=α * (r.2.1 - r.1.1) + β * (r.2.2 - r.1.2)) (l:=a8 a b r.2 - a8 a b r.1) (x:=y) (e:=fun z=>-δ * a8 r.1 r.2 z) I hp (by grind) fy (fun z=>?_) (fun k hk=>Rat.mul_nonneg (by grind) (C r hr k hk)) inn
   have:=ident r y t ey hy z
   grind
  ·have dz:δ = 0:=by grind
   obtain ⟨c,hc⟩:=T6 (v:=(β,-α)) D (by unfold gv; grind)
   have c1:β = c * (b.1 - a.1):=congrArg Prod.fst hc
   have c2:-α = c * (b.2 - a.2):=congrArg Prod.snd hc
   have f:∀ z:Pt,α * (z.1 - x.1) + β * (z.2 - x.2) = c * a8 a b z:=fun z=>by
    have e2:a8 a b z = (b.1 - a.1) * (z.2 - x.2) - (b.2 - a.2) * (z.1 - x.1):=by
     have:a8 a b z = a8 a b x + ((b.1 - a.1) * (z.2 - x.2) - (b.2 - a.2) * (z.1 - x.1)):=by unfold a8; grind
     rw [this,hx,Rat.zero_add]
    have c3:α = -(c * (b.2 - a.2)):=by grind
    rw [e2,c1,c3]
    grind
   have cp:0 < c:=by
    have:=f p
    refine Rat.not_le.mp fun z=>?_
    have:=Rat.mul_nonneg (show 0 ≤ -c by grind) hp
    grind
   obtain ⟨k,hk,w⟩:=I α β
   by_cases h:0 ≤ a8 a b k
   ·have:=inn k hk h; grind
   ·have:=Rat.mul_pos cp (show 0 < -a8 a b k by grind)
    have:=f k
    grind
end
noncomputable def Q7 (A:List Pt) (es:List (Pt × Pt)):List Pt:=es.foldl (fun K e=>clL e.1 e.2 (nbs true K)) A
theorem a7M {p:Pt}:∀ (es:List (Pt × Pt)) (A:List Pt),CvL A → Ip A p → (∀ e ∈ es,e.1 ≠ e.2 ∧ 0 ≤ a8 e.1 e.2 p) →
  Ip (Q7 A es) p ∧ (∀ u v,(∀ k ∈ A,0 ≤ a8 u v k) → ∀ k ∈ Q7 A es,0 ≤ a8 u v k) ∧ ∀ e ∈ es,∀ k ∈ Q7 A es,0 ≤ a8 e.1 e.2 k
 | [],A,_,I,_=>⟨I,fun u v h=>h,fun e he=>(by cases he)⟩
 | e :: r,A,C,I,h=>by
  obtain ⟨h1,h2⟩:=h e (List.mem_cons_self ..)
  obtain ⟨a,b,c⟩:=a7M r (clL e.1 e.2 (nbs true A)) (b02 h1 C) (b2l h1 C I h2) fun z hz=>h z (List.mem_cons_of_mem _ hz)
  refine ⟨a,fun u v q=>b u v (a2e q),fun z hz=>?_⟩
  rcases List.mem_cons.mp hz with rfl | hz
  ·exact b _ _ a74
  ·exact c z hz
theorem b5d {A:List Pt} (h:CvT A):CvL A:=fun q hq k hk=>by
 have h0:0 < A.length:=List.length_pos_of_mem hk
 obtain ⟨i,rfl⟩:=(a0v h0 q).mp hq
 exact h i k hk
theorem b4p {A B:List Pt} {p:Pt} (cA:CvT A) (hB:B ≠ []) (nB:∀ k,tk B (k + 1) ≠ tk B k) (I:Ip A p) (hp:∀ k,0 ≤ a8 (tk B k) (tk B (k + 1)) p) :
  ∃ k r,Q7 A (nbs true B) = k :: r ∧ (∀ i,0 ≤ a8 (tk A i) (tk A (i + 1)) k) ∧ ∀ i,0 ≤ a8 (tk B i) (tk B (i + 1)) k:=by
 have h0:0 < B.length:=List.length_pos_iff.mpr hB
 obtain ⟨a,b,c⟩:=a7M (nbs true B) A (b5d cA) I (fun e he=>by
  obtain ⟨i,rfl⟩:=(a0v h0 e).mp he
  exact ⟨fun z=>nB i z.symm,hp i⟩)
 obtain ⟨k,hk,_⟩:=a 0 0
 cases e:Q7 A (nbs true B) with
 | nil=>rw [e] at hk; cases hk
 | cons x r=>
  refine ⟨x,r,rfl,fun i=>b _ _ (fun k hk=>cA i k hk) x (by rw [e]; exact List.mem_cons_self ..),fun i=>?_⟩
  exact c (tk B i,tk B (i + 1)) ((a0v h0 _).mpr ⟨i,rfl⟩) x (by rw [e]; exact List.mem_cons_self ..)
noncomputable def OnL (Ls:List (Pt × Pt)) (r s:Pt):Prop:=∃ c ∈ Ls,c.1 ≠ c.2 ∧ a8 c.1 c.2 r = 0 ∧ a8 c.1 c.2 s = 0
section
variable {K:List Pt} {a b:Pt} {Ls:List (Pt × Pt)} (ab:a ≠ b) (hL:(a,b) ∈ Ls) (O:∀ q ∈ nbs true K,OnL Ls q.1 q.2)
noncomputable def a1I (Ls:List (Pt × Pt)) (a b:Pt) (pv:Option Pt) (o:Pt):Prop:=∀ z,pv = some z → (0 ≤ a8 a b o → OnL Ls z o) ∧ (a8 a b o < 0 → a8 a b z = 0)
include ab hL O
theorem b2Y {q:Pt × Pt} (hq:q ∈ nbs true K) {pv:Option Pt} (I:a1I Ls a b pv q.1):G4 (OnL Ls) pv (cl1 a b q) ∧ a1I Ls a b (lsO pv (cl1 a b q)) q.2:=by
 obtain ⟨c,hc,cn,c1,c2⟩:=O q hq
 have sub:∀ s:Rat,a8 c.1 c.2 (l5 q.1 q.2 s) = 0:=fun s=>by rw [a08,c1,c2]; grind
 have line:∀ {r s:Pt},a8 a b r = 0 → a8 a b s = 0 → OnL Ls r s:=fun h1 h2=>⟨(a,b),hL,ab,h1,h2⟩
 unfold cl1
 by_cases ho:a8 a b q.1 < 0
 ·rw [if_pos ((G7 _).mpr ho),List.nil_append]
  by_cases hw:0 < a8 a b q.2
  ·have c:a8 a b q.1 * a8 a b q.2 < 0:=by
    have:=Rat.mul_pos (show 0 < -a8 a b q.1 by grind) hw
    grind
   rw [if_pos ((G3 _ _).mpr c)]
   obtain ⟨s,s0,s1,e⟩:=Q9 c
   refine ⟨⟨fun z hz=>line ((I z hz).2 ho) (Q4 c),trivial⟩,fun z hz=>?_⟩
   cases hz
   exact ⟨fun _=>⟨_,hc,cn,by rw [e]; exact sub s,c2⟩,fun n=>absurd hw (by grind)⟩
  ·have nc:¬ sgn (a8 a b q.1) * sgn (a8 a b q.2) = -1:=fun z=>by
    have:=(G3 _ _).mp z
    have:=Rat.mul_nonneg (show 0 ≤ -a8 a b q.1 by grind) (show 0 ≤ -a8 a b q.2 by grind)
    grind
   rw [if_neg nc]
   exact ⟨trivial,fun z hz=>⟨fun n=>line ((I z hz).2 ho) (by grind),fun _=>(I z hz).2 ho⟩⟩
 ·rw [if_neg fun z=>ho ((G7 _).mp z)]
  have ho:0 ≤ a8 a b q.1:=by grind
  by_cases hw:0 ≤ a8 a b q.2
  ·have nc:¬ sgn (a8 a b q.1) * sgn (a8 a b q.2) = -1:=fun z=>by
    have:=(G3 _ _).mp z
    have:=Rat.mul_nonneg ho hw
    grind
   rw [if_neg nc,List.append_nil]
   refine ⟨⟨fun z hz=>(I z hz).1 ho,trivial⟩,fun z hz=>?_⟩
   cases hz
   exact ⟨fun _=>⟨_,hc,cn,c1,c2⟩,fun n=>absurd hw (by grind)⟩
  ·have hw:a8 a b q.2 < 0:=by grind
   by_cases oz:a8 a b q.1 = 0
   ·have nc:¬ sgn (a8 a b q.1) * sgn (a8 a b q.2) = -1:=fun z=>by
     have:=(G3 _ _).mp z
     rw [oz,Rat.zero_mul] at this
     exact absurd this (by decide +kernel)
    rw [if_neg nc,List.append_nil]
    refine ⟨⟨fun z hz=>(I z hz).1 ho,trivial⟩,fun z hz=>?_⟩
    cases hz
    exact ⟨fun n=>absurd hw (by grind),fun _=>oz⟩
   ·have c':a8 a b q.1 * a8 a b q.2 < 0:=by
     have:=Rat.mul_pos (show 0 < a8 a b q.1 by grind) (show 0 < -a8 a b q.2 by grind)
     grind
    rw [if_pos ((G3 _ _).mpr c')]
    obtain ⟨s,s0,s1,e⟩:=Q9 c'
    refine ⟨⟨fun z hz=>(I z hz).1 ho,⟨fun z hz=>?_,trivial⟩⟩,fun z hz=>?_⟩
    ·cases hz
     exact ⟨_,hc,cn,c1,by rw [e]; exact sub s⟩
    ·cases hz
     exact ⟨fun n=>absurd hw (by grind),fun _=>Q4 c'⟩
theorem a4w:∀ (es:List (Pt × Pt)) (o e:Pt) (pv:Option Pt),(∀ q ∈ es,q ∈ nbs true K) → Pth o es e → a1I Ls a b pv o → G4 (OnL Ls) pv (es.flatMap (cl1 a b)) ∧ a1I Ls a b (lsO pv (es.flatMap (cl1 a b))) e
 | [],o,e,pv,_,p,I=>by
  have p:o = e:=p
  subst p
  exact ⟨trivial,I⟩
 | q :: r,o,e,pv,hq,p,I=>by
  obtain ⟨p1,p2⟩:=p
  subst p1
  obtain ⟨c1,I1⟩:=b2Y ab hL O (hq q (List.mem_cons_self ..)) I
  obtain ⟨c2,I2⟩:=a4w r q.2 e _ (fun z hz=>hq z (List.mem_cons_of_mem _ hz)) p2 I1
  rw [List.flatMap_cons]
  exact ⟨a4E _ _ _ _ c1 c2,by rw [a2n]; exact I2⟩
theorem b3d:∀ q ∈ nbs true (clL a b (nbs true K)),OnL Ls q.1 q.2:=by
 cases K with
 | nil=>intro q hq; cases hq
 | cons o r=>
  have P:Pth o (nbs true (o :: r)) o:=by rw [Z4]; exact a1d r o o
  obtain ⟨c1,I1⟩:=a4w ab hL O _ o o none (fun q hq=>hq) P (fun z hz=>by cases hz)
  obtain ⟨c2,_⟩:=a4w ab hL O _ o o _ (fun q hq=>hq) P I1
  have c1:G4 (OnL Ls) none (clL a b (nbs true (o :: r))):=c1
  have c2:G4 (OnL Ls) (lsO none (clL a b (nbs true (o :: r)))) (clL a b (nbs true (o :: r))):=c2
  intro q hq
  cases e:clL a b (nbs true (o :: r)) with
  | nil=>rw [e] at hq; cases hq
  | cons x t=>
   rw [e] at hq c1 c2
   rw [Z4] at hq
   exact a3p _ t x x c1.2 (fun z hz=>c2.1 z hz) q hq
end
theorem b0x {a b c d q:Pt} (hW:crs (vec a b) (vec c d) ≠ 0) (h1:a8 a b q = 0) (h2:a8 c d q = 0):xpt a b c d = q:=by
 have k1:nmX a b c d = q.1 * crs (vec a b) (vec c d):=by
  unfold a8 at h1 h2; unfold nmX crs vec
  have g1:(d.1 - c.1) * ((b.1 - a.1) * (q.2 - a.2) - (b.2 - a.2) * (q.1 - a.1)) = 0:=by rw [h1,Rat.mul_zero]
  have g2:(b.1 - a.1) * ((d.1 - c.1) * (q.2 - c.2) - (d.2 - c.2) * (q.1 - c.1)) = 0:=by rw [h2,Rat.mul_zero]
  show (b.1 - a.1) * (c.1 * d.2 - c.2 * d.1) - (a.1 * b.2 - a.2 * b.1) * (d.1 - c.1) = q.1 * ((b.1 - a.1) * (d.2 - c.2) - (b.2 - a.2) * (d.1 - c.1))
  grind
 have k2:nmY a b c d = q.2 * crs (vec a b) (vec c d):=by
  unfold a8 at h1 h2; unfold nmY crs vec
  have g1:(d.2 - c.2) * ((b.1 - a.1) * (q.2 - a.2) - (b.2 - a.2) * (q.1 - a.1)) = 0:=by rw [h1,Rat.mul_zero]
  have g2:(b.2 - a.2) * ((d.1 - c.1) * (q.2 - c.2) - (d.2 - c.2) * (q.1 - c.1)) = 0:=by rw [h2,Rat.mul_zero]
  show (a.1 * b.2 - a.2 * b.1) * (c.2 - d.2) - (a.2 - b.2) * (c.1 * d.2 - c.2 * d.1) = q.2 * ((b.1 - a.1) * (d.2 - c.2) - (b.2 - a.2) * (d.1 - c.1))
  grind
 unfold xpt
 rw [k1,k2,Rat.div_def,Rat.div_def,Rat.mul_assoc,Rat.mul_assoc,Rat.mul_inv_cancel _ hW,Rat.mul_one,Rat.mul_one]
theorem b4N {a b u w c d:Pt} (h:a8 a b u * a8 a b w < 0) (cd:c ≠ d) (cu:a8 c d u = 0) (cw:a8 c d w = 0):crs (vec a b) (vec c d) ≠ 0 ∧ xq a b u w = xpt a b c d:=by
 obtain ⟨s,_,_,e⟩:=Q9 h
 have D:((d.1 - c.1,d.2 - c.2):Pt) ≠ (0,0):=fun z=>cd (by
  have z1:d.1 - c.1 = 0:=congrArg Prod.fst z
  have z2:d.2 - c.2 = 0:=congrArg Prod.snd z
  exact Prod.ext (by grind) (by grind))
 obtain ⟨t,ht⟩:=T6 (v:=(w.1 - u.1,w.2 - u.2)) D (by unfold gv a8 at *; grind)
 have t1:w.1 - u.1 = t * (d.1 - c.1):=congrArg Prod.fst ht
 have t2:w.2 - u.2 = t * (d.2 - c.2):=congrArg Prod.snd ht
 have W:crs (vec a b) (vec c d) ≠ 0:=fun z=>by
  have k:a8 a b w - a8 a b u = t * crs (vec a b) (vec c d):=by
   have:a8 a b w - a8 a b u = (b.1 - a.1) * (w.2 - u.2) - (b.2 - a.2) * (w.1 - u.1):=by unfold a8; grind
   rw [this,t1,t2]
   unfold crs vec
   grind
  rw [z,Rat.mul_zero] at k
  have e:a8 a b w = a8 a b u:=by grind
  rw [e] at h
  have:=M2 (a8 a b u)
  grind
 refine ⟨W,(b0x W (Q4 h) ?_).symm⟩
 rw [e,a08,cu,cw]
 grind
theorem b03 {K:List Pt} {a b:Pt} {Ls:List (Pt × Pt)} {k m:Nat} (hS:∀ c ∈ Ls,Ps k c.1 ∧ Ps k c.2) (hL:(a,b) ∈ Ls) (O:∀ q ∈ nbs true K,OnL Ls q.1 q.2) (hm:4 * k + 3 ≤ m) (hK:∀ z ∈ K,PtS m z):∀ z ∈ clL a b (nbs true K),PtS m z:=fun z hz=>by
 rcases a20 hz with ⟨w,_⟩ | ⟨q,hq,c,rfl⟩
 ·exact hK z w
 ·obtain ⟨l,hl,ln,l1,l2⟩:=O q hq
  obtain ⟨W,e⟩:=b4N c ln l1 l2
  rw [e]
  exact (b5r (hS _ hL).1 (hS _ hL).2 (hS l hl).1 (hS l hl).2 W).mono hm
theorem b4T (ds:List D) (c:Bool) (fs:Option FS) (hl:ds.length + 1 ≤ sizeLine):M8 [.lst ds,.bl c] fs = some (.lst ((nbs c ds).map pr2),fs):=by
 refine n9 (s:=⟨[.val (.lst ds),.val (.bl c)],fs⟩) ?_
 show U4 ⟨[.val (.lst ds),.val (.bl c)],fs⟩ = _
 have h1:ds.length - 1 + min 1 ds.length ≤ sizeLine:=by omega
 cases c
 ·simp [U4,c7,p7,e8,dOp,dUn,dC,dL,dV,c8,i7,dB,e7,e5,a7,a9,e6,i8,dCB,one,j8,m6,dIf,j4,dTr,p8,dSl,dAt,dNo,dCF,P2,E9,a0x,nbs,Z0]
 ·simp [U4,c7,p7,e8,dOp,dUn,dC,dL,dV,c8,i7,dB,e7,e5,a7,a9,e6,i8,dCB,one,j8,m6,dIf,j4,dTr,p8,dSl,dAt,dNo,dCF,P2,E9,a0x,a4N,nbs,Z0,h1]
theorem W0 {t:D → DS → Option DS} {b:DM} {d x:D} {r:List D} {s s1 s2:DS} (h1:t d s = some s1) (h2:b s1 = some (.ret x,s2)):u9 t b (d :: r) s = some (.ret x,s2):=by simp [u9,h1,h2]
noncomputable def pq (q:Pt × Pt):D:=.tup [pt q.1,pt q.2]
theorem a4k (K:List Pt):(nbs true (K.map pt)).map pr2 = (nbs true K).map pq:=by
 rw [b6k,List.map_map]
 rfl
theorem a2k (K:List Pt) (fs:Option FS) (hl:K.length ≤ 1000):FEk [.tup (K.map pt)] fs = some (.lst ((nbs true K).map pq),fs):=by
 have e:=b6T (K.map pt) true fs (by rw [List.length_map]; exact Nat.le_trans (by omega:K.length + 1 ≤ 1001) (by decide))
 rw [a4k] at e
 exact n9 (s:=⟨[.val (.tup (K.map pt))],fs⟩) (o9 (l7 rfl e))
theorem b45 (K:List Pt) (fs:Option FS) (hl:K.length ≤ 1000):FEk [.lst (K.map pt)] fs = some (.lst ((nbs true K).map pq),fs):=by
 have e:=b4T (K.map pt) true fs (by rw [List.length_map]; exact Nat.le_trans (by omega:K.length + 1 ≤ 1001) (by decide))
 rw [a4k] at e
 exact n9 (s:=⟨[.val (.lst (K.map pt))],fs⟩) (o9 (l7 rfl e))
theorem b6p {a b:Pt} {K:List Pt} (fs:Option FS) (ha:PtS 120 a) (hb:PtS 120 b) (hK:∀ p ∈ K,PtS 120 p) (hl:K.length ≤ 400):FCk [.lst (K.map pt),pt a,pt b] fs = some (.lst ((clL a b (nbs true K)).map pt),fs):=by
 have nl:=T8 true K
 obtain ⟨y5,y6,y7,e⟩:=a8b (.val (.lst (K.map pt))) fs ha hb (nbs true K) [] .no .no .no (fun q hq=>⟨hK _ (E6 hq).1,hK _ (E6 hq).2⟩) (by rw [List.length_nil]; omega)
 rw [List.nil_append] at e
 have s:=a7T fs ha.ps hb.ps (by decide)
 refine n9 (s:=⟨[.val (.lst (K.map pt)),.val (pt a),.val (pt b),.val (lnT a b),.val (.lst ((clL a b (nbs true K)).map pt)),y5,y6,y7],fs⟩) ?_
 show a0I FTn FCr FSg FEk ⟨[.val (.lst (K.map pt)),.val (pt a),.val (pt b),.no,.no,.no,.no,.no],fs⟩ = _
 unfold a0I
 rw [m7 (s1:=⟨[.val (.lst (K.map pt)),.val (pt a),.val (pt b),.val (lnT a b),.no,.no,.no,.no],fs⟩) (u6 (l7 rfl s) rfl)]
 rw [m7 (s1:=qS (.val (.lst (K.map pt))) a b (lnT a b) [] .no .no .no fs) (M6 (i:=4) (s1:=⟨[.val (.lst (K.map pt)),.val (pt a),.val (pt b),.val (lnT a b),.no,.no,.no,.no],fs⟩) (ds:=[]) rfl (by show 4 < 8; decide))]
 rw [m7 ((a4g (ds:=(nbs true K).map fun q=>.tup [pt q.1,pt q.2]) (l7 rfl (b45 K fs (by omega)))).trans e)]
 exact o9 rfl
noncomputable def inB (A:List Pt) (p:Pt):Bool:=(nbs true A).all fun q=>!decide (sgn (a8 q.1 q.2 p) = -1)
noncomputable abbrev FBl:DFn:=a3i FTn FEk
theorem a7n {p:Pt} {k:Nat} (x0:Sl) (fs:Option FS) (hp:Ps k p) (hk:k ≤ 2000):∀ (qs:List (Pt × Pt)) (x2 x3:Sl),(∀ q ∈ qs,Ps k q.1 ∧ Ps k q.2) → ∃ y2 y3,u9 (k6 2 (j5 (c8 2) (j5 (c8 3) l3))) (a1y FTn FEk) (qs.map pq) ⟨[x0,.val (pt p),x2,x3],fs⟩ = some (if qs.all (fun q=>!decide (sgn (a8 q.1 q.2 p) = -1)) then .next else .ret (.bl false),⟨[x0,.val (pt p),y2,y3],fs⟩)
 | [],x2,x3,_=>⟨x2,x3,rfl⟩
 | q :: r,x2,x3,h=>by
  obtain ⟨h1,h2⟩:=h q (List.mem_cons_self ..)
  have t:=a0D q.1 q.2 p fs h1 h2 hp hk
  have c:dB (dOp pEq (e5 FTn (a7 (dV 2) (a7 (dV 3) (a7 (dV 1) a9)))) (dUn j9 (dC (.int 1)))) ⟨[x0,.val (pt p),.val (pt q.1),.val (pt q.2)],fs⟩ = some (decide (sgn (a8 q.1 q.2 p) = -1),⟨[x0,.val (pt p),.val (pt q.1),.val (pt q.2)],fs⟩):=u4 (b9 (l7 rfl t) rfl (R8 _ (-1)))
  rw [List.map_cons,List.all_cons]
  by_cases n:sgn (a8 q.1 q.2 p) = -1
  ·rw [decide_eq_true n] at c ⊢
   refine ⟨.val (pt q.1),.val (pt q.2),?_⟩
   have B:a1y FTn FEk ⟨[x0,.val (pt p),.val (pt q.1),.val (pt q.2)],fs⟩ = some (.ret (.bl false),⟨[x0,.val (pt p),.val (pt q.1),.val (pt q.2)],fs⟩):=(C4 c).trans (o9 rfl)
   rw [W0 (s1:=⟨[x0,.val (pt p),.val (pt q.1),.val (pt q.2)],fs⟩) rfl B]
   rfl
  ·rw [decide_eq_false n] at c ⊢
   obtain ⟨y2,y3,e⟩:=a7n x0 fs hp hk r (.val (pt q.1)) (.val (pt q.2)) fun z hz=>h z (List.mem_cons_of_mem _ hz)
   refine ⟨y2,y3,?_⟩
   rw [J9 (s1:=⟨[x0,.val (pt p),.val (pt q.1),.val (pt q.2)],fs⟩) rfl (u5 c),e]
   rfl
theorem b1u {A:List Pt} {p:Pt} {k:Nat} (fs:Option FS) (hp:Ps k p) (hA:∀ z ∈ A,Ps k z) (hk:k ≤ 2000) (hl:A.length ≤ 1000):FBl [.tup (A.map pt),pt p] fs = some (.bl (inB A p),fs):=by
 obtain ⟨y2,y3,e⟩:=a7n (.val (.tup (A.map pt))) fs hp hk (nbs true A) .no .no fun q hq=>⟨hA _ (E6 hq).1,hA _ (E6 hq).2⟩
 refine n9 (s:=⟨[.val (.tup (A.map pt)),.val (pt p),y2,y3],fs⟩) ?_
 show a1D FTn FEk ⟨[.val (.tup (A.map pt)),.val (pt p),.no,.no],fs⟩ = _
 unfold a1D inB
 have f:=(a4g (b:=a1y FTn FEk) (t:=k6 2 (j5 (c8 2) (j5 (c8 3) l3))) (f:=e5 FEk (a7 (dV 0) a9)) (s:=⟨[.val (.tup (A.map pt)),.val (pt p),.no,.no],fs⟩) (s1:=⟨[.val (.tup (A.map pt)),.val (pt p),.no,.no],fs⟩) (ds:=(nbs true A).map pq) (l7 rfl (a2k A fs hl))).trans e
 cases c:(nbs true A).all fun q=>!decide (sgn (a8 q.1 q.2 p) = -1) with
 | true=>
  rw [c,if_pos rfl] at f
  rw [m7 f]
  exact o9 rfl
 | false=>
  rw [c,if_neg Bool.false_ne_true] at f
  exact B3 f
noncomputable abbrev FAa:DFn:=a2Z FBl
noncomputable def shT (A:List Pt):D:=.tup (A.map pt)
theorem a6G {p:Pt} {k:Nat} (x0:Sl) (fs:Option FS) (hp:Ps k p) (hk:k ≤ 2000):∀ (Ss:List (List Pt)) (x2:Sl),(∀ A ∈ Ss,A.length ≤ 1000 ∧ ∀ z ∈ A,Ps k z) → ∃ y2,u9 (c8 2) (a05 FBl) (Ss.map shT) ⟨[x0,.val (pt p),x2],fs⟩ = some (if Ss.any (inB · p) then .ret (.bl true) else .next,⟨[x0,.val (pt p),y2],fs⟩)
 | [],x2,_=>⟨x2,rfl⟩
 | A :: r,x2,h=>by
  obtain ⟨h1,h2⟩:=h A (List.mem_cons_self ..)
  have t:=b1u fs hp h2 hk h1
  rw [List.map_cons,List.any_cons]
  have c:dTr (e5 FBl (a7 (dV 2) (a7 (dV 1) a9))) ⟨[x0,.val (pt p),.val (shT A)],fs⟩ = some (inB A p,⟨[x0,.val (pt p),.val (shT A)],fs⟩):=w9 (l7 rfl t)
  cases n:inB A p with
  | true=>
   rw [n] at c
   refine ⟨.val (shT A),?_⟩
   have B:a05 FBl ⟨[x0,.val (pt p),.val (shT A)],fs⟩ = some (.ret (.bl true),⟨[x0,.val (pt p),.val (shT A)],fs⟩):=(C4 c).trans (o9 rfl)
   rw [W0 (s1:=⟨[x0,.val (pt p),.val (shT A)],fs⟩) rfl B]
   rfl
  | false=>
   rw [n] at c
   obtain ⟨y2,e⟩:=a6G x0 fs hp hk r (.val (shT A)) fun z hz=>h z (List.mem_cons_of_mem _ hz)
   refine ⟨y2,?_⟩
   rw [J9 (s1:=⟨[x0,.val (pt p),.val (shT A)],fs⟩) rfl (u5 c),e]
   rfl
theorem a89 {Ss:List (List Pt)} {p:Pt} {k:Nat} (fs:Option FS) (hp:Ps k p) (hS:∀ A ∈ Ss,A.length ≤ 1000 ∧ ∀ z ∈ A,Ps k z) (hk:k ≤ 2000):FAa [.tup (Ss.map shT),pt p] fs = some (.bl (Ss.any (inB · p)),fs):=by
 obtain ⟨y2,e⟩:=a6G (.val (.tup (Ss.map shT))) fs hp hk Ss .no hS
 refine n9 (s:=⟨[.val (.tup (Ss.map shT)),.val (pt p),y2],fs⟩) ?_
 show a1H FBl ⟨[.val (.tup (Ss.map shT)),.val (pt p),.no],fs⟩ = _
 unfold a1H
 have f:=(S8 (b:=a05 FBl) (t:=c8 2) (f:=dV 0) (s:=⟨[.val (.tup (Ss.map shT)),.val (pt p),.no],fs⟩) (s1:=⟨[.val (.tup (Ss.map shT)),.val (pt p),.no],fs⟩) (ds:=Ss.map shT) rfl).trans e
 cases c:Ss.any (inB · p) with
 | true=>
  rw [c,if_pos rfl] at f
  exact B3 f
 | false=>
  rw [c,if_neg Bool.false_ne_true] at f
  rw [m7 f]
  exact o9 rfl
noncomputable def poB (A:List Pt) (i:Nat) (B:List Pt):Bool:=B.all fun z=>decide (sgn (a8 (tk A i) (tk A (i + 1)) z) = -1)
noncomputable abbrev FPo:DFn:=a01 FTn FEk
theorem a8F {u v:Pt} {k:Nat} (x0 x1 x2:Sl) (fs:Option FS) (hu:Ps k u) (hv:Ps k v) (hk:k ≤ 2000):∀ (B:List Pt) (x4:Sl),(∀ z ∈ B,Ps k z) → ∃ y4,u9 (c8 4) (a1i FTn FEk) (B.map pt) ⟨[x0,x1,x2,.val (pq (u,v)),x4],fs⟩ = some (if B.all (fun z=>decide (sgn (a8 u v z) = -1)) then .next else .ret (.bl false),⟨[x0,x1,x2,.val (pq (u,v)),y4],fs⟩)
 | [],x4,_=>⟨x4,rfl⟩
 | z :: r,x4,h=>by
  have t:=a0D u v z fs hu hv (h z (List.mem_cons_self ..)) hk
  have c:dB (dOp pNe (e5 FTn (a7 (dOp pIx (dL 3) (dC (.int 0))) (a7 (dOp pIx (dL 3) (dC (.int 1))) (a7 (dV 4) a9)))) (dUn j9 (dC (.int 1)))) ⟨[x0,x1,x2,.val (pq (u,v)),.val (pt z)],fs⟩ = some (!decide (sgn (a8 u v z) = -1),⟨[x0,x1,x2,.val (pq (u,v)),.val (pt z)],fs⟩):=u4 (b9 (l7 (o6 (b9 (x:=pq (u,v)) rfl rfl rfl) (o6 (b9 (x:=pq (u,v)) rfl rfl rfl) rfl)) t) rfl (N6 _ (-1)))
  rw [List.map_cons,List.all_cons]
  by_cases n:sgn (a8 u v z) = -1
  ·rw [decide_eq_true n] at c ⊢
   obtain ⟨y4,e⟩:=a8F x0 x1 x2 fs hu hv hk r (.val (pt z)) fun z hz=>h z (List.mem_cons_of_mem _ hz)
   refine ⟨y4,?_⟩
   rw [J9 (s1:=⟨[x0,x1,x2,.val (pq (u,v)),.val (pt z)],fs⟩) rfl (u5 c),e]
   rfl
  ·rw [decide_eq_false n] at c ⊢
   refine ⟨.val (pt z),?_⟩
   have B:a1i FTn FEk ⟨[x0,x1,x2,.val (pq (u,v)),.val (pt z)],fs⟩ = some (.ret (.bl false),⟨[x0,x1,x2,.val (pq (u,v)),.val (pt z)],fs⟩):=(C4 c).trans (o9 rfl)
   rw [W0 (s1:=⟨[x0,x1,x2,.val (pq (u,v)),.val (pt z)],fs⟩) rfl B]
   rfl
theorem Y5 {A:List Pt} {i:Nat} (h:i < A.length):(nbs true A)[i]? = some (tk A i,tk A (i + 1)):=by
 have hl:i < (nbs true A).length:=by rw [a0q,if_pos rfl]; omega
 have l2:(A.drop 1 ++ A.take 1).length = A.length:=by rw [List.length_append,List.length_drop,List.length_take]; omega
 unfold nbs
 rw [if_pos rfl,List.getElem?_zip_eq_some]
 refine ⟨K1 h,?_⟩
 by_cases c:i + 1 < A.length
 ·rw [List.getElem?_append_left (by rw [List.length_drop]; omega),List.getElem?_drop,Nat.add_comm 1 i,K1 c]
 ·have ei:i + 1 = A.length:=by omega
  rw [List.getElem?_append_right (by rw [List.length_drop]; omega),List.length_drop,show i - (A.length - 1) = 0 by omega,List.getElem?_take_of_lt (by decide),K1 (by omega)]
  rw [← C9 (i + 1),ei,Nat.mod_self]
theorem a18 {A B:List Pt} {i k:Nat} (fs:Option FS) (hA:∀ z ∈ A,Ps k z) (hB:∀ z ∈ B,Ps k z) (hk:k ≤ 2000) (hi:i < A.length) (hl:A.length ≤ 1000):FPo [shT A,.int (i:Int),shT B] fs = some (.bl (poB A i B),fs):=by
 have h0:0 < A.length:=by omega
 obtain ⟨y4,e⟩:=a8F (.val (shT A)) (.val (.int (i:Int))) (.val (shT B)) fs (hA _ (G8 (l:=A) i h0)) (hA _ (G8 (l:=A) (i + 1) h0)) hk B .no hB
 refine n9 (s:=⟨[.val (shT A),.val (.int (i:Int)),.val (shT B),.val (pq (tk A i,tk A (i + 1))),y4],fs⟩) ?_
 show a0M FTn FEk ⟨[.val (shT A),.val (.int (i:Int)),.val (shT B),.no,.no],fs⟩ = _
 unfold a0M poB
 have ix:pIx (.lst ((nbs true A).map pq)) (.int (i:Int)) = some (pq (tk A i,tk A (i + 1))):=(ixL _ _).trans (a8g (by rw [List.getElem?_map,Y5 hi]; rfl))
 rw [m7 (s1:=⟨[.val (shT A),.val (.int (i:Int)),.val (shT B),.val (pq (tk A i,tk A (i + 1))),.no],fs⟩) (u6 (b9 (l7 rfl (a2k A fs hl)) rfl ix) rfl)]
 have f:=(S8 (b:=a1i FTn FEk) (t:=c8 4) (f:=dV 2) (s:=⟨[.val (shT A),.val (.int (i:Int)),.val (shT B),.val (pq (tk A i,tk A (i + 1))),.no],fs⟩) (s1:=⟨[.val (shT A),.val (.int (i:Int)),.val (shT B),.val (pq (tk A i,tk A (i + 1))),.no],fs⟩) (ds:=B.map pt) rfl).trans e
 cases c:B.all (fun z=>decide (sgn (a8 (tk A i) (tk A (i + 1)) z) = -1)) with
 | true=>
  rw [c,if_pos rfl] at f
  rw [m7 f]
  exact o9 rfl
 | false=>
  rw [c,if_neg Bool.false_ne_true] at f
  exact B3 f
structure ShC (A:List Pt):Prop where
 cv:CvT A
 ne:∀ k,tk A (k + 1) ≠ tk A k
 nc:Nco A
 lo:3 ≤ A.length
 hi:A.length ≤ 6
 sz:∀ z ∈ A,Ps 8 z ∧ PtS 35 z
theorem ShC.ps {A:List Pt} (h:ShC A):∀ z ∈ A,Ps 70 z:=fun z hz=>(h.sz z hz).1.mono (by decide)
noncomputable def peI (A B:List Pt) (lo:Nat):Nat → Option Nat
 | 0=>none
 | m + 1=>if poB A lo B then some lo else peI A B (lo + 1) m
noncomputable def onD:Option Nat → D
 | none=>.non
 | some i=>.int (i:Int)
noncomputable abbrev FPe:DFn:=a3h FPo
theorem b1z (lo:Nat) (n:Nat):ups (lo:Int) (n + 1) = .int (lo:Int) :: ups ((lo + 1:Nat):Int) n:=by
 unfold ups
 rw [List.range_succ_eq_map,List.map_cons,List.map_map]
 rw [List.cons.injEq]
 refine ⟨by simp,List.map_congr_left fun i _=>?_⟩
 show D.int ((lo:Int) + ((i + 1:Nat):Int)) = D.int (((lo + 1:Nat):Int) + (i:Int))
 congr 1
 omega
section
variable {A B:List Pt} (hA:ShC A) (hB:ShC B) (fs:Option FS)
include hA hB
theorem a79:∀ (m lo:Nat) (x2:Sl),lo + m ≤ A.length → ∃ y2,u9 (c8 2) (a1a FPo) (ups (lo:Int) m) ⟨[.val (shT A),.val (shT B),x2],fs⟩ = some ((match peI A B lo m with | some i=>.ret (.int (i:Int)) | none=>.next),⟨[.val (shT A),.val (shT B),y2],fs⟩)
 | 0,lo,x2,_=>⟨x2,rfl⟩
 | m + 1,lo,x2,h=>by
  have t:=a18 fs hA.ps hB.ps (by decide) (i:=lo) (by omega) (by have:=hA.hi; omega)
  rw [b1z]
  unfold peI
  have c:dTr (e5 FPo (a7 (dV 0) (a7 (dV 2) (a7 (dV 1) a9)))) ⟨[.val (shT A),.val (shT B),.val (.int (lo:Int))],fs⟩ = some (poB A lo B,⟨[.val (shT A),.val (shT B),.val (.int (lo:Int))],fs⟩):=w9 (l7 rfl t)
  cases n:poB A lo B with
  | true=>
   rw [n] at c
   refine ⟨.val (.int (lo:Int)),?_⟩
   have Bd:a1a FPo ⟨[.val (shT A),.val (shT B),.val (.int (lo:Int))],fs⟩ = some (.ret (.int (lo:Int)),⟨[.val (shT A),.val (shT B),.val (.int (lo:Int))],fs⟩):=(C4 c).trans (o9 rfl)
   rw [W0 (s1:=⟨[.val (shT A),.val (shT B),.val (.int (lo:Int))],fs⟩) rfl Bd]
   rfl
  | false=>
   rw [n] at c
   obtain ⟨y2,e⟩:=a79 m (lo + 1) (.val (.int (lo:Int))) (by omega)
   refine ⟨y2,?_⟩
   rw [J9 (s1:=⟨[.val (shT A),.val (shT B),.val (.int (lo:Int))],fs⟩) rfl (u5 c),e]
   rfl
theorem ppe:FPe [shT A,shT B] fs = some (onD (peI A B 0 A.length),fs):=by
 obtain ⟨y2,e⟩:=a79 hA hB fs A.length 0 .no (by omega)
 refine n9 (s:=⟨[.val (shT A),.val (shT B),y2],fs⟩) ?_
 show a1v FPo ⟨[.val (shT A),.val (shT B),.no],fs⟩ = _
 unfold a1v
 have hi:=hA.hi
 have len:dCB (one i9) (a7 (dL 0) a9) ⟨[.val (shT A),.val (shT B),.no],fs⟩ = some (.int (A.length:Int),⟨[.val (shT A),.val (shT B),.no],fs⟩):=by
  refine a1h (x:=shT A) rfl ?_
  show some (D.int ((A.map pt).length:Nat)) = _
  rw [List.length_map]
 have f:=(a0b (b:=a1a FPo) (t:=c8 2) (f:=a7 (dCB (one i9) (a7 (dL 0) a9)) a9) (o6 len rfl) (S7 (by omega))).trans e
 cases c:peI A B 0 A.length with
 | some i=>
  rw [c] at f
  exact B3 f
 | none=>
  rw [c] at f
  rw [m7 f]
  exact o9 rfl
end
noncomputable def ppD (A B:List Pt):D:=match peI A B 0 A.length with
 | some i=>.tup [.str "one",.int (i:Int)]
 | none=>match peI B A 0 B.length with
  | some i=>.tup [.str "other",.int (i:Int)]
  | none=>.non
noncomputable abbrev FPp:DFn:=a2o FPe
theorem b4h {A B:List Pt} (hA:ShC A) (hB:ShC B) (fs:Option FS):FPp [shT A,shT B] fs = some (ppD A B,fs):=by
 have e1:=ppe hA hB fs
 have e2:=ppe hB hA fs
 unfold ppD
 cases c1:peI A B 0 A.length with
 | some i=>
  rw [c1] at e1
  refine n9 (s:=⟨[.val (shT A),.val (shT B),.val (.int (i:Int))],fs⟩) ?_
  show Q2 FPe ⟨[.val (shT A),.val (shT B),.no],fs⟩ = _
  unfold Q2
  rw [m7 (s1:=⟨[.val (shT A),.val (shT B),.val (.int (i:Int))],fs⟩) (u6 (l7 rfl e1) rfl)]
  exact B3 ((C4 (s1:=⟨[.val (shT A),.val (shT B),.val (.int (i:Int))],fs⟩) (u4 (b9 rfl rfl rfl))).trans (o9 (B2 rfl rfl)))
 | none=>
  rw [c1] at e1
  cases c2:peI B A 0 B.length with
  | some i=>
   rw [c2] at e2
   refine n9 (s:=⟨[.val (shT A),.val (shT B),.val (.int (i:Int))],fs⟩) ?_
   show Q2 FPe ⟨[.val (shT A),.val (shT B),.no],fs⟩ = _
   unfold Q2
   rw [m7 (s1:=⟨[.val (shT A),.val (shT B),.val .non],fs⟩) (u6 (l7 rfl e1) rfl)]
   rw [m7 (s1:=⟨[.val (shT A),.val (shT B),.val .non],fs⟩) (u5 (u4 (b9 rfl rfl rfl)))]
   rw [m7 (s1:=⟨[.val (shT A),.val (shT B),.val (.int (i:Int))],fs⟩) (u6 (l7 rfl e2) rfl)]
   exact B3 ((C4 (s1:=⟨[.val (shT A),.val (shT B),.val (.int (i:Int))],fs⟩) (u4 (b9 rfl rfl rfl))).trans (o9 (B2 rfl rfl)))
  | none=>
   rw [c2] at e2
   refine n9 (s:=⟨[.val (shT A),.val (shT B),.val .non],fs⟩) ?_
   show Q2 FPe ⟨[.val (shT A),.val (shT B),.no],fs⟩ = _
   unfold Q2
   rw [m7 (s1:=⟨[.val (shT A),.val (shT B),.val .non],fs⟩) (u6 (l7 rfl e1) rfl)]
   rw [m7 (s1:=⟨[.val (shT A),.val (shT B),.val .non],fs⟩) (u5 (u4 (b9 rfl rfl rfl)))]
   rw [m7 (s1:=⟨[.val (shT A),.val (shT B),.val .non],fs⟩) (u6 (l7 rfl e2) rfl)]
   rw [m7 (s1:=⟨[.val (shT A),.val (shT B),.val .non],fs⟩) (u5 (u4 (b9 rfl rfl rfl)))]
   exact o9 rfl
theorem a7C {A B:List Pt}:∀ (m lo:Nat),peI A B lo m = none → ∀ i,lo ≤ i → i < lo + m → poB A i B = false
 | 0,lo,_,i,h1,h2=>by omega
 | m + 1,lo,h,i,h1,h2=>by
  unfold peI at h
  cases c:poB A lo B with
  | true=>rw [c,if_pos rfl] at h; cases h
  | false=>
   rw [c,if_neg Bool.false_ne_true] at h
   by_cases q:i = lo
   ·rw [q]; exact c
   ·exact a7C m (lo + 1) h i (by omega) (by omega)
theorem a0Y {A B:List Pt}:∀ (m lo i:Nat),peI A B lo m = some i → lo ≤ i ∧ i < lo + m ∧ poB A i B = true
 | 0,lo,i,h=>by cases h
 | m + 1,lo,i,h=>by
  unfold peI at h
  cases c:poB A lo B with
  | true=>
   rw [c,if_pos rfl] at h
   cases h
   exact ⟨Nat.le_refl _,by omega,c⟩
  | false=>
   rw [c,if_neg Bool.false_ne_true] at h
   obtain ⟨a,b,d⟩:=a0Y m (lo + 1) i h
   exact ⟨by omega,by omega,d⟩
theorem b5R {A B:List Pt} {i:Nat} (h:poB A i B = false):¬ ∀ z ∈ B,a8 (tk A i) (tk A (i + 1)) z < 0:=fun q=>by
 have:poB A i B = true:=by
  unfold poB
  rw [List.all_eq_true]
  exact fun z hz=>decide_eq_true ((G7 _).mpr (q z hz))
 rw [this] at h
 cases h
theorem b4W {A B:List Pt} (hA:ShC A) (hB:ShC B) (h1:peI A B 0 A.length = none) (h2:peI B A 0 B.length = none):∃ p,Ip A p ∧ ∀ k,0 ≤ a8 (tk B k) (tk B (k + 1)) p:=by
 have a3:=hA.lo
 have b3:=hB.lo
 have red:∀ {A B:List Pt},0 < A.length → peI A B 0 A.length = none → ¬ ∃ k,∀ z ∈ B,a8 (tk A k) (tk A (k + 1)) z < 0:=fun {A B} h0 h ⟨k,hk⟩=>by
  have m:=Nat.mod_lt k h0
  refine b5R (a7C _ 0 h (k % A.length) (by omega) (by omega)) fun z hz=>?_
  have:=hk z hz
  rw [C9,← C9 (k % A.length + 1),Nat.mod_add_mod,C9]
  exact this
 rcases b4y (by have:=hA.hi; omega) (by have:=hB.hi; omega) (List.length_pos_iff.mp (by omega)) hA.cv hB.cv hA.ne hB.ne hA.nc hB.nc with q | q | q
 ·exact q
 ·exact absurd q (red (by omega) h1)
 ·exact absurd q (red (by omega) h2)
noncomputable abbrev D6:DFn:=a3c FCk FEk
theorem a6M {Ls:List (Pt × Pt)} (x0 x1:Sl) (fs:Option FS) (hS:∀ c ∈ Ls,Ps 8 c.1 ∧ Ps 8 c.2):∀ (es:List (Pt × Pt)) (K:List Pt) (x2 x3 x4:Sl),(x2 = .own (K.map pt) ∨ x2 = .val (.lst (K.map pt))) → (∀ e ∈ es,e ∈ Ls ∧ e.1 ≠ e.2) → (∀ q ∈ nbs true K,OnL Ls q.1 q.2) → (∀ z ∈ K,PtS 35 z) → K.length * 2 ^ es.length ≤ 400 →
  ∃ y2 y3 y4,u9 (k6 2 (j5 (c8 3) (j5 (c8 4) l3))) (a2g FCk FEk) (es.map pq) ⟨[x0,x1,x2,x3,x4],fs⟩ = some (.next,⟨[x0,x1,y2,y3,y4],fs⟩) ∧ (y2 = .own ((Q7 K es).map pt) ∨ y2 = .val (.lst ((Q7 K es).map pt))) ∧ ∀ z ∈ Q7 K es,PtS 35 z
 | [],K,x2,x3,x4,h,_,_,hz,_=>⟨x2,x3,x4,rfl,h,hz⟩
 | e :: r,K,x2,x3,x4,h,he,O,hz,hl=>by
  obtain ⟨eL,en⟩:=he e (List.mem_cons_self ..)
  obtain ⟨s1,s2⟩:=hS e eL
  have pts:∀ {z:Pt},Ps 8 z → PtS 120 z:=fun {z} h=>by
   have b1:=h.x; have b3:=h.l; have b2:=h.y
   refine ⟨?_,?_⟩
   ·rw [← b5f z]; exact (Sz.of_divInt (a0N z) b1 b3).mono (by decide)
   ·rw [← b6f z]; exact (Sz.of_divInt (a0N z) b2 b3).mono (by decide)
  have k400:K.length ≤ 400:=Nat.le_trans (Nat.le_mul_of_pos_right _ (Nat.pow_pos (by decide))) hl
  have c:=b6p fs (pts s1) (pts s2) (fun z hz'=>(hz z hz').mono (by decide)) k400
  have O':=b3d en eL O
  have z':=b03 (m:=35) hS eL O (by decide) hz
  have l1:=a60 e.1 e.2 (nbs true K)
  have l2:=T8 true K
  obtain ⟨y2,y3,y4,q,hy,sz⟩:=a6M x0 x1 fs hS r (clL e.1 e.2 (nbs true K)) (.val (.lst ((clL e.1 e.2 (nbs true K)).map pt))) (.val (pt e.1)) (.val (pt e.2)) (.inr rfl) (fun z hz=>he z (List.mem_cons_of_mem _ hz)) O' z' (by
   rw [List.length_cons,Nat.pow_succ] at hl
   refine Nat.le_trans (Nat.mul_le_mul_right (2 ^ r.length) (show (clL e.1 e.2 (nbs true K)).length ≤ K.length * 2 by omega)) ?_
   rw [Nat.mul_assoc,Nat.mul_comm 2]
   exact hl)
  refine ⟨y2,y3,y4,?_,hy,sz⟩
  have st:a2g FCk FEk ⟨[x0,x1,x2,.val (pt e.1),.val (pt e.2)],fs⟩ = some (.next,⟨[x0,x1,.val (.lst ((clL e.1 e.2 (nbs true K)).map pt)),.val (pt e.1),.val (pt e.2)],fs⟩):=by
   rcases h with rfl | rfl
   ·exact u6 (a0m (sl':=[x0,x1,.val (.lst (K.map pt)),.val (pt e.1),.val (pt e.2)]) rfl c) rfl
   ·exact u6 (l7 rfl c) rfl
  rw [List.map_cons,J9 (s1:=⟨[x0,x1,x2,.val (pt e.1),.val (pt e.2)],fs⟩) rfl st,q]
theorem b0T {A B:List Pt} (hA:ShC A) (hB:ShC B) (h1:peI A B 0 A.length = none) (h2:peI B A 0 B.length = none) (fs:Option FS):∃ p,D6 [shT A,shT B] fs = some (pt p,fs) ∧ Ps 70 p ∧ (∀ i,0 ≤ a8 (tk A i) (tk A (i + 1)) p) ∧ ∀ i,0 ≤ a8 (tk B i) (tk B (i + 1)) p:=by
 obtain ⟨p0,I,hp⟩:=b4W hA hB h1 h2
 have b3:=hB.lo
 have a3:=hA.lo
 obtain ⟨k,r,e,c1,c2⟩:=b4p hA.cv (List.length_pos_iff.mp (by omega)) hB.ne I hp
 have nl:=T8 true B
 have lem:∀ {A:List Pt},ShC A → ∀ q ∈ nbs true A,q.1 ≠ q.2 ∧ Ps 8 q.1 ∧ Ps 8 q.2:=fun {A} hA q hq=>by
  have h0:0 < A.length:=by have:=hA.lo; omega
  refine ⟨?_,(hA.sz _ (E6 hq).1).1,(hA.sz _ (E6 hq).2).1⟩
  obtain ⟨i,rfl⟩:=(a0v h0 q).mp hq
  exact fun z=>hA.ne i z.symm
 obtain ⟨y2,y3,y4,q,hy,sz⟩:=a6M (Ls:=nbs true A ++ nbs true B) (.val (shT A)) (.val (shT B)) fs (fun c hc=>by
   rcases List.mem_append.mp hc with w | w
   ·exact (lem hA c w).2
   ·exact (lem hB c w).2) (nbs true B) A (.own (A.map pt)) .no .no (.inl rfl) (fun e he=>⟨List.mem_append_right _ he,(lem hB e he).1⟩) (fun q hq=>⟨q,List.mem_append_left _ hq,(lem hA q hq).1,L3 _ _,Q1 _ _⟩) (fun z hz=>(hA.sz z hz).2) (by
   have h6:(nbs true B).length ≤ 6:=by have:=hB.hi; omega
   have:A.length * 2 ^ (nbs true B).length ≤ 6 * 2 ^ 6:=Nat.mul_le_mul hA.hi (Nat.pow_le_pow_right (by decide) h6)
   omega)
 refine ⟨k,?_,(sz k (by rw [e]; exact List.mem_cons_self ..)).ps,c1,c2⟩
 refine n9 (s:=⟨[.val (shT A),.val (shT B),y2,y3,y4],fs⟩) ?_
 show a35 FCk FEk ⟨[.val (shT A),.val (shT B),.no,.no,.no],fs⟩ = _
 unfold a35
 have hi:=hA.hi
 rw [m7 (s1:=⟨[.val (shT A),.val (shT B),.own (A.map pt),.no,.no],fs⟩) (M6 (i:=2) (s1:=⟨[.val (shT A),.val (shT B),.no,.no,.no],fs⟩) (ds:=A.map pt) rfl (by show 2 < 5; decide))]
 rw [m7 ((a4g (s1:=⟨[.val (shT A),.val (shT B),.own (A.map pt),.no,.no],fs⟩) (ds:=(nbs true B).map pq) (l7 rfl (a2k B fs (by have:=hB.hi; omega)))).trans q)]
 rw [e] at hy
 have ix:pIx (.lst ((k :: r).map pt)) (.int 0) = some (pt k):=(ixL _ _).trans (a8g (n:=0) (by rw [List.map_cons]; rfl))
 rcases hy with rfl | rfl
 ·exact o9 (b9 (x:=.lst ((k :: r).map pt)) rfl rfl ix)
 ·exact o9 (b9 (x:=.lst ((k :: r).map pt)) rfl rfl ix)
structure MeP (A B:List Pt) (p:Pt):Prop where
 sz:Ps 70 p
 a:∀ i,0 ≤ a8 (tk A i) (tk A (i + 1)) p
 b:∀ i,0 ≤ a8 (tk B i) (tk B (i + 1)) p
noncomputable def meD (p:Pt):D:=.tup [.str "meet",pt p]
noncomputable abbrev FTp:DFn:=a39 D6 FPp
theorem a9Q {A B:List Pt} (h:ppD A B = .non):peI A B 0 A.length = none ∧ peI B A 0 B.length = none:=by
 unfold ppD at h
 cases c1:peI A B 0 A.length with
 | some i=>rw [c1] at h; cases h
 | none=>
  cases c2:peI B A 0 B.length with
  | some i=>rw [c1,c2] at h; cases h
  | none=>exact ⟨rfl,rfl⟩
theorem b47 {A B:List Pt} (h:ppD A B ≠ .non):∃ ds,ppD A B = .tup ds:=by
 unfold ppD at *
 cases c1:peI A B 0 A.length with
 | some i=>exact ⟨_,rfl⟩
 | none=>
  cases c2:peI B A 0 B.length with
  | some i=>exact ⟨_,rfl⟩
  | none=>rw [c1,c2] at h; exact absurd rfl h
noncomputable abbrev tpS (x0 x1 x2:Sl) (A:List Pt) (row:List D) (x5 x6:Sl) (fs:Option FS):DS:=⟨[x0,x1,x2,.val (shT A),.own row,x5,x6],fs⟩
theorem a41 {A:List Pt} (hA:ShC A) (x0 x1 x2:Sl) (fs:Option FS):∀ (Os:List (List Pt)) (row:List D) (x5 x6:Sl),(∀ B ∈ Os,ShC B) → row.length + Os.length ≤ 100 →
  ∃ fl y5 y6 row',u9 (c8 5) (P7 D6 FPp) (Os.map shT) (tpS x0 x1 x2 A row x5 x6 fs) = some (fl,tpS x0 x1 x2 A row' y5 y6 fs) ∧ ((fl = .next ∧ row' = row ++ Os.map (ppD A) ∧ ∀ B ∈ Os,ppD A B ≠ .non) ∨ ∃ B ∈ Os,∃ p,fl = .ret (meD p) ∧ MeP A B p)
 | [],row,x5,x6,_,_=>⟨.next,x5,x6,row,rfl,.inl ⟨rfl,by rw [List.map_nil,List.append_nil],fun B hB=>by cases hB⟩⟩
 | B :: r,row,x5,x6,h,hl=>by
  have hB:=h B (List.mem_cons_self ..)
  have e:=b4h hA hB fs
  rw [List.length_cons] at hl
  by_cases q:ppD A B = .non
  ·obtain ⟨q1,q2⟩:=a9Q q
   obtain ⟨p,c,s,c1,c2⟩:=b0T hA hB q1 q2 fs
   rw [q] at e
   refine ⟨.ret (meD p),.val (shT B),.val .non,row,?_,.inr ⟨B,List.mem_cons_self ..,p,rfl,s,c1,c2⟩⟩
   have st:P7 D6 FPp (tpS x0 x1 x2 A row (.val (shT B)) x6 fs) = some (.ret (meD p),tpS x0 x1 x2 A row (.val (shT B)) (.val .non) fs):=by
    unfold P7
    rw [m7 (s1:=tpS x0 x1 x2 A row (.val (shT B)) (.val .non) fs) (u6 (l7 rfl e) rfl)]
    exact B3 ((C4 (s1:=tpS x0 x1 x2 A row (.val (shT B)) (.val .non) fs) (u4 (b9 rfl rfl rfl))).trans (o9 (B2 rfl (l7 rfl c))))
   rw [List.map_cons,W0 (s1:=tpS x0 x1 x2 A row (.val (shT B)) x6 fs) rfl st]
  ·obtain ⟨ds,hd⟩:=b47 q
   obtain ⟨fl,y5,y6,row',f,g⟩:=a41 hA x0 x1 x2 fs r (row ++ [ppD A B]) (.val (shT B)) (.val (ppD A B)) (fun z hz=>h z (List.mem_cons_of_mem _ hz)) (by rw [List.length_append,List.length_singleton]; omega)
   refine ⟨fl,y5,y6,row',?_,?_⟩
   ·have st:P7 D6 FPp (tpS x0 x1 x2 A row (.val (shT B)) x6 fs) = some (.next,tpS x0 x1 x2 A (row ++ [ppD A B]) (.val (shT B)) (.val (ppD A B)) fs):=by
     unfold P7
     rw [m7 (s1:=tpS x0 x1 x2 A row (.val (shT B)) (.val (ppD A B)) fs) (u6 (l7 rfl e) rfl)]
     rw [hd]
     rw [m7 (s1:=tpS x0 x1 x2 A row (.val (shT B)) (.val (.tup ds)) fs) (u5 (u4 (b9 rfl rfl rfl)))]
     exact O7 (i:=4) (s:=tpS x0 x1 x2 A row (.val (shT B)) (.val (.tup ds)) fs) (s1:=tpS x0 x1 x2 A row (.val (shT B)) (.val (.tup ds)) fs) (ds:=row) (ds0:=row) (d:=.tup ds) (f:=dV 6) rfl rfl rfl (Nat.lt_of_le_of_lt (by omega:row.length ≤ 100) (by decide))
    rw [List.map_cons,J9 (s1:=tpS x0 x1 x2 A row (.val (shT B)) x6 fs) rfl st,f]
   ·rcases g with ⟨g1,g2,g3⟩ | ⟨B',hB',p,g1,g2⟩
    ·refine .inl ⟨g1,by rw [g2,List.append_assoc]; rfl,fun z hz=>?_⟩
     rcases List.mem_cons.mp hz with rfl | hz
     ·exact q
     ·exact g3 z hz
    ·exact .inr ⟨B',List.mem_cons_of_mem _ hB',p,g1,g2⟩
noncomputable abbrev tqS (Ss Os:List (List Pt)) (rows:List D) (x3 x4 x5 x6:Sl) (fs:Option FS):DS:=⟨[.val (.tup (Ss.map shT)),.val (.tup (Os.map shT)),.own rows,x3,x4,x5,x6],fs⟩
noncomputable def roD (Os:List (List Pt)) (A:List Pt):D:=.tup (Os.map (ppD A))
theorem a63 {Ss Os:List (List Pt)} (hO:∀ B ∈ Os,ShC B) (lO:Os.length ≤ 50) (fs:Option FS):∀ (Rs:List (List Pt)) (rows:List D) (x3 x4 x5 x6:Sl),(∀ A ∈ Rs,ShC A) → rows.length + Rs.length ≤ 100 →
  ∃ fl y3 y4 y5 y6 rows',u9 (c8 3) (Q6 D6 FPp) (Rs.map shT) (tqS Ss Os rows x3 x4 x5 x6 fs) = some (fl,tqS Ss Os rows' y3 y4 y5 y6 fs) ∧ ((fl = .next ∧ rows' = rows ++ Rs.map (roD Os) ∧ ∀ A ∈ Rs,∀ B ∈ Os,ppD A B ≠ .non) ∨ ∃ A ∈ Rs,∃ B ∈ Os,∃ p,fl = .ret (meD p) ∧ MeP A B p)
 | [],rows,x3,x4,x5,x6,_,_=>⟨.next,x3,x4,x5,x6,rows,rfl,.inl ⟨rfl,by rw [List.map_nil,List.append_nil],fun A hA=>by cases hA⟩⟩
 | A :: r,rows,x3,x4,x5,x6,h,hl=>by
  have hA:=h A (List.mem_cons_self ..)
  rw [List.length_cons] at hl
  obtain ⟨fl,y5,y6,row',f,g⟩:=a41 hA (.val (.tup (Ss.map shT))) (.val (.tup (Os.map shT))) (.own rows) fs Os [] x5 x6 hO (by rw [List.length_nil]; omega)
  have st0:Q6 D6 FPp (tqS Ss Os rows (.val (shT A)) x4 x5 x6 fs) = c7 (C0 (dV 1) (c8 5) (P7 D6 FPp)) (C5 2 (dCB (one M9) (a7 (dL 4) a9))) (tpS (.val (.tup (Ss.map shT))) (.val (.tup (Os.map shT))) (.own rows) A [] x5 x6 fs):=by
   unfold Q6
   rw [m7 (s1:=tpS (.val (.tup (Ss.map shT))) (.val (.tup (Os.map shT))) (.own rows) A [] x5 x6 fs) (M6 (i:=4) (s1:=tqS Ss Os rows (.val (shT A)) x4 x5 x6 fs) (ds:=[]) rfl (by show 4 < 7; decide))]
  have fo:=(S8 (b:=P7 D6 FPp) (t:=c8 5) (f:=dV 1) (s:=tpS (.val (.tup (Ss.map shT))) (.val (.tup (Os.map shT))) (.own rows) A [] x5 x6 fs) (s1:=tpS (.val (.tup (Ss.map shT))) (.val (.tup (Os.map shT))) (.own rows) A [] x5 x6 fs) (ds:=Os.map shT) rfl).trans f
  rcases g with ⟨g1,g2,g3⟩ | ⟨B,hB,p,g1,g2⟩
  ·subst g1
   rw [List.nil_append] at g2
   subst g2
   obtain ⟨fl,z3,z4,z5,z6,rows',q,w⟩:=a63 hO lO fs r (rows ++ [roD Os A]) (.val (shT A)) (.own (Os.map (ppD A))) y5 y6 (fun z hz=>h z (List.mem_cons_of_mem _ hz)) (by rw [List.length_append,List.length_singleton]; omega)
   refine ⟨fl,z3,z4,z5,z6,rows',?_,?_⟩
   ·have st:Q6 D6 FPp (tqS Ss Os rows (.val (shT A)) x4 x5 x6 fs) = some (.next,tqS Ss Os (rows ++ [roD Os A]) (.val (shT A)) (.own (Os.map (ppD A))) y5 y6 fs):=by
     rw [st0,m7 fo]
     exact O7 (i:=2) (s:=tpS (.val (.tup (Ss.map shT))) (.val (.tup (Os.map shT))) (.own rows) A (Os.map (ppD A)) y5 y6 fs) (s1:=tpS (.val (.tup (Ss.map shT))) (.val (.tup (Os.map shT))) (.own rows) A (Os.map (ppD A)) y5 y6 fs) (ds:=rows) (ds0:=rows) (d:=roD Os A) rfl (a1h (x:=.lst (Os.map (ppD A))) rfl rfl) rfl (Nat.lt_of_le_of_lt (by omega:rows.length ≤ 100) (by decide))
    rw [List.map_cons,J9 (s1:=tqS Ss Os rows (.val (shT A)) x4 x5 x6 fs) rfl st,q]
   ·rcases w with ⟨w1,w2,w3⟩ | ⟨A',hA',B,hB,p,w1,w2⟩
    ·refine .inl ⟨w1,by rw [w2,List.append_assoc]; rfl,fun z hz=>?_⟩
     rcases List.mem_cons.mp hz with rfl | hz
     ·exact g3
     ·exact w3 z hz
    ·exact .inr ⟨A',List.mem_cons_of_mem _ hA',B,hB,p,w1,w2⟩
  ·subst g1
   refine ⟨.ret (meD p),.val (shT A),.own row',y5,y6,rows,?_,.inr ⟨A,List.mem_cons_self ..,B,hB,p,rfl,g2⟩⟩
   have st:Q6 D6 FPp (tqS Ss Os rows (.val (shT A)) x4 x5 x6 fs) = some (.ret (meD p),tqS Ss Os rows (.val (shT A)) (.own row') y5 y6 fs):=by
    rw [st0]
    exact B3 fo
   rw [List.map_cons,W0 (s1:=tqS Ss Os rows (.val (shT A)) x4 x5 x6 fs) rfl st]
noncomputable def apD (Ss Os:List (List Pt)):D:=.tup [.str "apart",.tup (Ss.map (roD Os))]
theorem a1A {Ss Os:List (List Pt)} (hS:∀ A ∈ Ss,ShC A) (hO:∀ B ∈ Os,ShC B) (lS:Ss.length ≤ 50) (lO:Os.length ≤ 50) (fs:Option FS) :
  (FTp [.tup (Ss.map shT),.tup (Os.map shT)] fs = some (apD Ss Os,fs) ∧ ∀ A ∈ Ss,∀ B ∈ Os,ppD A B ≠ .non) ∨ ∃ A ∈ Ss,∃ B ∈ Os,∃ p,FTp [.tup (Ss.map shT),.tup (Os.map shT)] fs = some (meD p,fs) ∧ MeP A B p:=by
 obtain ⟨fl,y3,y4,y5,y6,rows',f,g⟩:=a63 (Ss:=Ss) hO lO fs Ss [] .no .no .no .no hS (by rw [List.length_nil]; omega)
 have fo:=(S8 (b:=Q6 D6 FPp) (t:=c8 3) (f:=dV 0) (s:=tqS Ss Os [] .no .no .no .no fs) (s1:=tqS Ss Os [] .no .no .no .no fs) (ds:=Ss.map shT) rfl).trans f
 have st0:U7 D6 FPp ⟨[.val (.tup (Ss.map shT)),.val (.tup (Os.map shT)),.no,.no,.no,.no,.no],fs⟩ = c7 (C0 (dV 0) (c8 3) (Q6 D6 FPp)) (e7 (e6 (a7 (dC (.str "apart")) (a7 (dCB (one M9) (a7 (dL 2) a9)) a9)))) (tqS Ss Os [] .no .no .no .no fs):=by
  unfold U7
  rw [m7 (s1:=tqS Ss Os [] .no .no .no .no fs) (M6 (i:=2) (s1:=⟨[.val (.tup (Ss.map shT)),.val (.tup (Os.map shT)),.no,.no,.no,.no,.no],fs⟩) (ds:=[]) rfl (by show 2 < 7; decide))]
 rcases g with ⟨g1,g2,g3⟩ | ⟨A,hA,B,hB,p,g1,g2⟩
 ·subst g1
  rw [List.nil_append] at g2
  subst g2
  refine .inl ⟨n9 (s:=tqS Ss Os (Ss.map (roD Os)) y3 y4 y5 y6 fs) ?_,g3⟩
  show U7 D6 FPp ⟨[.val (.tup (Ss.map shT)),.val (.tup (Os.map shT)),.no,.no,.no,.no,.no],fs⟩ = _
  rw [st0,m7 fo]
  exact o9 (B2 rfl (a1h (x:=.lst (Ss.map (roD Os))) rfl rfl))
 ·subst g1
  refine .inr ⟨A,hA,B,hB,p,n9 (s:=tqS Ss Os rows' y3 y4 y5 y6 fs) ?_,g2⟩
  show U7 D6 FPp ⟨[.val (.tup (Ss.map shT)),.val (.tup (Os.map shT)),.no,.no,.no,.no,.no],fs⟩ = _
  rw [st0]
  exact B3 fo
theorem b00 {A:List Pt} (hA:ShC A):ppD A A = .non:=by
 have h3:=hA.lo
 have n:peI A A 0 A.length = none:=by
  cases c:peI A A 0 A.length with
  | none=>rfl
  | some i=>
   obtain ⟨_,_,q⟩:=a0Y _ _ _ c
   unfold poB at q
   rw [List.all_eq_true] at q
   have:=of_decide_eq_true (q (tk A i) (G8 (l:=A) i (by omega)))
   have:=(G7 _).mp this
   rw [L3] at this
   exact absurd this (by decide +kernel)
 unfold ppD
 rw [n]
theorem m8 {a b:DM} {s s1:DS} {r:Option (Fl × DS)} (h:a s = some (.next,s1)) (k:b s1 = r):c7 a b s = r:=(m7 h).trans k
theorem C8 {p:D → Option D} {a:DE} {s s1:DS} {x z:D} (h1:a s = some (x,s1)) (h3:p x = some z):dUn p a s = some (z,s1):=by
 simp [dUn,h1,h3]
theorem a6j (a:Pt):B6 (pt a) = true:=by
 show (decide (1 ≤ pL a) && decide (Int.gcd (Int.gcd (pX a) (pY a):Int) (pL a) = 1)) = true
 have:=a0R a
 rw [decide_eq_true (by omega),decide_eq_true (a9s a)]
 rfl
theorem a1l {a b:DE} {s s1:DS} {r:Option (D × DS)} (h1:a s = some (.bl true,s1)) (h2:b s1 = r):o8 a b s = r:=by
 unfold o8; rw [u4 h1]; exact h2
theorem a5Q {p p':D → D → Option D} {fa fb fc:DE} {s:DS} {x y z w:D} (h1:fa s = some (x,s)) (h2:fb s = some (y,s)) (h3:p x y = some (.bl true)) (h4:fc s = some (z,s)) (h5:p' y z = some w):S4 p p' fa fb fc s = some (w,s):=by
 unfold S4
 rw [h1,Option.bind_some,h2,Option.bind_some,h3,Option.bind_some]
 show ((fc s).bind fun w=>(p' y w.1).map fun d=>(d,w.2)) = _
 rw [h4,Option.bind_some,h5]
 rfl
theorem P0 (i:Int):pNe (.int i) (.int i) = some (.bl false):=by rw [N6,decide_eq_true rfl]; rfl
theorem a0T {x y:D} {sl:List Sl} {fs:Option FS} {i:Nat} (h:dL i ⟨sl,fs⟩ = some (.tup [x,y],⟨sl,fs⟩)):dOr (j7 (dTr (dUn (u7 "tuple") (dL i)))) (dB (dOp pNe (dCB (one i9) (a7 (dL i) a9)) (dC (.int 2)))) ⟨sl,fs⟩ = some (false,⟨sl,fs⟩):=
 B0 (B4 (b:=true) (w9 (C8 h rfl))) (O8 (A4 (o6 h rfl) rfl) rfl rfl)
noncomputable abbrev FSf:DFn:=a2J FIP
theorem b5X {p:Pt} (fs:Option FS) (hp:Ps 70 p):FSf [meD p] fs = some (.bl true,fs):=by
 have e:=b2c (pt p) fs (a71 hp (Nat.le_refl _)) (by rw [a8v]; decide)
 rw [a6j] at e
 refine n9 (s:=⟨[.val (meD p)],fs⟩) ?_
 show Z2 FIP ⟨[.val (meD p)],fs⟩ = _
 unfold Z2
 exact m8 (u5 (a0T rfl)) (B3 ((C4 (u4 (b9 (b9 rfl rfl rfl) rfl rfl))).trans (o9 (l7 (o6 (b9 rfl rfl rfl) rfl) e))))
theorem b1S {rs:List D} (fs:Option FS):FSf [.tup [.str "apart",.tup rs]] fs = some (.bl true,fs):=by
 refine n9 (s:=⟨[.val (.tup [.str "apart",.tup rs])],fs⟩) ?_
 show Z2 FIP ⟨[.val (.tup [.str "apart",.tup rs])],fs⟩ = _
 unfold Z2
 exact m8 (u5 (a0T rfl)) (m8 (u5 (u4 (b9 (b9 rfl rfl rfl) rfl rfl))) (o9 (a1l (b9 (b9 rfl rfl rfl) rfl rfl) (C8 (b9 rfl rfl rfl) rfl))))
noncomputable abbrev FLm:DFn:=a3q FAa
theorem a53 {A:List Pt} {p:Pt} (h:∀ i,0 ≤ a8 (tk A i) (tk A (i + 1)) p):inB A p = true:=by
 unfold inB
 rw [List.all_eq_true]
 intro q hq
 obtain ⟨i,hi⟩:=List.getElem?_of_mem hq
 have il:i < A.length:=by
  have:=(List.getElem?_eq_some_iff.mp hi).1
  exact Nat.lt_of_lt_of_le this (T8 true A)
 rw [Y5 il] at hi
 cases hi
 rw [Bool.not_eq_true',decide_eq_false_iff_not,G7]
 exact Rat.not_lt.mpr (h i)
theorem a9j {Ss Os:List (List Pt)} {A B:List Pt} {p:Pt} (hS:∀ A ∈ Ss,ShC A) (hO:∀ B ∈ Os,ShC B) (hA:A ∈ Ss) (hB:B ∈ Os) (m:MeP A B p) (fs:Option FS):FLm [.tup (Ss.map shT),.tup (Os.map shT),pt p] fs = some (.bl true,fs):=by
 have g:∀ {Ss:List (List Pt)},(∀ A ∈ Ss,ShC A) → ∀ A ∈ Ss,A.length ≤ 1000 ∧ ∀ z ∈ A,Ps 70 z:=fun h A hA=>⟨by have:=(h A hA).hi; omega,(h A hA).ps⟩
 have e1:=a89 fs m.sz (g hS) (by decide)
 have e2:=a89 fs m.sz (g hO) (by decide)
 rw [List.any_eq_true.mpr ⟨A,hA,a53 m.a⟩] at e1
 rw [List.any_eq_true.mpr ⟨B,hB,a53 m.b⟩] at e2
 generalize D.tup (Ss.map shT) = X at *
 generalize D.tup (Os.map shT) = Y at *
 refine n9 (s:=⟨[.val X,.val Y,.val (pt p)],fs⟩) ?_
 show a0C FAa ⟨[.val X,.val Y,.val (pt p)],fs⟩ = _
 unfold a0C
 exact m8 (u5 (B0 (B4 (b:=true) (w9 (l7 rfl e1))) (B4 (b:=true) (w9 (l7 rfl e2))))) (o9 rfl)
noncomputable abbrev FEn:DFn:=a2f M4
theorem a6q {A:List Pt} {i:Nat} (h:i < A.length) (fs:Option FS):FEn [shT A,.int (i:Int)] fs = some (.bl true,fs):=by
 have e:M4 [.int (i:Int)] fs = some (.bl true,fs):=a4S (.int (i:Int)) fs rfl
 have l:one i9 [shT A] = some (.int (A.length:Int)):=by
  show some (D.int ((A.map pt).length:Int)) = _
  rw [List.length_map]
 have c1:j6 (fun i j=>decide (i ≤ j)) (.int 0) (.int (i:Int)) = some (.bl true):=by
  show some (D.bl (decide ((0:Int) ≤ (i:Int)))) = _
  rw [decide_eq_true (by omega)]
 have c2:j6 (fun i j=>decide (i < j)) (.int (i:Int)) (.int (A.length:Int)) = some (.bl true):=by
  show some (D.bl (decide ((i:Int) < (A.length:Int)))) = _
  rw [decide_eq_true (by omega)]
 generalize shT A = S at *
 exact n9 (s:=⟨[.val S,.val (.int (i:Int))],fs⟩) (o9 (a1l (l7 rfl e) (a5Q rfl rfl c1 (A4 rfl l) c2)))
noncomputable abbrev FIg:DFn:=a3F FPo FEn
inductive PpI (A B:List Pt):D → Prop
 | one {i:Nat} (h:i < A.length) (p:poB A i B = true):PpI A B (.tup [.str "one",.int (i:Int)])
 | oth {i:Nat} (h:i < B.length) (p:poB B i A = true):PpI A B (.tup [.str "other",.int (i:Int)])
theorem a5h {A B:List Pt} (h:ppD A B ≠ .non):PpI A B (ppD A B):=by
 unfold ppD at *
 cases c1:peI A B 0 A.length with
 | some i=>
  obtain ⟨_,b,d⟩:=a0Y _ _ _ c1
  exact .one (by omega) d
 | none=>
  cases c2:peI B A 0 B.length with
  | some i=>
   obtain ⟨_,b,d⟩:=a0Y _ _ _ c2
   exact .oth (by omega) d
  | none=>rw [c1,c2] at h; exact absurd rfl h
theorem b2v {A B:List Pt} (hA:ShC A) (hB:ShC B) {d:D} (h:PpI A B d) (fs:Option FS):FIg [shT A,shT B,d] fs = some (.bl true,fs):=by
 have a6:=hA.hi
 have b6:=hB.hi
 cases h with
 | @one i h p=>
  have e1:=a6q h fs
  have e2:=a18 fs hA.ps hB.ps (by decide) h (by omega)
  rw [p] at e2
  generalize shT A = X at *
  generalize shT B = Y at *
  refine n9 (s:=⟨[.val X,.val Y,.val (.tup [.str "one",.int (i:Int)])],fs⟩) ?_
  show X9 FPo FEn ⟨[.val X,.val Y,.val (.tup [.str "one",.int (i:Int)])],fs⟩ = _
  unfold X9
  exact m8 (u5 (a0T rfl)) (B3 ((C4 (u4 (b9 (b9 rfl rfl rfl) rfl rfl))).trans (o9 (a1l (l7 (o6 rfl (o6 (b9 rfl rfl rfl) rfl)) e1) (l7 (o6 rfl (o6 (b9 rfl rfl rfl) rfl)) e2)))))
 | @oth i h p=>
  have e1:=a6q h fs
  have e2:=a18 fs hB.ps hA.ps (by decide) h (by omega)
  rw [p] at e2
  generalize shT A = X at *
  generalize shT B = Y at *
  refine n9 (s:=⟨[.val X,.val Y,.val (.tup [.str "other",.int (i:Int)])],fs⟩) ?_
  show X9 FPo FEn ⟨[.val X,.val Y,.val (.tup [.str "other",.int (i:Int)])],fs⟩ = _
  unfold X9
  exact m8 (u5 (a0T rfl)) (m8 (u5 (u4 (b9 (b9 rfl rfl rfl) rfl rfl))) (B3 ((C4 (u4 (b9 (b9 rfl rfl rfl) rfl rfl))).trans (o9 (a1l (l7 (o6 rfl (o6 (b9 rfl rfl rfl) rfl)) e1) (l7 (o6 rfl (o6 (b9 rfl rfl rfl) rfl)) e2))))))
noncomputable abbrev FLa:DFn:=a3m FIg
theorem a6U {A:List Pt} (hA:ShC A) (x0 x1 x2 x4:Sl) {k:D} (fs:Option FS) (h0:∀ x1 x2 x4 x5 x6:Sl,dOp pIx (dL 0) (dL 3) ⟨[x0,x1,x2,.val k,x4,x5,x6],fs⟩ = some (shT A,⟨[x0,x1,x2,.val k,x4,x5,x6],fs⟩)):∀ (Os:List (List Pt)) (x5 x6:Sl),(∀ B ∈ Os,ShC B ∧ ppD A B ≠ .non) →
  ∃ y5 y6,u9 (k6 2 (j5 (c8 5) (j5 (c8 6) l3))) (a5G FIg) (List.zipWith G6 (Os.map (ppD A)) (Os.map shT)) ⟨[x0,x1,x2,.val k,x4,x5,x6],fs⟩ = some (.next,⟨[x0,x1,x2,.val k,x4,y5,y6],fs⟩)
 | [],x5,x6,_=>⟨x5,x6,rfl⟩
 | B :: r,x5,x6,h=>by
  obtain ⟨hB,hp⟩:=h B (List.mem_cons_self ..)
  have e:=b2v hA hB (a5h hp) fs
  obtain ⟨y5,y6,f⟩:=a6U hA x0 x1 x2 x4 fs h0 r (.val (ppD A B)) (.val (shT B)) fun z hz=>h z (List.mem_cons_of_mem _ hz)
  refine ⟨y5,y6,?_⟩
  rw [List.map_cons,List.map_cons,List.zipWith_cons_cons]
  exact (J9 (s1:=⟨[x0,x1,x2,.val k,x4,.val (ppD A B),.val (shT B)],fs⟩) rfl (u5 (B4 (b:=true) (w9 (l7 (o6 (h0 ..) rfl) e))))).trans f
theorem b20 {Ss Os:List (List Pt)} (hS:∀ A ∈ Ss,ShC A) (hO:∀ B ∈ Os,ShC B) (hp:∀ A ∈ Ss,∀ B ∈ Os,ppD A B ≠ .non) (fs:Option FS):FLa [.tup (Ss.map shT),.tup (Os.map shT),.tup (Ss.map (roD Os))] fs = some (.bl true,fs):=by
 obtain ⟨s',e,y3,y4,y5,y6,rfl⟩:=V4 (t:=k6 2 (j5 (c8 3) (j5 (c8 4) l3))) (b:=a6A FIg) (fun _ s=>∃ x3 x4 x5 x6,s = ⟨[.val (.tup (Ss.map shT)),.val (.tup (Os.map shT)),.val (.tup (Ss.map (roD Os))),x3,x4,x5,x6],fs⟩) (M1 (Ss.map (roD Os))) 0
  ⟨[.val (.tup (Ss.map shT)),.val (.tup (Os.map shT)),.val (.tup (Ss.map (roD Os))),.no,.no,.no,.no],fs⟩ ⟨_,_,_,_,rfl⟩ (by
   rintro i d s hd ⟨x3,x4,x5,x6,rfl⟩
   have il:i < Ss.length:=by
    have:=(List.getElem?_eq_some_iff.mp hd).1
    unfold M1 at this
    rw [List.length_map,List.length_zipIdx,List.length_map] at this
    exact this
   have g:Ss[i]? = some Ss[i]:=List.getElem?_eq_getElem il
   have hm:Ss[i] ∈ Ss:=List.getElem_mem il
   have g2:(Ss.map (roD Os))[i]? = some (roD Os Ss[i]):=by rw [List.getElem?_map,g]; rfl
   rw [a7r g2] at hd
   cases hd
   have ix:pIx (.tup (Ss.map shT)) (.int (i:Int)) = some (shT Ss[i]):=by
    exact (ixT _ _).trans (N3 (by rw [List.getElem?_map,g]; rfl))
   generalize Ss[i] = A at *
   have hA:=hS A hm
   obtain ⟨y5,y6,f⟩:=a6U hA (.val (.tup (Ss.map shT))) (.val (.tup (Os.map shT))) (.val (.tup (Ss.map (roD Os)))) (.val (roD Os A)) (k:=.int (i:Int)) fs (fun _ _ _ _ _=>b9 rfl rfl ix) Os x5 x6 fun B hB=>⟨hO B hB,hp A hm B hB⟩
   refine ⟨⟨[.val (.tup (Ss.map shT)),.val (.tup (Os.map shT)),.val (.tup (Ss.map (roD Os))),.val (.int (i:Int)),.val (roD Os A),x5,x6],fs⟩,⟨[.val (.tup (Ss.map shT)),.val (.tup (Os.map shT)),.val (.tup (Ss.map (roD Os))),.val (.int (i:Int)),.val (roD Os A),y5,y6],fs⟩,rfl,.inl (m8 (u5 (B0 (B4 (b:=true) (w9 (C8 rfl rfl))) (O8 (A4 rfl (d:=.int (Os.length:Int)) ?_) (A4 rfl (d:=.int (Os.length:Int)) ?_) (P0 _)))) ?_),_,_,_,_,rfl⟩
   ·show some (D.int ((Os.map (ppD A)).length:Int)) = _
    rw [List.length_map]
   ·show some (D.int ((Os.map shT).length:Int)) = _
    rw [List.length_map]
   ·exact f)
 refine n9 (s:=⟨[.val (.tup (Ss.map shT)),.val (.tup (Os.map shT)),.val (.tup (Ss.map (roD Os))),y3,y4,y5,y6],fs⟩) ?_
 show a2P FIg ⟨[.val (.tup (Ss.map shT)),.val (.tup (Os.map shT)),.val (.tup (Ss.map (roD Os))),.no,.no,.no,.no],fs⟩ = _
 unfold a2P
 refine m8 (s1:=⟨[.val (.tup (Ss.map shT)),.val (.tup (Os.map shT)),.val (.tup (Ss.map (roD Os))),.no,.no,.no,.no],fs⟩) (u5 (O8 (A4 rfl (d:=.int (Ss.length:Int)) ?_) (A4 rfl (d:=.int (Ss.length:Int)) ?_) (P0 _))) (m8 ((b1E rfl).trans e) (o9 rfl))
 ·show some (D.int ((Ss.map (roD Os)).length:Int)) = _
  rw [List.length_map]
 ·show some (D.int ((Ss.map shT).length:Int)) = _
  rw [List.length_map]
noncomputable abbrev FLt:DFn:=a3M FLa FLm FSf
theorem b6K {Ss Os:List (List Pt)} {A B:List Pt} {p:Pt} (hS:∀ A ∈ Ss,ShC A) (hO:∀ B ∈ Os,ShC B) (hA:A ∈ Ss) (hB:B ∈ Os) (m:MeP A B p) (fs:Option FS):FLt [.tup (Ss.map shT),.tup (Os.map shT),meD p] fs = some (.bl true,fs):=by
 have e1:=b5X fs m.sz
 have e2:=a9j hS hO hA hB m fs
 generalize D.tup (Ss.map shT) = X at *
 generalize D.tup (Os.map shT) = Y at *
 refine n9 (s:=⟨[.val X,.val Y,.val (meD p)],fs⟩) ?_
 show W4 FLa FLm FSf ⟨[.val X,.val Y,.val (meD p)],fs⟩ = _
 unfold W4
 exact m8 (u5 (B4 (b:=true) (w9 (l7 rfl e1)))) (B3 ((C4 (u4 (b9 (b9 rfl rfl rfl) rfl rfl))).trans (o9 (l7 (o6 rfl (o6 rfl (o6 (b9 rfl rfl rfl) rfl))) e2))))
theorem a8D {Ss Os:List (List Pt)} (hS:∀ A ∈ Ss,ShC A) (hO:∀ B ∈ Os,ShC B) (hp:∀ A ∈ Ss,∀ B ∈ Os,ppD A B ≠ .non) (fs:Option FS):FLt [.tup (Ss.map shT),.tup (Os.map shT),apD Ss Os] fs = some (.bl true,fs):=by
 have e1:=b1S (rs:=Ss.map (roD Os)) fs
 have e2:=b20 hS hO hp fs
 unfold apD
 generalize D.tup (Ss.map shT) = X at *
 generalize D.tup (Os.map shT) = Y at *
 generalize Ss.map (roD Os) = R at *
 refine n9 (s:=⟨[.val X,.val Y,.val (.tup [.str "apart",.tup R])],fs⟩) ?_
 show W4 FLa FLm FSf ⟨[.val X,.val Y,.val (.tup [.str "apart",.tup R])],fs⟩ = _
 unfold W4
 exact m8 (u5 (B4 (b:=true) (w9 (l7 rfl e1)))) (m8 (u5 (u4 (b9 (b9 rfl rfl rfl) rfl rfl))) (o9 (l7 (o6 rfl (o6 rfl (o6 (b9 rfl rfl rfl) rfl))) e2)))
theorem isg {n:Int} {r:Rat} (h:F7 n = sgn r):(n < 0 ↔ r < 0) ∧ (n = 0 ↔ r = 0) ∧ (0 < n ↔ 0 < r):=by
 unfold F7 sgn at h
 by_cases a:0 < n
 ·by_cases b:0 < r
  ·exact ⟨by constructor <;> intro <;> grind,by constructor <;> intro <;> grind,by simp [a,b]⟩
  ·rw [if_pos a,if_neg b] at h
   split at h <;> omega
 ·by_cases b:0 < r
  ·rw [if_neg a,if_pos b] at h
   split at h <;> omega
  ·rw [if_neg a,if_neg b] at h
   by_cases c:n < 0
   ·by_cases d:r < 0
    ·exact ⟨by simp [c,d],by constructor <;> intro <;> grind,by simp [a,b]⟩
    ·rw [if_pos c,if_neg d] at h; omega
   ·by_cases d:r < 0
    ·rw [if_neg c,if_pos d] at h; omega
    ·exact ⟨by simp [c,d],by constructor <;> intro <;> grind,by simp [a,b]⟩
theorem sgX (A B:Pt):F7 (pX A * pL B - pX B * pL A) = sgn (A.1 - B.1):=a1K (c:=(pL A:Rat) * pL B) (a0n (M5 A) (M5 B)) (by
 rw [Rat.intCast_sub,Rat.intCast_mul,Rat.intCast_mul,L6,L6]; grind)
theorem sgY (A B:Pt):F7 (pY A * pL B - pY B * pL A) = sgn (A.2 - B.2):=a1K (c:=(pL A:Rat) * pL B) (a0n (M5 A) (M5 B)) (by
 rw [Rat.intCast_sub,Rat.intCast_mul,Rat.intCast_mul,L5,L5]; grind)
noncomputable abbrev D3 (A B P:Pt):Int:=pX A * (pY B * pL P - pL B * pY P) - pY A * (pX B * pL P - pL B * pX P) + pL A * (pX B * pY P - pY B * pX P)
theorem a7j (A B P:Pt):F7 (D3 A B P) = sgn (a8 A B P):=a1K (c:=(pL A:Rat) * pL B * pL P) (a0n (a0n (M5 A) (M5 B)) (M5 P)) (by
 unfold D3 a8
 simp only [Rat.intCast_sub,Rat.intCast_add,Rat.intCast_mul,L6,L5]; grind)
theorem b6L (A B:Pt):(decide (pX A * pL B - pX B * pL A < 0) || (decide (pX A * pL B - pX B * pL A = 0) && decide (pY A * pL B < pY B * pL A))) = lsB A B:=by
 obtain ⟨h1,h2,_⟩:=isg (sgX A B)
 obtain ⟨g1,_,_⟩:=isg (sgY A B)
 unfold lsB
 congr 1
 ·rw [decide_eq_decide,h1]; constructor <;> intro <;> grind
 ·congr 1
  ·rw [decide_eq_decide,h2]; constructor <;> intro <;> grind
  ·rw [decide_eq_decide]
   constructor
   ·intro h
    have:=g1.mp (by omega)
    grind
   ·intro h
    have:=g1.mpr (by grind)
    omega
theorem b1Z {x y z u v w:Int} (fs:Option FS) (m1:o7 (.int x) (.int w) = some (.int (x * w))) (m2:o7 (.int u) (.int z) = some (.int (u * z))) (m3:o7 (.int y) (.int w) = some (.int (y * w))) (m4:o7 (.int v) (.int z) = some (.int (v * z))) :
  Q8 [.tup [.int x,.int y,.int z],.tup [.int u,.int v,.int w]] fs = some (.bl (decide (x * w - u * z < 0) || (decide (x * w - u * z = 0) && decide (y * w < v * z))),fs):=by
 refine n9 (s:=⟨[.val (.tup [.int x,.int y,.int z]),.val (.tup [.int u,.int v,.int w]),.val (.int (x * w - u * z))],fs⟩) ?_
 show a1z ⟨[.val (.tup [.int x,.int y,.int z]),.val (.tup [.int u,.int v,.int w]),.no],fs⟩ = _
 unfold a1z
 rw [m7 (s1:=⟨[.val (.tup [.int x,.int y,.int z]),.val (.tup [.int u,.int v,.int w]),.val (.int (x * w - u * z))],fs⟩) (u6 (b9 (b9 rfl rfl m1) (b9 rfl rfl m2) rfl) rfl)]
 refine o9 ?_
 generalize x * w - u * z = n
 by_cases h1:n < 0
 ·simp [c7,p7,e8,dOp,dUn,dC,dL,dV,c8,i7,dB,e7,e5,a7,a9,e6,i8,dCB,one,j8,m6,dIf,n8,dOr,j7,o8,p9,r8,j4,l8,j9,j6,i9,k6,j5,l3,o0,dTr,p8,ixT,ixL,A0,A1,w6,y9,w5,h1]
 ·by_cases h2:n = 0
  ·subst h2
   simp [c7,p7,e8,dOp,dUn,dC,dL,dV,c8,i7,dB,e7,e5,a7,a9,e6,i8,dCB,one,j8,m6,dIf,n8,dOr,j7,o8,p9,r8,j4,l8,j9,j6,i9,k6,j5,l3,o0,dTr,p8,ixT,ixL,A0,A1,w6,y9,w5,R8,a8m,a7A,a0V,m3,m4]
  ·simp [c7,p7,e8,dOp,dUn,dC,dL,dV,c8,i7,dB,e7,e5,a7,a9,e6,i8,dCB,one,j8,m6,dIf,n8,dOr,j7,o8,p9,r8,j4,l8,j9,j6,i9,k6,j5,l3,o0,dTr,p8,ixT,ixL,A0,A1,w6,y9,w5,h1,h2,R8]
theorem b6x {k:Nat} (A B:Pt) (fs:Option FS) (hA:Ps k A) (hB:Ps k B) (hk:k ≤ 1000):Q8 [pt A,pt B] fs = some (.bl (lsB A B),fs):=by
 have b:∀ {i:Int},Bd k i → v7 i = true:=fun h=>h.bits (by omega)
 rw [← b6L]
 exact b1Z fs (T2 (b hA.x) (b hB.l)) (T2 (b hB.x) (b hA.l)) (T2 (b hA.y) (b hB.l)) (T2 (b hB.y) (b hA.l))
theorem a9m {j:Nat} {x y z u v w a b c:Int} (hj:j ≤ 100) (hx:Bd j x) (hy:Bd j y) (hz:Bd j z) (hu:Bd j u) (hv:Bd j v) (hw:Bd j w) (ha:Bd j a) (hb:Bd j b) (hc:Bd j c) (fs:Option FS) :
  G1 [.tup [.int x,.int y,.int z],.tup [.int u,.int v,.int w],.tup [.int a,.int b,.int c]] fs = some (.int (x * (v * c - w * b) - y * (u * c - w * a) + z * (u * b - v * a)),fs):=by
 have m:∀ {i l:Int},Bd j i → Bd j l → o7 (.int i) (.int l) = some (.int (i * l)):=fun h1 h2=>T2 (h1.bits (by omega)) (h2.bits (by omega))
 have q:∀ {i l k n:Int},Bd j i → Bd j l → Bd j k → Bd j n → v7 (i * l - k * n) = true:=fun h1 h2 h3 h4=>((h1.mul h2).sub (h3.mul h4)).bits (by omega)
 have mq:∀ {e i l k n:Int},Bd j e → Bd j i → Bd j l → Bd j k → Bd j n → o7 (.int e) (.int (i * l - k * n)) = some (.int (e * (i * l - k * n))):=fun h0 h1 h2 h3 h4=>T2 (h0.bits (by omega)) (q h1 h2 h3 h4)
 refine n9 (s:=⟨[.val (.tup [.int x,.int y,.int z]),.val (.tup [.int u,.int v,.int w]),.val (.tup [.int a,.int b,.int c]),.val (.int (x * (v * c - w * b))),.val (.int (y * (u * c - w * a)))],fs⟩) ?_
 show a0E ⟨[.val (.tup [.int x,.int y,.int z]),.val (.tup [.int u,.int v,.int w]),.val (.tup [.int a,.int b,.int c]),.no,.no],fs⟩ = _
 unfold a0E
 rw [m7 (s1:=⟨[.val (.tup [.int x,.int y,.int z]),.val (.tup [.int u,.int v,.int w]),.val (.tup [.int a,.int b,.int c]),.val (.int (x * (v * c - w * b))),.no],fs⟩)
  (u6 (b9 rfl (b9 (b9 rfl rfl (m hv hc)) (b9 rfl rfl (m hw hb)) rfl) (mq hx hv hc hw hb)) rfl),
  m7 (s1:=⟨[.val (.tup [.int x,.int y,.int z]),.val (.tup [.int u,.int v,.int w]),.val (.tup [.int a,.int b,.int c]),.val (.int (x * (v * c - w * b))),.val (.int (y * (u * c - w * a)))],fs⟩)
  (u6 (b9 rfl (b9 (b9 rfl rfl (m hu hc)) (b9 rfl rfl (m hw ha)) rfl) (mq hy hu hc hw ha)) rfl)]
 exact o9 (b9 (b9 rfl rfl rfl) (b9 rfl (b9 (b9 rfl rfl (m hu hb)) (b9 rfl rfl (m hv ha)) rfl) (mq hz hu hb hv ha)) rfl)
theorem a5u {k:Nat} (A B P:Pt) (fs:Option FS) (hA:Ps k A) (hB:Ps k B) (hP:Ps k P) (hk:k ≤ 100):G1 [pt A,pt B,pt P] fs = some (.int (D3 A B P),fs):=
 a9m hk hA.x hA.y hA.l hB.x hB.y hB.l hP.x hP.y hP.l fs
theorem b2y (bs:List Bool):pIn (.bl true) (.lst (bs.map .bl)) = some (.bl (bs.any id)):=by
 have h1:t6 (.bl true) = true:=rfl
 have h2:t6 (.lst (bs.map .bl)) = true:=by
  have:=Ok.lst (OkL.all (k:=0) (n:=0) (ds:=bs.map D.bl) (fun d hd=>by
   obtain ⟨b,_,rfl⟩:=List.mem_map.mp hd
   exact Ok.bl b))
  exact this.eq
 have h3:inD (.bl true) (bs.map .bl) = bs.any id:=by
  clear h2
  induction bs with
  | nil=>rfl
  | cons b r ih=>
   simp only [List.map_cons,inD,D.pys,D.py,List.any_cons] at ih ⊢
   cases b
   ·simpa [PyData.eqv] using ih
   ·rfl
 simp only [pIn,L9,h1,h2,Bool.and_self,if_true,id,h3]
theorem b37 {is:List Int} (h:0 < is.length):one a4a [.lst (is.map D.int)] = some (.int (K2 is)):=by
 show ((K4 (is.map D.int)).bind fun is=>if 0 < is.length then some (D.int (K2 is)) else none) = _
 rw [a2i,Option.bind_some,if_pos h]
theorem b1B {is:List Int} (h:0 < is.length):one a0u [.lst (is.map D.int)] = some (.int (J8 is)):=by
 show ((K4 (is.map D.int)).bind fun is=>if 0 < is.length then some (D.int (J8 is)) else none) = _
 rw [a2i,Option.bind_some,if_pos h]
theorem b3c {is:List Int} (h:0 < is.length):K2 is ∈ is:=by
 cases is with
 | nil=>cases h
 | cons i r=>
  show r.foldl min i ∈ i :: r
  rcases (a2q r i).1 with q | q
  ·rw [q]; exact List.mem_cons_self ..
  ·exact List.mem_cons_of_mem _ q
theorem b3q {is:List Int} (h:0 < is.length):J8 is ∈ is:=by
 cases is with
 | nil=>cases h
 | cons i r=>
  show r.foldl max i ∈ i :: r
  rcases (a3Q r i).1 with q | q
  ·rw [q]; exact List.mem_cons_self ..
  ·exact List.mem_cons_of_mem _ q
theorem b18 {a b p:Pt} (h:0 ≤ a8 a b p):0 ≤ D3 a b p:=by
 have e:=a7j a b p
 rcases Int.lt_or_le (D3 a b p) 0 with q | q
 ·have e2:F7 (D3 a b p) = -1:=by unfold F7; rw [if_neg (by omega),if_pos q]
  rw [e2] at e
  exact absurd ((G7 _).mp e.symm) (Rat.not_lt.mpr h)
 ·exact q
theorem b5F {a b p:Pt} (h:a8 a b p < 0):D3 a b p < 0:=by
 have e:=a7j a b p
 rw [(G7 _).mpr h] at e
 unfold F7 at e
 split at e
 ·cases e
 ·split at e
  ·assumption
  ·cases e
noncomputable abbrev LIn:DFn:=a3Y J5 G1
noncomputable def liB (A:List Pt) (p:Pt):Bool:=decide (0 ≤ K2 ((nbs true A).map fun q=>D3 q.1 q.2 p))
theorem E6 {A:List Pt} {q:Pt × Pt} (hq:q ∈ nbs true A):∃ i,i < A.length ∧ q = (tk A i,tk A (i + 1)):=by
 obtain ⟨i,hi⟩:=List.getElem?_of_mem hq
 have il:i < A.length:=Nat.lt_of_lt_of_le (List.getElem?_eq_some_iff.mp hi).1 (T8 true A)
 rw [Y5 il] at hi
 exact ⟨i,il,(Option.some.inj hi).symm⟩
theorem a6T (K:List Pt) (fs:Option FS) (hl:K.length ≤ 1000):J5 [shT K] fs = some (.lst ((nbs true K).map pq),fs):=by
 have e:=a9V (K.map pt) fs (by rw [List.length_map]; omega)
 rw [a4k] at e
 exact e
theorem a5V {A:List Pt} (h:3 ≤ A.length):0 < (nbs true A).length:=by
 have:=Y5 (A:=A) (i:=0) (by omega)
 exact (List.getElem?_eq_some_iff.mp this).1
theorem a8k {p:Pt} (x0:Sl) (fs:Option FS) (hp:Ps 70 p):∀ qs:List (Pt × Pt),(∀ q ∈ qs,Ps 70 q.1 ∧ Ps 70 q.2) → v8 (mk2 [1] [x0,.val (pt p)]) w8 (e5 G1 (a7 (dV 0) (a7 (dV 1) (a7 (dV 2) a9)))) (qs.map pq) fs = some ((qs.map fun q=>D3 q.1 q.2 p).map D.int,fs)
 | [],_=>rfl
 | z :: r,h=>by
  obtain ⟨h1,h2⟩:=h z (List.mem_cons_self ..)
  have e:=a5u z.1 z.2 p fs h1 h2 hp (by decide)
  have i:=a8k x0 fs hp r fun z hz=>h z (List.mem_cons_of_mem _ hz)
  rw [List.map_cons,v8,show mk2 [1] [x0,.val (pt p)] (pq z) = some [.val (pt z.1),.val (pt z.2),.val (pt p)] from rfl,Option.bind_some,show w8 ⟨[.val (pt z.1),.val (pt z.2),.val (pt p)],fs⟩ = some (true,⟨[.val (pt z.1),.val (pt z.2),.val (pt p)],fs⟩) from rfl,Option.bind_some,if_pos rfl,l7 rfl e,Option.bind_some,i]
  rfl
theorem lin {A:List Pt} {p:Pt} (hA:ShC A) (hp:Ps 70 p) (fs:Option FS):LIn [shT A,pt p] fs = some (.bl (liB A p),fs):=by
 have hi:=hA.hi
 have ed:=a6T A fs (by omega)
 have hn:=a5V hA.lo
 have c:=a8k (p:=p) (.val (shT A)) fs hp (nbs true A) fun q hq=>by
  obtain ⟨i,il,rfl⟩:=E6 hq
  exact ⟨hA.ps _ (G8 i (by omega)),hA.ps _ (G8 (i + 1) (by omega))⟩
 have mn:=b37 (is:=(nbs true A).map fun q=>D3 q.1 q.2 p) (by rw [List.length_map]; exact hn)
 have lz:((nbs true A).map pq).length ≤ sizeLine:=by
  rw [List.length_map]
  exact Nat.le_trans (Nat.le_trans (T8 true A) hi) (by decide)
 refine n9 (s:=⟨[.val (shT A),.val (pt p)],fs⟩) ?_
 show a1Z J5 G1 ⟨[.val (shT A),.val (pt p)],fs⟩ = _
 unfold a1Z
 have it:B1 (e5 J5 (a7 (dV 0) a9)) ⟨[.val (shT A),.val (pt p)],fs⟩ = some ((nbs true A).map pq,⟨[.val (shT A),.val (pt p)],fs⟩):=by
  unfold B1
  rw [l7 rfl ed]
  rfl
 exact o9 (b9 (A4 (o6 (Y6 (a4K it lz c)) rfl) mn) rfl rfl)
theorem a8z {A:List Pt} {p:Pt} (hA:ShC A) (h:∀ i,0 ≤ a8 (tk A i) (tk A (i + 1)) p):liB A p = true:=by
 unfold liB
 refine decide_eq_true ?_
 obtain ⟨q,hq,e⟩:=List.mem_map.mp (b3c (is:=(nbs true A).map fun q=>D3 q.1 q.2 p) (by rw [List.length_map]; exact a5V hA.lo))
 obtain ⟨i,il,rfl⟩:=E6 hq
 rw [← e]
 exact b18 (h i)
noncomputable abbrev LAr:DFn:=a3d LIn
theorem a8R {Ss:List (List Pt)} {p:Pt} (hS:∀ A ∈ Ss,ShC A) (hl:Ss.length ≤ 50) (hp:Ps 70 p) (fs:Option FS):LAr [.tup (Ss.map shT),pt p] fs = some (.bl (Ss.any (liB · p)),fs):=by
 have c:∀ Ss:List (List Pt),(∀ A ∈ Ss,ShC A) → v8 (fun d=>some (.val d :: [.val (pt p)])) w8 (e5 LIn (a7 (dV 0) (a7 (dV 1) a9))) (Ss.map shT) fs = some ((Ss.map (liB · p)).map D.bl,fs):=fun Ss=>by
  induction Ss with
  | nil=>exact fun _=>rfl
  | cons A r ih=>
   intro h
   have e:=lin (h A (List.mem_cons_self ..)) hp fs
   have i:=ih fun z hz=>h z (List.mem_cons_of_mem _ hz)
   rw [List.map_cons,v8,Option.bind_some,show w8 ⟨[.val (shT A),.val (pt p)],fs⟩ = some (true,⟨[.val (shT A),.val (pt p)],fs⟩) from rfl,Option.bind_some,if_pos rfl,l7 rfl e,Option.bind_some,i]
   rfl
 have t:=b2y (Ss.map (liB · p))
 rw [List.any_map] at t
 have lz:(Ss.map shT).length ≤ sizeLine:=by rw [List.length_map]; exact Nat.le_trans hl (by decide)
 have c:=c Ss hS
 refine n9 (s:=⟨[.val (.tup (Ss.map shT)),.val (pt p)],fs⟩) ?_
 show a2T LIn ⟨[.val (.tup (Ss.map shT)),.val (pt p)],fs⟩ = _
 unfold a2T
 exact o9 (b9 rfl (Y6 (a3v (idx:=[1]) (s1:=⟨[.val (.tup (Ss.map shT)),.val (pt p)],fs⟩) rfl lz c)) t)
noncomputable abbrev LPt:DFn:=a31 G1 J5
theorem a9W {a b:Pt} {B:List Pt} (h3:3 ≤ B.length) (h:∀ z ∈ B,a8 a b z < 0):J8 (B.map fun z=>D3 a b z) < 0:=by
 obtain ⟨z,hz,e⟩:=List.mem_map.mp (b3q (is:=B.map fun z=>D3 a b z) (by rw [List.length_map]; omega))
 rw [← e]
 exact b5F (h z hz)
theorem a8p {a b:Pt} (fs:Option FS) (ha:Ps 70 a) (hb:Ps 70 b):∀ B:List Pt,(∀ z ∈ B,Ps 70 z) → v8 (fun d=>some (.val d :: [.val (pt a),.val (pt b)])) w8 (e5 G1 (a7 (dV 1) (a7 (dV 2) (a7 (dV 0) a9)))) (B.map pt) fs = some ((B.map fun z=>D3 a b z).map D.int,fs)
 | [],_=>rfl
 | z :: r,h=>by
  have e:=a5u a b z fs ha hb (h z (List.mem_cons_self ..)) (by decide)
  have i:=a8p fs ha hb r fun z hz=>h z (List.mem_cons_of_mem _ hz)
  rw [List.map_cons,v8,Option.bind_some,show w8 ⟨[.val (pt z),.val (pt a),.val (pt b)],fs⟩ = some (true,⟨[.val (pt z),.val (pt a),.val (pt b)],fs⟩) from rfl,Option.bind_some,if_pos rfl,l7 rfl e,Option.bind_some,i]
  rfl
theorem b6v {A B:List Pt} {i:Nat} (p:poB A i B = true):∀ z ∈ B,a8 (tk A i) (tk A (i + 1)) z < 0:=fun z hz=>by
 unfold poB at p
 exact (G7 _).mp (of_decide_eq_true (List.all_eq_true.mp p z hz))
theorem a61 {A B:List Pt} (hA:ShC A) (hB:ShC B) {i:Nat} (hi:i < A.length) (p:poB A i B = true) (x0 x1:Sl) {w:D} {fs:Option FS} (hw:pIx w (.int 1) = some (.int (i:Int))) (x5 x6:Sl) :
  c7 (i7 (j7 (dB (S4 (j6 (fun i j=>decide (i ≤ j))) (j6 (fun i j=>decide (i < j))) (dC (.int 0)) (dOp pIx (dL 2) (dC (.int 1))) (dCB (one i9) (a7 (dL 3) a9))))) (e7 (dC (.bl false))) i8) (c7 (e8 (dOp pIx (e5 J5 (a7 (dV 3) a9)) (dOp pIx (dL 2) (dC (.int 1)))) (k6 2 (j5 (c8 5) (j5 (c8 6) l3)))) (e7 (dOp (j6 (fun i j=>decide (i < j))) (dCB (one a0u) (a7 (j8 (A6 [5,6] (B1 (dV 4)) w8 (e5 G1 (a7 (dV 1) (a7 (dV 2) (a7 (dV 0) a9)))))) a9)) (dC (.int 0))))) ⟨[x0,x1,.val w,.val (shT A),.val (shT B),x5,x6],fs⟩ = some (.ret (.bl true),⟨[x0,x1,.val w,.val (shT A),.val (shT B),.val (pt (tk A i)),.val (pt (tk A (i + 1)))],fs⟩):=by
 have a6:=hA.hi
 have ed:=a6T A fs (by omega)
 have l:one i9 [shT A] = some (.int (A.length:Int)):=by
  show some (D.int ((A.map pt).length:Int)) = _
  rw [List.length_map]
 have c1:j6 (fun i j=>decide (i ≤ j)) (.int 0) (.int (i:Int)) = some (.bl true):=by
  show some (D.bl (decide ((0:Int) ≤ (i:Int)))) = _
  rw [decide_eq_true (by omega)]
 have c2:j6 (fun i j=>decide (i < j)) (.int (i:Int)) (.int (A.length:Int)) = some (.bl true):=by
  show some (D.bl (decide ((i:Int) < (A.length:Int)))) = _
  rw [decide_eq_true (by omega)]
 have ix:pIx (.lst ((nbs true A).map pq)) (.int (i:Int)) = some (pq (tk A i,tk A (i + 1))):=S3 (N3 (by rw [List.getElem?_map,Y5 hi]; rfl))
 have row:=a8p fs (hA.ps _ (G8 i (by omega))) (hA.ps _ (G8 (i + 1) (by omega))) B hB.ps
 have mx:=b1B (is:=B.map fun z=>D3 (tk A i) (tk A (i + 1)) z) (by rw [List.length_map]; have:=hB.lo; omega)
 have lt:j6 (fun i j=>decide (i < j)) (.int (J8 (B.map fun z=>D3 (tk A i) (tk A (i + 1)) z))) (.int 0) = some (.bl true):=by
  show some (D.bl (decide (_ < (0:Int)))) = _
  rw [decide_eq_true (a9W hB.lo (b6v p))]
 have lz:(B.map pt).length ≤ sizeLine:=by rw [List.length_map]; exact Nat.le_trans hB.hi (by decide)
 refine m8 (s1:=⟨[x0,x1,.val w,.val (shT A),.val (shT B),x5,x6],fs⟩) (u5 (B4 (b:=true) (u4 (a5Q rfl (b9 rfl rfl hw) c1 (A4 rfl l) c2)))) ?_
 refine m8 (s1:=⟨[x0,x1,.val w,.val (shT A),.val (shT B),.val (pt (tk A i)),.val (pt (tk A (i + 1)))],fs⟩) (u6 (b9 (l7 rfl ed) (b9 rfl rfl hw) ix) rfl) ?_
 exact o9 (b9 (A4 (o6 (Y6 (a3v (s1:=⟨[x0,x1,.val w,.val (shT A),.val (shT B),.val (pt (tk A i)),.val (pt (tk A (i + 1)))],fs⟩) rfl lz row)) rfl) mx) rfl lt)
theorem ni1:P5 (.str "one") (.tup [.str "one",.str "other"]) = some (.bl false):=by
 unfold P5 L9
 simp [t6,D.plain,D.plains,D.py,D.pys,SeqAt.shaped,PyData.canLay0,PyData.canLayAll0,PyData.depth,PyData.depthAll,inD,PyData.eqv]
 decide +kernel
theorem ni2:P5 (.str "other") (.tup [.str "one",.str "other"]) = some (.bl false):=by
 unfold P5 L9
 simp [t6,D.plain,D.plains,D.py,D.pys,SeqAt.shaped,PyData.canLay0,PyData.canLayAll0,PyData.depth,PyData.depthAll,inD,PyData.eqv]
 decide +kernel
theorem lpt {A B:List Pt} (hA:ShC A) (hB:ShC B) {d:D} (h:PpI A B d) (fs:Option FS):LPt [shT A,shT B,d] fs = some (.bl true,fs):=by
 cases h with
 | @one i h p=>
  have e:=a61 hA hB h p (.val (shT A)) (.val (shT B)) (w:=.tup [.str "one",.int (i:Int)]) (fs:=fs) rfl .no .no
  generalize shT A = X at *
  generalize shT B = Y at *
  generalize pt (tk A i) = U at *
  generalize pt (tk A (i + 1)) = V at *
  refine n9 (s:=⟨[.val X,.val Y,.val (.tup [.str "one",.int (i:Int)]),.val X,.val Y,.val U,.val V],fs⟩) ?_
  show Y2 G1 J5 ⟨[.val X,.val Y,.val (.tup [.str "one",.int (i:Int)]),.no,.no,.no,.no],fs⟩ = _
  unfold Y2
  refine m8 (s1:=⟨[.val X,.val Y,.val (.tup [.str "one",.int (i:Int)]),.no,.no,.no,.no],fs⟩) (u5 (B0 (B4 (b:=true) (w9 (C8 rfl rfl))) (B0 (O8 (A4 rfl rfl) rfl (P0 2)) (B4 (b:=true) (w9 (C8 (b9 rfl rfl rfl) rfl)))))) ?_
  refine m8 (s1:=⟨[.val X,.val Y,.val (.tup [.str "one",.int (i:Int)]),.no,.no,.no,.no],fs⟩) (u5 (B0 (u4 (b9 (b9 rfl rfl rfl) (B2 rfl rfl) ni1)) (B0 (B4 (b:=true) (w9 (C8 (b9 rfl rfl rfl) rfl))) (w9 (C8 (b9 rfl rfl rfl) rfl))))) ?_
  exact m8 (s1:=⟨[.val X,.val Y,.val (.tup [.str "one",.int (i:Int)]),.val X,.val Y,.no,.no],fs⟩) (u6 ((a72 (u4 (b9 (b9 rfl rfl rfl) rfl rfl))).trans (B2 rfl rfl)) rfl) e
 | @oth i h p=>
  have e:=a61 hB hA h p (.val (shT A)) (.val (shT B)) (w:=.tup [.str "other",.int (i:Int)]) (fs:=fs) rfl .no .no
  generalize shT A = X at *
  generalize shT B = Y at *
  generalize pt (tk B i) = U at *
  generalize pt (tk B (i + 1)) = V at *
  refine n9 (s:=⟨[.val X,.val Y,.val (.tup [.str "other",.int (i:Int)]),.val Y,.val X,.val U,.val V],fs⟩) ?_
  show Y2 G1 J5 ⟨[.val X,.val Y,.val (.tup [.str "other",.int (i:Int)]),.no,.no,.no,.no],fs⟩ = _
  unfold Y2
  refine m8 (s1:=⟨[.val X,.val Y,.val (.tup [.str "other",.int (i:Int)]),.no,.no,.no,.no],fs⟩) (u5 (B0 (B4 (b:=true) (w9 (C8 rfl rfl))) (B0 (O8 (A4 rfl rfl) rfl (P0 2)) (B4 (b:=true) (w9 (C8 (b9 rfl rfl rfl) rfl)))))) ?_
  refine m8 (s1:=⟨[.val X,.val Y,.val (.tup [.str "other",.int (i:Int)]),.no,.no,.no,.no],fs⟩) (u5 (B0 (u4 (b9 (b9 rfl rfl rfl) (B2 rfl rfl) ni2)) (B0 (B4 (b:=true) (w9 (C8 (b9 rfl rfl rfl) rfl))) (w9 (C8 (b9 rfl rfl rfl) rfl))))) ?_
  exact m8 (s1:=⟨[.val X,.val Y,.val (.tup [.str "other",.int (i:Int)]),.val Y,.val X,.no,.no],fs⟩) (u6 ((b6a (u4 (b9 (b9 rfl rfl rfl) rfl rfl))).trans (B2 rfl rfl)) rfl) e
noncomputable abbrev LD9:DFn:=a3H LPt LIx LAr
theorem X8 {ds:List D} {n:Nat} (h:ds.length = n):one i9 [.tup ds] = some (.int (n:Int)):=by
 show some (D.int (ds.length:Int)) = _
 rw [h]
theorem b53 {Ss Os:List (List Pt)} {A B:List Pt} {p:Pt} (hS:∀ A ∈ Ss,ShC A) (hO:∀ B ∈ Os,ShC B) (lS:Ss.length ≤ 50) (lO:Os.length ≤ 50) (hA:A ∈ Ss) (hB:B ∈ Os) (m:MeP A B p) (fs:Option FS):LD9 [.tup (Ss.map shT),.tup (Os.map shT),meD p] fs = some (.non,fs):=by
 have e0:=b3I (pt p) fs (a71 m.sz (Nat.le_refl _)) (by decide) (by decide) (by rw [a8v]; decide)
 rw [a6j] at e0
 have e1:=a8R hS lS m.sz fs
 have e2:=a8R hO lO m.sz fs
 rw [List.any_eq_true.mpr ⟨A,hA,a8z (hS A hA) m.a⟩] at e1
 rw [List.any_eq_true.mpr ⟨B,hB,a8z (hO B hB) m.b⟩] at e2
 generalize D.tup (Ss.map shT) = X at *
 generalize D.tup (Os.map shT) = Y at *
 refine n9 (s:=⟨[.val X,.val Y,.val (meD p),.no,.no],fs⟩) ?_
 show a0i LPt LIx LAr ⟨[.val X,.val Y,.val (meD p),.no,.no],fs⟩ = _
 unfold a0i
 refine m8 (s1:=⟨[.val X,.val Y,.val (meD p),.no,.no],fs⟩) (u5 (B0 (B4 (b:=true) (w9 (C8 rfl rfl))) (B0 (O8 (A4 rfl rfl) rfl (P0 2)) (B4 (b:=true) (w9 (C8 (b9 rfl rfl rfl) rfl)))))) ?_
 exact B3 ((C4 (a1j (u4 (b9 (b9 rfl rfl rfl) rfl rfl)) (w9 (l7 (o6 (b9 rfl rfl rfl) rfl) e0)))).trans (o9 ((a72 (a1j (w9 (l7 (o6 rfl (o6 (b9 rfl rfl rfl) rfl)) e1)) (w9 (l7 (o6 rfl (o6 (b9 rfl rfl rfl) rfl)) e2)))).trans rfl)))
noncomputable abbrev du9 (Ss Os:List (List Pt)) (x3 x4:Sl) (fs:Option FS):DS:=⟨[.val (.tup (Ss.map shT)),.val (.tup (Os.map shT)),.val (apD Ss Os),x3,x4],fs⟩
theorem b5j {Ss Os:List (List Pt)} {A:List Pt} {i:Nat} (hA:ShC A) (hO:∀ B ∈ Os,ShC B) (lO:Os.length ≤ 50) (hp:∀ B ∈ Os,ppD A B ≠ .non) (g:Ss[i]? = some A) (x4:Sl) (fs:Option FS) :
  a0S LPt LIx LAr (du9 Ss Os (.val (.int (i:Int))) x4 fs) = some (.next,du9 Ss Os (.val (.int (i:Int))) (.val (roD Os A)) fs):=by
 have ix:pIx (.tup (Ss.map shT)) (.int (i:Int)) = some (shT A):=(ixT _ _).trans (N3 (by rw [List.getElem?_map,g]; rfl))
 have ir:pIx (.tup (Ss.map (roD Os))) (.int (i:Int)) = some (roD Os A):=(ixT _ _).trans (N3 (by rw [List.getElem?_map,g]; rfl))
 have c:=a1O (idx:=[0,3,1,4]) (g:=fun _=>D.bl true) (fe:=e5 LPt (a7 (dOp pIx (dL 1) (dL 2)) (a7 (dOp pIx (dL 3) (dL 0)) (a7 (dOp pIx (dL 4) (dL 0)) a9)))) [.val (.tup (Ss.map shT)),.val (.int (i:Int)),.val (.tup (Os.map shT)),.val (roD Os A)] fs (ups 0 Os.length) fun d hd=>by
  obtain ⟨j,hj⟩:=List.getElem?_of_mem hd
  obtain ⟨rfl,jl⟩:=V0 hj
  rw [Int.zero_add]
  have gj:Os[j]? = some Os[j]:=List.getElem?_eq_getElem jl
  have jm:Os[j] ∈ Os:=List.getElem_mem jl
  have i1:pIx (.tup (Os.map shT)) (.int (j:Int)) = some (shT Os[j]):=(ixT _ _).trans (N3 (by rw [List.getElem?_map,gj]; rfl))
  have i2:pIx (roD Os A) (.int (j:Int)) = some (ppD A Os[j]):=(ixT _ _).trans (N3 (by rw [List.getElem?_map,gj]; rfl))
  exact ⟨⟨[.val (.int (j:Int)),.val (.tup (Ss.map shT)),.val (.int (i:Int)),.val (.tup (Os.map shT)),.val (roD Os A)],fs⟩,l7 (o6 (b9 rfl rfl ix) (o6 (b9 rfl rfl i1) (o6 (b9 rfl rfl i2) rfl))) (lpt hA (hO _ jm) (a5h (hp _ jm)) fs),rfl⟩
 have r:G2 [.int (Os.length:Int)] = some (ups 0 Os.length):=S7 (by omega)
 have lo:one i9 [.tup (Os.map shT)] = some (.int (Os.length:Int)):=X8 (by rw [List.length_map])
 have lr:one i9 [roD Os A] = some (.int (Os.length:Int)):=X8 (by rw [List.length_map])
 have fi:=(b30 ((ups 0 Os.length).map fun _=>true)).1
 have e1:((ups 0 Os.length).map fun _=>true).map D.bl = (ups 0 Os.length).map fun _=>D.bl true:=by rw [List.map_map]; rfl
 have e2:((ups 0 Os.length).map fun _=>true).all id = true:=by rw [List.all_eq_true]; intro b hb; obtain ⟨_,_,rfl⟩:=List.mem_map.mp hb; rfl
 rw [e1,e2] at fi
 have lz:(ups 0 Os.length).length ≤ sizeLine:=by rw [X0]; exact Nat.le_trans lO (by decide)
 unfold a0S
 refine m8 (s1:=du9 Ss Os (.val (.int (i:Int))) (.val (roD Os A)) fs) (u6 (b9 (b9 rfl rfl (show pIx (apD Ss Os) (.int 1) = some (.tup (Ss.map (roD Os))) from rfl)) rfl ir) rfl) ?_
 refine m8 (s1:=du9 Ss Os (.val (.int (i:Int))) (.val (roD Os A)) fs) (u5 (B0 (B4 (b:=true) (w9 (C8 rfl rfl))) (O8 (A4 rfl lr) (A4 rfl lo) (P0 _)))) ?_
 have rg:N8 (a7 (dCB (one i9) (a7 (dL 1) a9)) a9) (du9 Ss Os (.val (.int (i:Int))) (.val (roD Os A)) fs) = some (ups 0 Os.length,du9 Ss Os (.val (.int (i:Int))) (.val (roD Os A)) fs):=by
  unfold N8
  rw [o6 (A4 rfl lo) rfl,Option.bind_some,r]
  rfl
 exact u5 (u4 (b9 rfl (Y6 (a3v rg lz c)) fi))
theorem b4D {Ss Os:List (List Pt)} (hS:∀ A ∈ Ss,ShC A) (hO:∀ B ∈ Os,ShC B) (lS:Ss.length ≤ 50) (lO:Os.length ≤ 50) (hp:∀ A ∈ Ss,∀ B ∈ Os,ppD A B ≠ .non) (fs:Option FS):LD9 [.tup (Ss.map shT),.tup (Os.map shT),apD Ss Os] fs = some (.non,fs):=by
 obtain ⟨s',e,y3,y4,rfl⟩:=V4 (t:=c8 3) (b:=a0S LPt LIx LAr) (fun _ s=>∃ x3 x4,s = du9 Ss Os x3 x4 fs) (ups 0 Ss.length) 0 (du9 Ss Os .no .no fs) ⟨_,_,rfl⟩ (by
  rintro i d s hd ⟨x3,x4,rfl⟩
  obtain ⟨rfl,il⟩:=V0 hd
  rw [Int.zero_add]
  have g:Ss[i]? = some Ss[i]:=List.getElem?_eq_getElem il
  have m:Ss[i] ∈ Ss:=List.getElem_mem il
  exact ⟨du9 Ss Os (.val (.int (i:Int))) x4 fs,_,rfl,.inl (b5j (hS _ m) hO lO (hp _ m) g x4 fs),_,_,rfl⟩)
 have r:G2 [.int (Ss.length:Int)] = some (ups 0 Ss.length):=S7 (by omega)
 have ls:one i9 [.tup (Ss.map shT)] = some (.int (Ss.length:Int)):=X8 (by rw [List.length_map])
 have lr:one i9 [.tup (Ss.map (roD Os))] = some (.int (Ss.length:Int)):=X8 (by rw [List.length_map])
 refine n9 (s:=du9 Ss Os y3 y4 fs) ?_
 show a0i LPt LIx LAr (du9 Ss Os .no .no fs) = _
 unfold a0i
 refine m8 (s1:=du9 Ss Os .no .no fs) (u5 (B0 (B4 (b:=true) (w9 (C8 rfl rfl))) (B0 (O8 (A4 rfl rfl) rfl (P0 2)) (B4 (b:=true) (w9 (C8 (b9 rfl rfl rfl) rfl)))))) ?_
 refine m8 (s1:=du9 Ss Os .no .no fs) (u5 (a6Q (u4 (b9 (b9 rfl rfl rfl) rfl rfl)))) ?_
 refine m8 (s1:=du9 Ss Os .no .no fs) (u5 (B0 (u4 (b9 (b9 rfl rfl rfl) rfl rfl)) (B4 (b:=true) (w9 (C8 (b9 rfl rfl rfl) rfl))))) ?_
 refine m8 (s1:=du9 Ss Os .no .no fs) (u5 (O8 (A4 (o6 (b9 rfl rfl rfl) rfl) lr) (A4 rfl ls) (P0 _))) ?_
 refine m8 ((a0b (s1:=du9 Ss Os .no .no fs) (o6 (A4 rfl ls) rfl) r).trans e) (o9 rfl)
theorem a5o {Ss Os:List (List Pt)} (hS:∀ A ∈ Ss,ShC A) (hO:∀ B ∈ Os,ShC B) (lS:Ss.length ≤ 50) (lO:Os.length ≤ 50) (fs:Option FS) :
  ∃ d,FTp [.tup (Ss.map shT),.tup (Os.map shT)] fs = some (d,fs) ∧ LD9 [.tup (Ss.map shT),.tup (Os.map shT),d] fs = some (.non,fs) ∧ FLt [.tup (Ss.map shT),.tup (Os.map shT),d] fs = some (.bl true,fs):=by
 rcases a1A hS hO lS lO fs with ⟨e,h⟩ | ⟨A,hA,B,hB,p,e,m⟩
 ·exact ⟨_,e,b4D hS hO lS lO h fs,a8D hS hO h fs⟩
 ·exact ⟨_,e,b53 hS hO lS lO hA hB m fs,b6K hS hO hA hB m fs⟩
noncomputable abbrev IP:=Int × Int
structure Nt where
 a:Int
 b:Int
 c:Int
 d:Int
 x:Int
 y:Int
 l:Int
noncomputable def ntD (n:Nt):D:=.tup [.int n.a,.int n.b,.int n.c,.int n.d,.int n.x,.int n.y,.int n.l]
structure NtOk (n:Nt):Prop where
 a:0 ≤ n.a ∧ n.a ≤ 3
 b:-4 ≤ n.b ∧ n.b ≤ 1
 c:0 ≤ n.c ∧ n.c ≤ 4
 d:0 ≤ n.d ∧ n.d ≤ 3
 x:-9 ≤ n.x ∧ n.x ≤ 9
 y:-9 ≤ n.y ∧ n.y ≤ 9
 l:1 ≤ n.l ∧ n.l ≤ 7
 det:0 < n.a * n.d - n.b * n.c
noncomputable def nX (n:Nt) (z:IP):Int:=n.a * z.1 + n.b * z.2 + n.x
noncomputable def nY (n:Nt) (z:IP):Int:=n.c * z.1 + n.d * z.2 + n.y
noncomputable def nP (n:Nt) (z:IP):Pt:=(Rat.divInt (nX n z) n.l,Rat.divInt (nY n z) n.l)
structure InU (z:IP):Prop where
 u:0 ≤ z.1 ∧ z.1 ≤ 27
 v:0 ≤ z.2 ∧ z.2 ≤ 13
theorem a1M {p q m k:Int} (h1:-m ≤ p ∧ p ≤ m) (h2:0 ≤ q ∧ q ≤ k):-(m * k) ≤ p * q ∧ p * q ≤ m * k:=by
 have a:=Int.mul_le_mul_of_nonneg_right h1.1 h2.1
 have b:=Int.mul_le_mul_of_nonneg_right h1.2 h2.1
 have c:=Int.mul_le_mul_of_nonneg_left h2.2 (show 0 ≤ m by omega)
 rw [Int.neg_mul] at a
 omega
theorem a7Y {n:Nt} {z:IP} (h:NtOk n) (hz:InU z):(nX n z).natAbs < 2 ^ 8:=by
 have h1:=a1M (m:=3) (k:=27) ⟨by have:=h.a; omega,h.a.2⟩ hz.u
 have h2:=a1M (m:=4) (k:=13) ⟨h.b.1,by have:=h.b; omega⟩ hz.v
 have:=h.x
 unfold nX
 omega
theorem a5X {n:Nt} {z:IP} (h:NtOk n) (hz:InU z):(nY n z).natAbs < 2 ^ 8:=by
 have h1:=a1M (m:=4) (k:=27) ⟨by have:=h.c; omega,h.c.2⟩ hz.u
 have h2:=a1M (m:=3) (k:=13) ⟨by have:=h.d; omega,h.d.2⟩ hz.v
 have:=h.y
 unfold nY
 omega
theorem a2N {x g:Int} (hg:0 < g) {k:Nat} (h:x.natAbs < 2 ^ k):Bd k (x.fdiv g):=by
 rw [Int.fdiv_eq_ediv_of_nonneg _ (by omega)]
 exact Nat.lt_of_le_of_lt (Int.natAbs_ediv_le_natAbs x g) h
theorem b3Z {n:Nt} {z:IP} (h:NtOk n) (hz:InU z):Ps 8 (nP n z) ∧ PtS 35 (nP n z):=by
 have l0:n.l ≠ 0:=by have:=h.l; omega
 have lb:n.l.natAbs < 2 ^ 8:=by have:=h.l; omega
 obtain ⟨g0,e1,e2,e3⟩:=a4b (nX n z) (nY n z) n.l l0
 have ng:¬ n.l < 0:=by have:=h.l; omega
 rw [if_neg ng] at g0 e1 e2 e3
 have gp:0 < (Int.gcd (Int.gcd (nX n z) (nY n z):Int) n.l:Int):=by omega
 refine ⟨⟨?_,?_,?_⟩,?_,?_⟩
 ·show Bd 8 (pX (Rat.divInt (nX n z) n.l,Rat.divInt (nY n z) n.l))
  rw [← e1]; exact a2N gp (a7Y h hz)
 ·show Bd 8 (pY (Rat.divInt (nX n z) n.l,Rat.divInt (nY n z) n.l))
  rw [← e2]; exact a2N gp (a5X h hz)
 ·show Bd 8 (pL (Rat.divInt (nX n z) n.l,Rat.divInt (nY n z) n.l))
  rw [← e3]; exact a2N gp lb
 ·exact (Sz.of_divInt l0 (a7Y h hz) lb).mono (by decide)
 ·exact (Sz.of_divInt l0 (a5X h hz) lb).mono (by decide)
noncomputable def crI (p q r:IP):Int:=(q.1 - p.1) * (r.2 - p.2) - (q.2 - p.2) * (r.1 - p.1)
theorem b57 {n:Nt} (h:NtOk n) (p q r:IP):a8 (nP n p) (nP n q) (nP n r) = ((n.a * n.d - n.b * n.c:Int):Rat) / ((n.l:Rat) * n.l) * (crI p q r:Rat):=by
 have l0:(n.l:Rat) ≠ 0:=by
  have:=h.l
  intro z
  have:n.l = 0:=by exact_mod_cast z
  omega
 unfold a8 nP nX nY crI
 simp only [Rat.divInt_eq_div]
 simp only [Rat.intCast_sub,Rat.intCast_mul,Rat.intCast_add]
 grind
theorem b1I {n:Nt} (h:NtOk n):(0:Rat) < ((n.a * n.d - n.b * n.c:Int):Rat) / ((n.l:Rat) * n.l):=by
 have l0:(0:Rat) < (n.l:Rat):=by
  have:=h.l
  exact_mod_cast (show 0 < n.l by omega)
 have d0:(0:Rat) < ((n.a * n.d - n.b * n.c:Int):Rat):=by exact_mod_cast h.det
 rw [Rat.div_def]
 exact Rat.mul_pos d0 (Rat.inv_pos.mpr (Rat.mul_pos l0 l0))
noncomputable def tki (l:List IP) (i:Nat):IP:=(l[i % l.length]?).getD (0,0)
noncomputable def FmB (F:List IP):Bool:=decide (3 ≤ F.length) && decide (F.length ≤ 6) && (List.range F.length).all (fun k=>F.all (fun z=>decide (0 ≤ crI (tki F k) (tki F (k + 1)) z)) && decide (tki F (k + 1) ≠ tki F k)) && decide (0 < crI (tki F 0) (tki F 1) (tki F 2)) && F.all fun z=>decide (0 ≤ z.1) && decide (z.1 ≤ 8) && decide (0 ≤ z.2) && decide (z.2 ≤ 8)
noncomputable def A8 (w h:Int):List (List IP):=[[(0,0),(w,0),(w,h),(0,h)],[(0,0),(w,0),(0,h)],[(0,0),(w,0),(w,h)],[(0,0),(w,h),(0,h)],[(0,0),(w + 1,1),(1,h + 1)],[(0,0),(w,0),(w,h),(0,h)],[(0,h),(w,0),(2 * w,h),(w,2 * h)],[(0,1),(1,0),(w + 1,0),(w + 2,1),(w + 1,2),(1,2)]]
theorem b5m:((List.range 4).all fun w=>(List.range 4).all fun h=>(A8 ((w:Int) + 1) ((h:Int) + 1)).all FmB) = true:=by decide +kernel
theorem b2X {w h:Int} (hw:1 ≤ w ∧ w ≤ 4) (hh:1 ≤ h ∧ h ≤ 4) {F:List IP} (hF:F ∈ A8 w h):FmB F = true:=by
 have k:=List.all_eq_true.mp b5m (w.toNat - 1) (List.mem_range.mpr (by omega))
 have k:=List.all_eq_true.mp k (h.toNat - 1) (List.mem_range.mpr (by omega))
 have e1:((w.toNat - 1:Nat):Int) + 1 = w:=by omega
 have e2:((h.toNat - 1:Nat):Int) + 1 = h:=by omega
 rw [e1,e2] at k
 exact List.all_eq_true.mp k F hF
noncomputable def shf (x y:Int) (z:IP):IP:=(z.1 + x,z.2 + y)
theorem a9d (x y:Int) (p q r:IP):crI (shf x y p) (shf x y q) (shf x y r) = crI p q r:=by
 unfold crI shf
 show (q.1 + x - (p.1 + x)) * (r.2 + y - (p.2 + y)) - (q.2 + y - (p.2 + y)) * (r.1 + x - (p.1 + x)) = _
 rw [show q.1 + x - (p.1 + x) = q.1 - p.1 by omega,show r.2 + y - (p.2 + y) = r.2 - p.2 by omega,show q.2 + y - (p.2 + y) = q.2 - p.2 by omega,show r.1 + x - (p.1 + x) = r.1 - p.1 by omega]
noncomputable def shP (n:Nt) (x y:Int) (z:IP):Pt:=nP n (shf x y z)
theorem a1n {n:Nt} {x y:Int} {F:List IP} (h:3 ≤ F.length) (i:Nat):tk (F.map (shP n x y)) i = shP n x y (tki F i):=by
 unfold tk tki
 rw [List.length_map,List.getElem?_map,List.getElem?_eq_getElem (Nat.mod_lt _ (by omega))]
 rfl
theorem b6t (F:List IP) (i:Nat):tki F (i % F.length) = tki F i:=by
 unfold tki
 rw [Nat.mod_mod]
theorem b5Q (F:List IP) (i:Nat):tki F (i % F.length + 1) = tki F (i + 1):=by
 unfold tki
 rw [Nat.mod_add_mod]
theorem a3a {F:List IP} (h:3 ≤ F.length) (i:Nat):tki F i ∈ F:=by
 unfold tki
 rw [List.getElem?_eq_getElem (Nat.mod_lt _ (by omega))]
 exact List.getElem_mem _
theorem b10 {n:Nt} {x y:Int} {F:List IP} (hn:NtOk n) (hF:FmB F = true) (hx:0 ≤ x ∧ x ≤ 19) (hy:0 ≤ y ∧ y ≤ 5):ShC (F.map (shP n x y)):=by
 unfold FmB at hF
 simp only [Bool.and_eq_true,decide_eq_true_eq] at hF
 obtain ⟨⟨⟨⟨h3,h6⟩,hk⟩,h0⟩,hz⟩:=hF
 have ps:=b1I hn
 have cr:∀ p q r:IP,a8 (shP n x y p) (shP n x y q) (shP n x y r) = ((n.a * n.d - n.b * n.c:Int):Rat) / ((n.l:Rat) * n.l) * (crI p q r:Rat):=fun p q r=>by
  unfold shP
  rw [b57 hn,a9d]
 have K:∀ k,(∀ z ∈ F,0 ≤ crI (tki F k) (tki F (k + 1)) z) ∧ tki F (k + 1) ≠ tki F k:=fun k=>by
  have q:=List.all_eq_true.mp hk (k % F.length) (List.mem_range.mpr (Nat.mod_lt _ (by omega)))
  rw [Bool.and_eq_true,b6t,b5Q] at q
  exact ⟨fun z hz=>of_decide_eq_true (List.all_eq_true.mp q.1 z hz),of_decide_eq_true q.2⟩
 have inj:∀ p q:IP,shP n x y p = shP n x y q → ∀ a b:IP,crI a b p = crI a b q:=fun p q e a b=>by
  have e1:=cr a b p
  have e2:=cr a b q
  rw [e,e2] at e1
  have e3:((crI a b q:Int):Rat) = ((crI a b p:Int):Rat):=by
   have ps':=Rat.ne_of_gt ps
   generalize ((n.a * n.d - n.b * n.c:Int):Rat) / ((n.l:Rat) * n.l) = c at *
   have:=congrArg (fun t=>c⁻¹ * t) e1
   simp only [← Rat.mul_assoc,Rat.inv_mul_cancel _ ps',Rat.one_mul] at this
   exact this
  exact_mod_cast e3.symm
 refine ⟨?_,?_,?_,by rw [List.length_map]; exact h3,by rw [List.length_map]; exact h6,?_⟩
 ·intro k z hzm
  obtain ⟨w,hw,rfl⟩:=List.mem_map.mp hzm
  rw [a1n h3,a1n h3,cr]
  exact Rat.mul_nonneg (Rat.le_of_lt ps) (by exact_mod_cast (K k).1 w hw)
 ·intro k e
  rw [a1n h3,a1n h3] at e
  have i:=inj _ _ e
  have i1:=i (tki F k) ((tki F k).1 + 1,(tki F k).2)
  have i2:=i (tki F k) ((tki F k).1,(tki F k).2 + 1)
  unfold crI at i1 i2
  simp only at i1 i2
  refine (K k).2 (Prod.ext ?_ ?_)
  ·grind
  ·grind
 ·refine ⟨shP n x y (tki F 0),shP n x y (tki F 1),shP n x y (tki F 2),List.mem_map.mpr ⟨_,a3a h3 0,rfl⟩,List.mem_map.mpr ⟨_,a3a h3 1,rfl⟩,List.mem_map.mpr ⟨_,a3a h3 2,rfl⟩,?_⟩
  rw [cr]
  have:(0:Rat) < (crI (tki F 0) (tki F 1) (tki F 2):Rat):=by exact_mod_cast h0
  exact Rat.ne_of_gt (Rat.mul_pos ps this)
 ·intro z hzm
  obtain ⟨w,hw,rfl⟩:=List.mem_map.mp hzm
  have q:=List.all_eq_true.mp hz w hw
  simp only [Bool.and_eq_true,decide_eq_true_eq] at q
  obtain ⟨⟨⟨q1,q2⟩,q3⟩,q4⟩:=q
  exact b3Z hn ⟨by show 0 ≤ w.1 + x ∧ w.1 + x ≤ 27; omega,by show 0 ≤ w.2 + y ∧ w.2 + y ≤ 13; omega⟩
theorem a66 {K:List Pt} (h:ShC K) (i:Nat) (hi:i < K.length):ShC (K.drop i ++ K.take i):=by
 have l:(K.drop i ++ K.take i).length = K.length:=by
  rw [List.length_append,List.length_drop,List.length_take]
  omega
 have m:∀ z,z ∈ K.drop i ++ K.take i ↔ z ∈ K:=fun z=>by
  rw [List.mem_append,Or.comm,← List.mem_append,List.take_append_drop]
 have t:∀ k,tk (K.drop i ++ K.take i) k = tk K (i + k):=fun k=>by
  unfold tk
  rw [l]
  have kl:=Nat.mod_lt k (show 0 < K.length by omega)
  rw [← Nat.add_mod_mod]
  generalize k % K.length = j at *
  by_cases c:j < K.length - i
  ·rw [List.getElem?_append_left (by rw [List.length_drop]; exact c),List.getElem?_drop,Nat.mod_eq_of_lt (show i + j < K.length by omega)]
  ·rw [List.getElem?_append_right (by rw [List.length_drop]; omega),List.length_drop,List.getElem?_take_of_lt (by omega)]
   rw [Nat.mod_eq_sub_mod (by omega),Nat.mod_eq_of_lt (by omega)]
   rw [show i + j - K.length = j - (K.length - i) by omega]
 refine ⟨?_,?_,?_,by rw [l]; exact h.lo,by rw [l]; exact h.hi,fun z hz=>h.sz z ((m z).mp hz)⟩
 ·intro k z hz
  rw [t,t]
  exact h.cv (i + k) z ((m z).mp hz)
 ·intro k
  rw [t,t]
  exact h.ne (i + k)
 ·obtain ⟨a,b,c,ha,hb,hc,q⟩:=h.nc
  exact ⟨a,b,c,(m a).mpr ha,(m b).mpr hb,(m c).mpr hc,q⟩
noncomputable def netsI:List (Int × Int × Int × Int):=[(1,0,0,1),(1,-1,1,1),(3,-4,4,3),(1,1,0,1),(0,-1,1,0),(2,1,1,1)]
noncomputable def q4 (q:Int × Int × Int × Int):D:=.tup [.int q.1,.int q.2.1,.int q.2.2.1,.int q.2.2.2]
theorem b2U:∀ q ∈ netsI,(0 ≤ q.1 ∧ q.1 ≤ 3) ∧ (-4 ≤ q.2.1 ∧ q.2.1 ≤ 1) ∧ (0 ≤ q.2.2.1 ∧ q.2.2.1 ≤ 4) ∧ (0 ≤ q.2.2.2 ∧ q.2.2.2 ≤ 3) ∧ 0 < q.1 * q.2.2.2 - q.2.1 * q.2.2.1:=by decide
noncomputable abbrev LNt:DFn:=a3D LDx
theorem b4b {n:Nat} {f:FS} (h:Fd4 n f) (hn:n < 2 ^ 28):∃ t f',LNt [.feed] (some f) = some (ntD t,some f') ∧ NtOk t ∧ Fd4 (n + 4) f':=by
 obtain ⟨r1,f1,e1,a1,a2,h1⟩:=J4 6 h
 obtain ⟨z,hz,hq⟩:=a1L (xs:=netsI.map q4) a1 (by show r1 < 6; exact a2)
 obtain ⟨q,hq1,rfl⟩:=List.mem_map.mp hz
 obtain ⟨r2,f2,e2,b1,b2,h2⟩:=J4 19 h1
 obtain ⟨r3,f3,e3,c1,c2,h3⟩:=J4 19 h2
 obtain ⟨r4,f4,e4,d1,d2,h4⟩:=J4 4 h3
 obtain ⟨w,hw,hr⟩:=a1L (xs:=[(1:Int),2,3,7].map D.int) d1 (by show r4 < 4; exact d2)
 obtain ⟨l,hl,rfl⟩:=List.mem_map.mp hw
 obtain ⟨g1,g2,g3,g4,g5⟩:=b2U q hq1
 have lb:1 ≤ l ∧ l ≤ 7:=(by decide:∀ l ∈ [(1:Int),2,3,7],1 ≤ l ∧ l ≤ 7) l hl
 refine ⟨⟨q.1,q.2.1,q.2.2.1,q.2.2.2,r2 - 9,r3 - 9,l⟩,f4,n9 (s:=⟨[.val .feed,.own (netsI.map q4),.val (q4 q),.val (.int (r2 - 9)),.val (.int (r3 - 9))],some f4⟩) ?_,⟨g1,g2,g3,g4,by show -9 ≤ r2 - 9 ∧ r2 - 9 ≤ 9; omega,by show -9 ≤ r3 - 9 ∧ r3 - 9 ≤ 9; omega,lb,g5⟩,h4⟩
 show a0A LDx ⟨[.val .feed,.no,.no,.no,.no],some f⟩ = _
 unfold a0A
 refine m8 (s1:=⟨[.val .feed,.own (netsI.map q4),.no,.no,.no],some f⟩) (M6 (i:=1) (s1:=⟨[.val .feed,.no,.no,.no,.no],some f⟩) (ds:=netsI.map q4) rfl (by show 1 < 5; decide)) ?_
 refine m8 (s1:=⟨[.val .feed,.own (netsI.map q4),.val (q4 q),.no,.no],some f1⟩) (u6 (b9 rfl (D1 rfl e1) (S3 hq)) rfl) ?_
 refine m8 (s1:=⟨[.val .feed,.own (netsI.map q4),.val (q4 q),.val (.int (r2 - 9)),.no],some f2⟩) (u6 (b9 (D1 rfl e2) rfl rfl) rfl) ?_
 refine m8 (s1:=⟨[.val .feed,.own (netsI.map q4),.val (q4 q),.val (.int (r2 - 9)),.val (.int (r3 - 9))],some f3⟩) (u6 (b9 (D1 rfl e3) rfl rfl) rfl) ?_
 exact o9 (b9 (x:=q4 q) (y:=.tup [.int (r2 - 9),.int (r3 - 9),.int l]) rfl (a8W (B8 rfl (B8 rfl (B8 (b9 (x:=.lst ([(1:Int),2,3,7].map D.int)) rfl (D1 rfl e4) (S3 hr)) rfl))) (by show 3 ≤ sizeLine; decide)) rfl)
noncomputable abbrev LLd:DFn:=a28 LPx
theorem W2 {i j:Int} (hi:i.natAbs < 2 ^ 10) (hj:j.natAbs < 2 ^ 10):o7 (.int i) (.int j) = some (.int (i * j)):=T2 (Bd.bits (k:=10) hi (by decide)) (Bd.bits (k:=10) hj (by decide))
theorem b2Q {t:Nt} (ht:NtOk t) {z:IP} (hz:InU z) (fs:Option FS):LLd [ntD t,.int z.1,.int z.2] fs = some (pt (nP t z),fs):=by
 have hu:=hz.u
 have hv:=hz.v
 have hl:=ht.l
 have m1:=W2 (i:=t.a) (j:=z.1) (by have:=ht.a; omega) (by omega)
 have m2:=W2 (i:=t.b) (j:=z.2) (by have:=ht.b; omega) (by omega)
 have m3:=W2 (i:=t.c) (j:=z.1) (by have:=ht.c; omega) (by omega)
 have m4:=W2 (i:=t.d) (j:=z.2) (by have:=ht.d; omega) (by omega)
 have w:=b40 (k:=8) (nX t z) (nY t z) t.l fs (by omega) (show t.l.natAbs < 2 ^ 8 by omega) (by decide)
 have i0:pIx (ntD t) (.int 0) = some (.int t.a):=rfl
 have i1:pIx (ntD t) (.int 1) = some (.int t.b):=rfl
 have i2:pIx (ntD t) (.int 2) = some (.int t.c):=rfl
 have i3:pIx (ntD t) (.int 3) = some (.int t.d):=rfl
 have i4:pIx (ntD t) (.int 4) = some (.int t.x):=rfl
 have i5:pIx (ntD t) (.int 5) = some (.int t.y):=rfl
 have i6:pIx (ntD t) (.int 6) = some (.int t.l):=rfl
 generalize ntD t = N at *
 refine n9 (s:=⟨[.val N,.val (.int z.1),.val (.int z.2),.val (.int (nX t z))],fs⟩) ?_
 show a1G LPx ⟨[.val N,.val (.int z.1),.val (.int z.2),.no],fs⟩ = _
 unfold a1G
 exact m8 (s1:=⟨[.val N,.val (.int z.1),.val (.int z.2),.val (.int (nX t z))],fs⟩) (u6 (b9 (b9 (b9 (b9 rfl rfl i0) rfl m1) (b9 (b9 rfl rfl i1) rfl m2) rfl) (b9 rfl rfl i4) rfl) rfl)
  (o9 (l7 (o6 rfl (o6 (b9 (b9 (b9 (b9 rfl rfl i2) rfl m3) (b9 (b9 rfl rfl i3) rfl m4) rfl) (b9 rfl rfl i5) rfl) (o6 (b9 rfl rfl i6) rfl))) w))
noncomputable def ipD (z:IP):D:=.tup [.int z.1,.int z.2]
noncomputable def fmD (F:List IP):D:=.tup (F.map ipD)
noncomputable abbrev LFm:DFn:=a3u LDx
theorem b0S {p:D → D → Option (List D)} {a b:DE} {s s1 s2:DS} {x y:D} {z:List D} (h1:a s = some (x,s1)) (h2:b s1 = some (y,s2)) (h3:p x y = some z):Y7 p a b s = some (z,s2):=by
 unfold Y7
 rw [h1,Option.bind_some,h2,Option.bind_some,h3]
 rfl
theorem b4A {n:Nat} {f:FS} (h:Fd4 n f) (hn:n < 2 ^ 28):∃ F f',LFm [.feed] (some f) = some (fmD F,some f') ∧ FmB F = true ∧ Fd4 (n + 3) f':=by
 obtain ⟨r1,f1,e1,a1,a2,h1⟩:=J4 4 h
 obtain ⟨r2,f2,e2,b1,b2,h2⟩:=J4 4 h1
 obtain ⟨r3,f3,e3,c1,c2,h3⟩:=J4 8 h2
 obtain ⟨z,hz,hq⟩:=a1L (xs:=(A8 (1 + r1) (1 + r2)).map fmD) c1 (by show r3 < 8; exact c2)
 obtain ⟨F,hF,rfl⟩:=List.mem_map.mp hz
 refine ⟨F,f3,?_,b2X (by omega) (by omega) hF,h3⟩
 have m1:=W2 (i:=2) (j:=1 + r1) (by decide) (by omega)
 have m2:=W2 (i:=2) (j:=1 + r2) (by decide) (by omega)
 have hf:(A8 (1 + r1) (1 + r2)).map fmD = ((A8 (1 + r1) (1 + r2)).take 6).map fmD ++ [fmD [(0,1 + r2),(1 + r1,0),(2 * (1 + r1),1 + r2),(1 + r1,2 * (1 + r2))]] ++ [fmD [(0,1),(1,0),(1 + r1 + 1,0),(1 + r1 + 2,1),(1 + r1 + 1,2),(1,2)]]:=rfl
 rw [hf] at hq
 have w1:∀ s,o0 1 2 (a7 (dOp j4 (dC (.int 1)) (e5 LDx (a7 (dV 0) (a7 (dC (.int 4)) a9)))) (a7 (dOp j4 (dC (.int 1)) (e5 LDx (a7 (dV 0) (a7 (dC (.int 4)) a9)))) a9)) ⟨[.val .feed,.no,.no,s],some f⟩ = some (.next,⟨[.val .feed,.val (.int (1 + r1)),.val (.int (1 + r2)),s],some f2⟩):=fun s=>b6m (B8 (b9 rfl (D1 rfl e1) rfl) (B8 (b9 rfl (D1 rfl e2) rfl) rfl)) rfl
 generalize 1 + r1 = w at *
 generalize 1 + r2 = v at *
 refine n9 (s:=⟨[.val .feed,.val (.int w),.val (.int v),.own (((A8 w v).take 6).map fmD ++ [fmD [(0,v),(w,0),(2 * w,v),(w,2 * v)]] ++ [fmD [(0,1),(1,0),(w + 1,0),(w + 2,1),(w + 1,2),(1,2)]])],some f3⟩) ?_
 show a0o LDx ⟨[.val .feed,.no,.no,.no],some f⟩ = _
 unfold a0o
 refine m8 (w1 _) ?_
 refine m8 (s1:=⟨[.val .feed,.val (.int w),.val (.int v),.own (((A8 w v).take 3).map fmD)],some f2⟩) (M6 (i:=3) (s1:=⟨[.val .feed,.val (.int w),.val (.int v),.no],some f2⟩) (ds:=((A8 w v).take 3).map fmD) rfl (by show 3 < 4; decide)) ?_
 refine m8 (s1:=⟨[.val .feed,.val (.int w),.val (.int v),.own (((A8 w v).take 6).map fmD)],some f2⟩) (M6 (i:=3) (s1:=⟨[.val .feed,.val (.int w),.val (.int v),.own (((A8 w v).take 3).map fmD)],some f2⟩) (ds:=((A8 w v).take 6).map fmD) (b0S (x:=.lst (((A8 w v).take 3).map fmD)) (y:=.lst (((A8 w v).drop 3).take 3 |>.map fmD)) rfl rfl rfl) (by show 3 < 4; decide)) ?_
 refine m8 (s1:=⟨[.val .feed,.val (.int w),.val (.int v),.own (((A8 w v).take 6).map fmD ++ [fmD [(0,v),(w,0),(2 * w,v),(w,2 * v)]])],some f2⟩) (O7 (i:=3) (s:=⟨[.val .feed,.val (.int w),.val (.int v),.own (((A8 w v).take 6).map fmD)],some f2⟩) (s1:=⟨[.val .feed,.val (.int w),.val (.int v),.own (((A8 w v).take 6).map fmD)],some f2⟩) (ds:=((A8 w v).take 6).map fmD) (ds0:=((A8 w v).take 6).map fmD) (d:=fmD [(0,v),(w,0),(2 * w,v),(w,2 * v)]) rfl
  (a8W (o6 (x:=ipD (0,v)) rfl (o6 (x:=ipD (w,0)) rfl (o6 (x:=ipD (2 * w,v)) (B2 (b9 rfl rfl m1) rfl) (o6 (x:=ipD (w,2 * v)) (B2 rfl (b9 rfl rfl m2)) rfl)))) (by show 4 ≤ sizeLine; decide)) rfl (by show 6 < sizeLine; decide)) ?_
 refine m8 (s1:=⟨[.val .feed,.val (.int w),.val (.int v),.own (((A8 w v).take 6).map fmD ++ [fmD [(0,v),(w,0),(2 * w,v),(w,2 * v)]] ++ [fmD [(0,1),(1,0),(w + 1,0),(w + 2,1),(w + 1,2),(1,2)]])],some f2⟩) (O7 (i:=3) (s:=⟨[.val .feed,.val (.int w),.val (.int v),.own (((A8 w v).take 6).map fmD ++ [fmD [(0,v),(w,0),(2 * w,v),(w,2 * v)]])],some f2⟩) (s1:=⟨[.val .feed,.val (.int w),.val (.int v),.own (((A8 w v).take 6).map fmD ++ [fmD [(0,v),(w,0),(2 * w,v),(w,2 * v)]])],some f2⟩) (ds:=((A8 w v).take 6).map fmD ++ [fmD [(0,v),(w,0),(2 * w,v),(w,2 * v)]]) (ds0:=((A8 w v).take 6).map fmD ++ [fmD [(0,v),(w,0),(2 * w,v),(w,2 * v)]]) (d:=fmD [(0,1),(1,0),(w + 1,0),(w + 2,1),(w + 1,2),(1,2)]) rfl rfl rfl (by show 7 < sizeLine; decide)) ?_
 exact o9 (b9 rfl (D1 rfl e3) (S3 hq))
noncomputable abbrev LBg:DFn:=a4t Q8
theorem a4X {f:DE} {lo hi:DO} {s s1 s2 s3:DS} {ds:List DL.D} {l h:Option Int} (e:f s = some (.lst ds,s1)) (e1:lo s1 = some (l,s2)) (e2:hi s2 = some (h,s3)):dSl f lo hi s = some (.lst (C1 ds l h),s3):=by
 unfold dSl
 rw [e,Option.bind_some,e1,Option.bind_some,e2]
 rfl
theorem a5s {K:List Pt} (hK:∀ z ∈ K,Ps 8 z) (h3:3 ≤ K.length) (h6:K.length ≤ 6) (fs:Option FS):∃ i,i < K.length ∧ LBg [.lst (K.map pt)] fs = some (shT (K.drop i ++ K.take i),fs):=by
 obtain ⟨s',e,i,il,y2,rfl⟩:=V4 (t:=c8 2) (b:=a68 Q8) (fun _ s=>∃ i:Nat,i < K.length ∧ ∃ x2,s = ⟨[.val (.lst (K.map pt)),.val (.int (i:Int)),x2],fs⟩) (ups 0 K.length) 0 ⟨[.val (.lst (K.map pt)),.val (.int ((0:Nat):Int)),.no],fs⟩ ⟨0,by omega,_,rfl⟩ (by
  rintro j d s hd ⟨i,il,x2,rfl⟩
  obtain ⟨rfl,jl⟩:=V0 hd
  rw [Int.zero_add]
  have gi:pIx (.lst (K.map pt)) (.int (i:Int)) = some (pt K[i]):=S3 (N3 (by rw [List.getElem?_map,List.getElem?_eq_getElem il]; rfl))
  have gj:pIx (.lst (K.map pt)) (.int (j:Int)) = some (pt K[j]):=S3 (N3 (by rw [List.getElem?_map,List.getElem?_eq_getElem jl]; rfl))
  have w:=b6x (k:=8) K[j] K[i] fs (hK _ (List.getElem_mem jl)) (hK _ (List.getElem_mem il)) (by decide)
  generalize lsB K[j] K[i] = b at *
  have c:dTr (e5 Q8 (a7 (dOp pIx (dL 0) (dL 2)) (a7 (dOp pIx (dL 0) (dL 1)) a9))) ⟨[.val (.lst (K.map pt)),.val (.int (i:Int)),.val (.int (j:Int))],fs⟩ = some (b,⟨[.val (.lst (K.map pt)),.val (.int (i:Int)),.val (.int (j:Int))],fs⟩):=w9 (l7 (o6 (b9 rfl rfl gj) (o6 (b9 rfl rfl gi) rfl)) w)
  cases b with
  | true=>exact ⟨_,⟨[.val (.lst (K.map pt)),.val (.int (j:Int)),.val (.int (j:Int))],fs⟩,rfl,.inl ((C4 c).trans (u6 rfl rfl)),j,jl,_,rfl⟩
  | false=>exact ⟨_,_,rfl,.inl (u5 c),i,il,_,rfl⟩)
 have r:G2 [.int (K.length:Int)] = some (ups 0 K.length):=S7 (by omega)
 have ln:one i9 [.lst (K.map pt)] = some (.int (K.length:Int)):=by
  show some (D.int ((K.map pt).length:Int)) = _
  rw [List.length_map]
 have c1:C1 (K.map pt) (some (i:Int)) none = (K.drop i).map pt:=by
  unfold C1
  rw [HT.sIx_nat,HT.sIx_none,List.length_map,Nat.min_eq_left (by omega),List.take_of_length_le (by rw [List.length_drop,List.length_map]; omega),List.map_drop]
 have c2:C1 (K.map pt) none (some (i:Int)) = (K.take i).map pt:=by
  unfold C1
  rw [HT.sIx_nat,HT.sIx_none,List.length_map,Nat.min_eq_left (by omega),List.drop_zero,Nat.sub_zero,List.map_take]
 have ad:j4 (.lst ((K.drop i).map pt)) (.lst ((K.take i).map pt)) = some (.lst ((K.drop i ++ K.take i).map pt)):=by
  show (if ((K.drop i).map pt).length + ((K.take i).map pt).length ≤ sizeLine then some (D.lst ((K.drop i).map pt ++ (K.take i).map pt)) else none) = _
  rw [List.length_map,List.length_map,List.length_drop,List.length_take,if_pos (Nat.le_trans (by omega:_ ≤ 12) (by decide)),List.map_append]
 refine ⟨i,il,n9 (s:=⟨[.val (.lst (K.map pt)),.val (.int (i:Int)),y2],fs⟩) ?_⟩
 show a1c Q8 ⟨[.val (.lst (K.map pt)),.no,.no],fs⟩ = _
 unfold a1c
 refine m8 (s1:=⟨[.val (.lst (K.map pt)),.val (.int ((0:Nat):Int)),.no],fs⟩) (u6 rfl rfl) ?_
 refine m8 ((a0b (s1:=⟨[.val (.lst (K.map pt)),.val (.int ((0:Nat):Int)),.no],fs⟩) (o6 (A4 rfl ln) rfl) r).trans e) ?_
 exact o9 (A4 (o6 (b9 (x:=.lst ((K.drop i).map pt)) (y:=.lst ((K.take i).map pt)) (by rw [← c1]; exact a4X rfl rfl rfl) (by rw [← c2]; exact a4X rfl rfl rfl) ad) rfl) rfl)
noncomputable abbrev LSh:DFn:=a2F LDx LBg LFm LLd
theorem b0M {A:List Pt} (h:ShC A):Ok 2 24 (shT A):=by
 have:=OkL.all (k:=1) (n:=3) (ds:=A.map pt) fun d hd=>by
  obtain ⟨z,hz,rfl⟩:=List.mem_map.mp hd
  exact Ok.pt (h.ps z hz)
 refine (Ok.tup this).mono (by decide) ?_
 have:=h.hi
 rw [List.length_map]
 omega
theorem a2K {Ss:List (List Pt)} (h:∀ A ∈ Ss,ShC A):OkL 2 (Ss.length * 25) (Ss.map shT):=by
 have:=OkL.all (k:=2) (n:=24) (ds:=Ss.map shT) fun d hd=>by
  obtain ⟨z,hz,rfl⟩:=List.mem_map.mp hd
  exact b0M (h z hz)
 rw [List.length_map] at this
 exact this
theorem b6w {d:D} {ds:List D} (h:t6 (.lst (d :: ds)) = true):pNe (.lst (d :: ds)) (.lst []) = some (.bl true):=by
 show (if t6 (.lst (d :: ds)) && t6 (.lst []) then some (D.bl (!PyData.eqv (D.lst (d :: ds)).py (D.lst []).py)) else none) = _
 rw [h,if_pos (show (true && t6 (.lst [])) = true from rfl)]
 rfl
theorem a7w {t:Nt} (ht:NtOk t) {x y:Int} (hx:0 ≤ x ∧ x ≤ 19) (hy:0 ≤ y ∧ y ≤ 5) {sl:List Sl} (hs:E4 [1,6,7] sl = [.val (ntD t),.val (.int x),.val (.int y)]) (fs:Option FS):∀ F:List IP,(∀ z ∈ F,(0 ≤ z.1 ∧ z.1 ≤ 8) ∧ (0 ≤ z.2 ∧ z.2 ≤ 8)) → v8 (mk2 [1,6,7] sl) w8 (e5 LLd (a7 (dV 2) (a7 (dOp j4 (dL 0) (dL 3)) (a7 (dOp j4 (dL 1) (dL 4)) a9)))) (F.map ipD) fs = some ((F.map (shP t x y)).map pt,fs)
 | [],_=>rfl
 | z :: r,h=>by
  have hz:=h z (List.mem_cons_self ..)
  have e:=b2Q ht (z:=shf x y z) ⟨by show 0 ≤ z.1 + x ∧ z.1 + x ≤ 27; omega,by show 0 ≤ z.2 + y ∧ z.2 + y ≤ 13; omega⟩ fs
  have i:=a7w ht hx hy hs fs r fun z hz=>h z (List.mem_cons_of_mem _ hz)
  have m:mk2 [1,6,7] sl (ipD z) = some [.val (.int z.1),.val (.int z.2),.val (ntD t),.val (.int x),.val (.int y)]:=by
   show some (Sl.val (.int z.1) :: .val (.int z.2) :: E4 [1,6,7] sl) = _
   rw [hs]
  rw [List.map_cons,v8,m,Option.bind_some,show w8 ⟨[.val (.int z.1),.val (.int z.2),.val (ntD t),.val (.int x),.val (.int y)],fs⟩ = some (true,⟨[.val (.int z.1),.val (.int z.2),.val (ntD t),.val (.int x),.val (.int y)],fs⟩) from rfl,Option.bind_some,if_pos rfl,l7 (o6 rfl (o6 (b9 rfl rfl rfl) (o6 (b9 rfl rfl rfl) rfl))) e,Option.bind_some,i]
  rfl
noncomputable abbrev shS (t:Nt) (x2:Sl) (far:Int) (Ss:List (List Pt)) (x5 x6 x7 x8:Sl) (f:FS):DS:=⟨[.val .feed,.val (ntD t),x2,.val (.int far),.own (Ss.map shT),x5,x6,x7,x8],some f⟩
theorem a9P {F:List IP} (h:FmB F = true):F.length ≤ 6 ∧ ∀ z ∈ F,(0 ≤ z.1 ∧ z.1 ≤ 8) ∧ (0 ≤ z.2 ∧ z.2 ≤ 8):=by
 unfold FmB at h
 simp only [Bool.and_eq_true,decide_eq_true_eq] at h
 refine ⟨h.1.1.1.2,fun z hz=>?_⟩
 have q:=List.all_eq_true.mp h.2 z hz
 simp only [Bool.and_eq_true,decide_eq_true_eq] at q
 omega
theorem b08 {n:Nat} {f:FS} (h:Fd4 n f) (hn:n < 2 ^ 27) {t:Nt} (ht:NtOk t) {far:Int} (hf:0 ≤ far ∧ far ≤ 14) {Ss:List (List Pt)} (hS:∀ A ∈ Ss,ShC A) (hl:Ss.length ≤ 9) (x2 x5 x6 x7 x8:Sl) :
  ∃ A y6 y7 y8 f',ShC A ∧ U6 LDx LBg LFm LLd (shS t x2 far Ss x5 x6 x7 x8 f) = some (.next,shS t x2 far (Ss ++ [A]) x5 y6 y7 y8 f') ∧ Fd4 (n + 6) f':=by
 obtain ⟨r1,f1,e1,a1,a2,h1⟩:=J4 6 h
 obtain ⟨r2,f2,e2,b1,b2,h2⟩:=J4 6 h1
 obtain ⟨F,f3,e3,hF,h3⟩:=b4A h2 (by omega)
 obtain ⟨r4,f4,e4,d1,d2,h4⟩:=J4 9 h3
 obtain ⟨l6,hz⟩:=a9P hF
 have sc:=b10 (x:=far + r1) (y:=r2) ht hF (by omega) (by omega)
 have K3:=sc.lo
 have K6:=sc.hi
 obtain ⟨i,il,bg⟩:=a5s (K:=F.map (shP t (far + r1) r2)) (fun z hz=>(sc.sz z hz).1) K3 K6 (some f3)
 obtain ⟨i',il',bg'⟩:=a5s (K:=F.map (shP t (far + r1) r2)) (fun z hz=>(sc.sz z hz).1) K3 K6 (some f4)
 have row:=a7w ht (x:=far + r1) (y:=r2) (by omega) (by omega) (sl:=[.val .feed,.val (ntD t),x2,.val (.int far),.own (Ss.map shT),x5,.val (.int (far + r1)),.val (.int r2),x8]) rfl (some f3) F hz
 generalize hK:F.map (shP t (far + r1) r2) = K at *
 have s1:e8 (e6 (a7 (dOp j4 (dL 3) (e5 LDx (a7 (dV 0) (a7 (dC (.int 6)) a9)))) (a7 (e5 LDx (a7 (dV 0) (a7 (dC (.int 6)) a9))) a9))) (k6 2 (j5 (c8 6) (j5 (c8 7) l3))) (shS t x2 far Ss x5 x6 x7 x8 f) = some (.next,shS t x2 far Ss x5 (.val (.int (far + r1))) (.val (.int r2)) x8 f2):=
  u6 (B2 (b9 rfl (D1 rfl e1) rfl) (D1 rfl e2)) rfl
 have it:B1 (e5 LFm (a7 (dV 0) a9)) (shS t x2 far Ss x5 (.val (.int (far + r1))) (.val (.int r2)) x8 f2) = some (F.map ipD,shS t x2 far Ss x5 (.val (.int (far + r1))) (.val (.int r2)) x8 f3):=by
  unfold B1
  rw [D1 rfl e3]
  rfl
 have lz:(F.map ipD).length ≤ sizeLine:=by rw [List.length_map]; exact Nat.le_trans l6 (by decide)
 have s2:F5 8 (L8 [1,6,7] (B1 (e5 LFm (a7 (dV 0) a9))) w8 (e5 LLd (a7 (dV 2) (a7 (dOp j4 (dL 0) (dL 3)) (a7 (dOp j4 (dL 1) (dL 4)) a9))))) (shS t x2 far Ss x5 (.val (.int (far + r1))) (.val (.int r2)) x8 f2) = some (.next,shS t x2 far Ss x5 (.val (.int (far + r1))) (.val (.int r2)) (.own (K.map pt)) f3):=
  M6 (i:=8) (s1:=shS t x2 far Ss x5 (.val (.int (far + r1))) (.val (.int r2)) x8 f3) (ds:=K.map pt) (a4K it lz row) (by show 8 < 9; decide)
 generalize Sl.val (.int (far + r1)) = X at *
 generalize Sl.val (.int r2) = Y at *
 have lsz:∀ m:Nat,(Ss.map shT).length < sizeLine:=fun _=>by rw [List.length_map]; exact Nat.lt_of_le_of_lt hl (by decide)
 have apd:∀ A,Ss.map shT ++ [shT A] = (Ss ++ [A]).map shT:=fun A=>by rw [List.map_append]; rfl
 cases Ss with
 | nil=>
  refine ⟨K.drop i ++ K.take i,X,Y,.val (.lst (K.map pt)),f3,a66 sc i il,?_,h3.mono (by omega)⟩
  unfold U6
  refine m8 s1 (m8 s2 ?_)
  rw [V5 (a6Q (u4 (b9 (x:=.lst []) (y:=.lst []) rfl rfl rfl)))]
  exact O7 (i:=4) (s:=shS t x2 far [] x5 X Y (.own (K.map pt)) f3) (s1:=shS t x2 far [] x5 X Y (.val (.lst (K.map pt))) f3) (ds:=[]) (ds0:=[]) (d:=shT (K.drop i ++ K.take i)) rfl (a0m rfl bg) rfl (by show 0 < sizeLine; decide)
 | cons B r=>
  have ne:=b6w (d:=shT B) (ds:=r.map shT) (Ok.eq (Ok.lst (a2K hS)) (by decide))
  have cq:dB (dOp pNe (dL 4) (j8 (m6 a9))) (shS t x2 far (B :: r) x5 X Y (.own (K.map pt)) f3) = some (true,shS t x2 far (B :: r) x5 X Y (.own (K.map pt)) f3):=u4 (b9 (x:=.lst (shT B :: r.map shT)) (y:=.lst []) rfl rfl ne)
  have c9:dB (dOp pEq (e5 LDx (a7 (dV 0) (a7 (dC (.int 9)) a9))) (dC (.int 0))) (shS t x2 far (B :: r) x5 X Y (.own (K.map pt)) f3) = some (decide (r4 = 0),shS t x2 far (B :: r) x5 X Y (.own (K.map pt)) f4):=u4 (b9 (D1 rfl e4) rfl (R8 r4 0))
  by_cases z:r4 = 0
  ·rw [decide_eq_true z] at c9
   refine ⟨B,X,Y,.own (K.map pt),f4,hS B (List.mem_cons_self ..),?_,h4.mono (by omega)⟩
   unfold U6
   refine m8 s1 (m8 s2 ?_)
   rw [C4 (a1j cq c9)]
   refine Eq.trans (O7 (i:=4) (s:=shS t x2 far (B :: r) x5 X Y (.own (K.map pt)) f4) (s1:=shS t x2 far (B :: r) x5 X Y (.own (K.map pt)) f4) (ds:=(B :: r).map shT) (ds0:=(B :: r).map shT) (d:=shT B) rfl (b9 rfl rfl (S3 (N3 (j:=0) rfl))) rfl (lsz 0)) ?_
   show some (Fl.next,(⟨[.val .feed,.val (ntD t),x2,.val (.int far),.own ((B :: r).map shT ++ [shT B]),x5,X,Y,.own (K.map pt)],some f4⟩:DS)) = _
   rw [apd]
  ·rw [decide_eq_false z] at c9
   refine ⟨K.drop i' ++ K.take i',X,Y,.val (.lst (K.map pt)),f4,a66 sc i' il',?_,h4.mono (by omega)⟩
   unfold U6
   refine m8 s1 (m8 s2 ?_)
   rw [V5 (a1j cq c9)]
   refine Eq.trans (O7 (i:=4) (s:=shS t x2 far (B :: r) x5 X Y (.own (K.map pt)) f4) (s1:=shS t x2 far (B :: r) x5 X Y (.val (.lst (K.map pt))) f4) (ds:=(B :: r).map shT) (ds0:=(B :: r).map shT) (d:=shT (K.drop i' ++ K.take i')) rfl (a0m rfl bg') rfl (lsz 0)) ?_
   show some (Fl.next,(⟨[.val .feed,.val (ntD t),x2,.val (.int far),.own ((B :: r).map shT ++ [shT (K.drop i' ++ K.take i')]),x5,X,Y,.val (.lst (K.map pt))],some f4⟩:DS)) = _
   rw [apd]
structure PpS (Ss:List (List Pt)):Prop where
 sh:∀ A ∈ Ss,ShC A
 lo:1 ≤ Ss.length
 hi:Ss.length ≤ 2
theorem a76 {n:Nat} {f:FS} (h:Fd4 n f) (hn:n < 2 ^ 26) {t:Nt} (ht:NtOk t) {far:Int} (hf:0 ≤ far ∧ far ≤ 14):∃ Ss f',LSh [.feed,ntD t,.int 2,.int far] (some f) = some (.tup (Ss.map shT),some f') ∧ PpS Ss ∧ Fd4 (n + 13) f':=by
 obtain ⟨r,f1,e1,a1,a2,h1⟩:=J4 2 h
 obtain ⟨k,rfl⟩:=Int.eq_ofNat_of_zero_le a1
 have el:((1 + k:Nat):Int) = 1 + (k:Int):=by omega
 obtain ⟨s',e,Ss,x5,x6,x7,x8,f',rfl,hS,hl,h'⟩:=V4 (t:=c8 5) (b:=U6 LDx LBg LFm LLd) (fun i s=>∃ Ss x5 x6 x7 x8 f',s = shS t (.val (.int 2)) far Ss x5 x6 x7 x8 f' ∧ (∀ A ∈ Ss,ShC A) ∧ Ss.length = i ∧ Fd4 (n + 1 + 6 * i) f') (ups 0 (1 + k)) 0
  (shS t (.val (.int 2)) far [] .no .no .no .no f1) ⟨[],_,_,_,_,f1,rfl,fun A hA=>(by cases hA),rfl,h1⟩ (by
   rintro i d s hd ⟨Ss,x5,x6,x7,x8,f2,rfl,hS,hl,h2⟩
   obtain ⟨rfl,il⟩:=V0 hd
   rw [Nat.zero_add] at *
   obtain ⟨A,y6,y7,y8,f3,hA,e,h3⟩:=b08 h2 (by omega) ht hf hS (by omega) (.val (.int 2)) (.val (.int (0 + (i:Int)))) x6 x7 x8
   exact ⟨shS t (.val (.int 2)) far Ss (.val (.int (0 + (i:Int)))) x6 x7 x8 f2,_,rfl,.inl e,Ss ++ [A],_,_,_,_,f3,rfl,fun B hB=>by
    rcases List.mem_append.mp hB with q | q
    ·exact hS B q
    ·rw [List.mem_singleton.mp q]; exact hA,by rw [List.length_append,List.length_singleton,hl],h3.mono (by omega)⟩)
 rw [Nat.zero_add,X0] at hl h'
 have r1:G2 [.int (1 + (k:Int))] = some (ups 0 (1 + k)):=by rw [← el]; exact S7 (by omega)
 refine ⟨Ss,f',n9 (s:=shS t (.val (.int 2)) far Ss x5 x6 x7 x8 f') ?_,⟨hS,by omega,by omega⟩,h'.mono (by omega)⟩
 show a3G LDx LBg LFm LLd ⟨[.val .feed,.val (ntD t),.val (.int 2),.val (.int far),.no,.no,.no,.no,.no],some f⟩ = _
 unfold a3G
 refine m8 (s1:=shS t (.val (.int 2)) far [] .no .no .no .no f) (M6 (i:=4) (s1:=⟨[.val .feed,.val (ntD t),.val (.int 2),.val (.int far),.no,.no,.no,.no,.no],some f⟩) (ds:=[]) rfl (by show 4 < 9; decide)) ?_
 refine m8 ((a0b (s1:=shS t (.val (.int 2)) far [] .no .no .no .no f1) (B8 (b9 rfl (D1 rfl e1) rfl) rfl) r1).trans e) ?_
 exact o9 (A4 rfl rfl)
noncomputable abbrev LTw:DFn:=a30 LSh LDx LNt
theorem b0Z {n:Nat} {f:FS} (h:Fd4 n f) (hn:n < 2 ^ 25):∃ Ss Os f',LTw [.feed] (some f) = some (.tup [.tup (Ss.map shT),.tup (Os.map shT)],some f') ∧ PpS Ss ∧ PpS Os ∧ Fd4 (n + 40) f':=by
 obtain ⟨t,f1,e1,ht,h1⟩:=b4b h (by omega)
 obtain ⟨Ss,f2,e2,hS,h2⟩:=a76 h1 (by omega) ht (far:=0) (by decide)
 obtain ⟨r,f3,e3,a1,a2,h3⟩:=J4 5 h2
 obtain ⟨w,hw,hr⟩:=a1L (xs:=[(0:Int),2,5,9,14].map D.int) a1 (by show r < 5; exact a2)
 obtain ⟨far,hl,rfl⟩:=List.mem_map.mp hw
 have fb:0 ≤ far ∧ far ≤ 14:=(by decide:∀ l ∈ [(0:Int),2,5,9,14],0 ≤ l ∧ l ≤ 14) far hl
 obtain ⟨Os,f4,e4,hO,h4⟩:=a76 h3 (by omega) ht fb
 refine ⟨Ss,Os,f4,n9 (s:=⟨[.val .feed,.val (ntD t),.val (.tup (Ss.map shT))],some f4⟩) ?_,hS,hO,h4.mono (by omega)⟩
 show a1k LSh LDx LNt ⟨[.val .feed,.no,.no],some f⟩ = _
 unfold a1k
 refine m8 (s1:=⟨[.val .feed,.val (ntD t),.no],some f1⟩) (u6 (D1 rfl e1) rfl) ?_
 refine m8 (s1:=⟨[.val .feed,.val (ntD t),.val (.tup (Ss.map shT))],some f2⟩) (u6 (D1 rfl e2) rfl) ?_
 exact o9 (B2 rfl (a0m (sl':=[.val .feed,.val (ntD t),.val (.tup (Ss.map shT))]) (fs':=some f3) (B8 rfl (B8 rfl (B8 rfl (B8 (b9 (x:=.lst ([(0:Int),2,5,9,14].map D.int)) rfl (D1 rfl e3) (S3 hr)) rfl)))) e4))
noncomputable def ap0:D:=.tup [.str "apart",.tup []]
noncomputable abbrev s32 (x0 x2:Sl) (S O:D) (x5 x6 x7 x8:Sl) (f:FS):DS:=⟨[x0,.val .feed,x2,.val S,.val O,x5,x6,x7,x8],some f⟩
section
variable {m1 m2 m3 m4 m5:DFn} {S O:D} {f:FS}
theorem a5S {a b d:D} (x0 x2 x5 x6 x7 x8:Sl) (t:m1 [a,b] (some f) = some (d,some f)) (u:m3 [a,b,d] (some f) = some (.non,some f)) (l:m2 [a,b,d] (some f) = some (.bl true,some f)) :
  a2L m1 m2 m3 m4 m5 (s32 x0 x2 S O x5 (.val a) (.val b) x8 f) = some (.next,s32 x0 x2 S O x5 (.val a) (.val b) (.val d) f):=
 m8 (s1:=s32 x0 x2 S O x5 (.val a) (.val b) (.val d) f) (u6 (l7 rfl t) rfl) (u5 (B0 (u4 (b9 (l7 rfl u) rfl rfl)) (u4 (b9 (l7 rfl l) rfl rfl))))
theorem b3L {d e:D} (x0 x2 x5 x6 x7 x8:Sl) (t:m1 [S,O] (some f) = some (d,some f)) (u:m3 [S,O,d] (some f) = some (.non,some f)) (l:m2 [S,O,d] (some f) = some (.bl true,some f))
  (t':m1 [O,S] (some f) = some (e,some f)) (u':m3 [O,S,e] (some f) = some (.non,some f)) (l':m2 [O,S,e] (some f) = some (.bl true,some f)) :
  C0 (e6 (a7 (e6 (a7 (dV 3) (a7 (dV 4) a9))) (a7 (e6 (a7 (dV 4) (a7 (dV 3) a9))) a9))) (k6 2 (j5 (c8 6) (j5 (c8 7) l3))) (a2L m1 m2 m3 m4 m5) (s32 x0 x2 S O x5 x6 x7 x8 f) = some (.next,s32 x0 x2 S O x5 (.val O) (.val S) (.val e) f):=by
 refine (S8 (s1:=s32 x0 x2 S O x5 x6 x7 x8 f) (ds:=[.tup [S,O],.tup [O,S]]) (B2 (B2 rfl rfl) (B2 rfl rfl))).trans ?_
 refine (J9 (s1:=s32 x0 x2 S O x5 (.val S) (.val O) x8 f) rfl (a5S x0 x2 x5 x6 x7 x8 t u l)).trans ?_
 exact J9 (s1:=s32 x0 x2 S O x5 (.val O) (.val S) (.val d) f) rfl (a5S x0 x2 x5 x6 x7 (.val d) t' u' l')
theorem b1Q {f0:FS} {d e p R:D} {n:Int} {rows:List D} (x0 x2 x3 x4 x5 x6 x7 x8:Sl) (w:m4 [.feed] (some f0) = some (.tup [S,O],some f)) (r:R3 (.tup [S,O]) = some R) (rr:pNe R R = some (.bl false))
  (t:m1 [S,O] (some f) = some (d,some f)) (u:m3 [S,O,d] (some f) = some (.non,some f)) (l:m2 [S,O,d] (some f) = some (.bl true,some f))
  (t':m1 [O,S] (some f) = some (e,some f)) (u':m3 [O,S,e] (some f) = some (.non,some f)) (l':m2 [O,S,e] (some f) = some (.bl true,some f))
  (a1:m1 [.tup [],O] (some f) = some (ap0,some f)) (n1:pNe ap0 ap0 = some (.bl false))
  (a2:m1 [S,.tup []] (some f) = some (.tup [.str "apart",.tup rows],some f)) (ln:one i9 [S] = some (.int n)) (mt:a0p (.tup [.tup []]) (.int n) = some (.tup rows)) (n2:pNe (.tup [.str "apart",.tup rows]) (.tup [.str "apart",.tup rows]) = some (.bl false))
  (a3:m1 [S,S] (some f) = some (.tup [.str "meet",p],some f))
  (b1:m2 [.tup [],O,ap0] (some f) = some (.bl true,some f)) (b2:m2 [.tup [],.tup [],ap0] (some f) = some (.bl true,some f)) :
  a2m m1 m2 m3 m4 m5 ⟨[x0,.val .feed,x2,x3,x4,x5,x6,x7,x8],some f0⟩ = some (.next,s32 x0 x2 S O (.val R) (.val O) (.val S) (.val e) f):=by
 have z0:∀ s:DS,e6 (a7 (dC (.str "apart")) (a7 (e6 a9) a9)) s = some (ap0,s):=fun s=>B2 rfl rfl
 refine m8 (s1:=s32 x0 x2 S O x5 x6 x7 x8 f) (u6 (D1 rfl w) rfl) ?_
 refine m8 (s1:=s32 x0 x2 S O (.val R) x6 x7 x8 f) (u6 (A4 (o6 (B2 rfl rfl) rfl) r) rfl) ?_
 refine m8 (b3L x0 x2 (.val R) x6 x7 x8 t u l t' u' l') ?_
 refine m8 (s1:=s32 x0 x2 S O (.val R) (.val O) (.val S) (.val e) f) (u5 (B0 (u4 (b9 (l7 rfl a1) (z0 _) n1)) (u4 (b9 (l7 rfl a2) (B2 rfl (b9 rfl (A4 rfl ln) mt)) n2)))) ?_
 refine m8 (s1:=s32 x0 x2 S O (.val R) (.val O) (.val S) (.val e) f) (u5 (B0 (u4 (b9 (b9 (l7 rfl a3) rfl rfl) rfl rfl)) (u4 (b9 (A4 (o6 (B2 rfl rfl) rfl) r) rfl rr)))) ?_
 exact u5 (B0 (u4 (b9 (l7 (o6 rfl (o6 rfl (o6 (z0 _) rfl))) b1) rfl rfl)) (u4 (b9 (l7 (o6 rfl (o6 rfl (o6 (z0 _) rfl))) b2) rfl rfl)))
end
theorem a7i (n:Nat) (h:n ≤ 2):Ok 3 100 (.tup [.str "apart",.tup (List.replicate n (.tup []))]):=by
 have e:OkL 1 (n * 1) (List.replicate n (D.tup [])):=by
  have:=OkL.all (k:=1) (n:=0) (ds:=List.replicate n (D.tup [])) fun d hd=>by
   rw [(List.mem_replicate.mp hd).2]
   exact Ok.tup OkL.nil
  rw [List.length_replicate] at this
  exact this
 have s:Ok 0 (Str.length "apart") (.str "apart"):=Ok.str (by decide +kernel)
 refine (Ok.tup (OkL.cons s (OkL.cons (Ok.tup e) OkL.nil))).mono (by decide) ?_
 have:Str.length ("apart" : Str) = 5:=by decide +kernel
 rw [this]
 omega
theorem a6l (n:Nat) (h:n ≤ 2):pNe (.tup [.str "apart",.tup (List.replicate n (.tup []))]) (.tup [.str "apart",.tup (List.replicate n (.tup []))]) = some (.bl false):=by
 have e:=(a7i n h).eq
 have q:PyData.eqv (D.tup [.str "apart",.tup (List.replicate n (.tup []))]).py (D.tup [.str "apart",.tup (List.replicate n (.tup []))]).py = true:=by
  rcases (by omega:n = 0 ∨ n = 1 ∨ n = 2) with rfl | rfl | rfl <;> decide +kernel
 generalize List.replicate n (D.tup []) = r at *
 show (if t6 (.tup [.str "apart",.tup r]) && t6 (.tup [.str "apart",.tup r]) then some (D.bl (!PyData.eqv (D.tup [.str "apart",.tup r]).py (D.tup [.str "apart",.tup r]).py)) else none) = _
 rw [e,q]
 rfl
theorem b3s (Ss:List (List Pt)):apD Ss [] = .tup [.str "apart",.tup (List.replicate Ss.length (.tup []))]:=by
 unfold apD
 have:Ss.map (roD []) = List.replicate Ss.length (.tup []):=by
  rw [show roD [] = fun _=>D.tup [] from rfl,List.map_const']
 rw [this]
theorem b4z (n:Nat) (h1:1 ≤ n) (h2:n ≤ 2):a0p (.tup [.tup []]) (.int (n:Int)) = some (.tup (List.replicate n (.tup []))):=by
 rcases (by omega:n = 1 ∨ n = 2) with rfl | rfl <;> rfl
theorem a5J {Os:List (List Pt)} (hO:∀ B ∈ Os,ShC B) (lO:Os.length ≤ 50) (fs:Option FS):FTp [.tup [],.tup (Os.map shT)] fs = some (ap0,fs):=by
 rcases a1A (Ss:=[]) (fun A hA=>by cases hA) hO (by decide) lO fs with ⟨e,_⟩ | ⟨A,hA,_⟩
 ·exact e
 ·cases hA
theorem b3y {Ss:List (List Pt)} (hS:∀ B ∈ Ss,ShC B) (lS:Ss.length ≤ 50) (fs:Option FS):FTp [.tup (Ss.map shT),.tup []] fs = some (.tup [.str "apart",.tup (List.replicate Ss.length (.tup []))],fs):=by
 rcases a1A (Os:=[]) hS (fun A hA=>by cases hA) lS (by decide) fs with ⟨e,_⟩ | ⟨A,hA,B,hB,_⟩
 ·rw [b3s] at e
  exact e
 ·cases hB
theorem a9Y {Ss:List (List Pt)} (h:PpS Ss) (fs:Option FS):∃ p,FTp [.tup (Ss.map shT),.tup (Ss.map shT)] fs = some (.tup [.str "meet",p],fs):=by
 rcases a1A h.sh h.sh (by have:=h.hi; omega) (by have:=h.hi; omega) fs with ⟨_,q⟩ | ⟨A,hA,B,hB,p,e,_⟩
 ·have l:=h.lo
  have m:Ss[0] ∈ Ss:=List.getElem_mem l
  exact absurd (b00 (h.sh _ m)) (q _ m _ m)
 ·exact ⟨_,e⟩
theorem a7F {Os:List (List Pt)} (hO:∀ B ∈ Os,ShC B) (fs:Option FS):FLt [.tup [],.tup (Os.map shT),ap0] fs = some (.bl true,fs):=
 a8D (Ss:=[]) (fun A hA=>by cases hA) hO (fun A hA=>by cases hA) fs
noncomputable abbrev C32:DM:=a2m FTp FLt LD9 LTw V2
theorem b6Q {n:Nat} {f:FS} (h:Fd4 n f) (hn:n < 2 ^ 25) (x0 x2 x3 x4 x5 x6 x7 x8:Sl) :
  ∃ y3 y4 y5 y6 y7 y8 f',C32 ⟨[x0,.val .feed,x2,x3,x4,x5,x6,x7,x8],some f⟩ = some (.next,⟨[x0,.val .feed,x2,y3,y4,y5,y6,y7,y8],some f'⟩) ∧ Fd4 (n + 40) f':=by
 obtain ⟨Ss,Os,f',e,hS,hO,h'⟩:=b0Z h hn
 have s1:=hS.lo
 have s2:=hS.hi
 have o2:=hO.hi
 obtain ⟨d,t,u,l⟩:=a5o hS.sh hO.sh (by omega) (by omega) (some f')
 obtain ⟨d',t',u',l'⟩:=a5o hO.sh hS.sh (by omega) (by omega) (some f')
 have ok:Ok 4 300 (.tup [.tup (Ss.map shT),.tup (Os.map shT)]):=by
  refine (Ok.tup (OkL.cons (Ok.tup (a2K hS.sh)) (OkL.cons (Ok.tup (a2K hO.sh)) OkL.nil))).mono (by decide) ?_
  omega
 obtain ⟨p,a3⟩:=a9Y hS (some f')
 have a1:=a5J hO.sh (by omega) (some f')
 have a2:=b3y hS.sh (by omega) (some f')
 have b1:=a7F hO.sh (some f')
 have b2:FLt [.tup [],.tup [],ap0] (some f') = some (.bl true,some f'):=a7F (Os:=[]) (fun A hA=>by cases hA) (some f')
 have ln:one i9 [.tup (Ss.map shT)] = some (.int (Ss.length:Int)):=X8 (by rw [List.length_map])
 have n2:=a6l Ss.length s2
 have n1:pNe ap0 ap0 = some (.bl false):=a6l 0 (by decide)
 generalize D.tup (Ss.map shT) = X at *
 generalize D.tup (Os.map shT) = Y at *
 exact ⟨_,_,_,_,_,_,f',b1Q x0 x2 x3 x4 x5 x6 x7 x8 e ok.repr (by rw [b5x,decide_eq_true rfl]; rfl) t u l t' u' l' a1 n1 a2 ln (b4z Ss.length s1 s2) n2 a3 b1 b2,h'⟩
theorem math (ns:List Int) (hl:ns.length ≤ 63):∃ fs',a1T FTp FLt LD9 LTw V2 [.scr ns] none = some (.bl true,fs'):=by
 obtain ⟨s',e,x2,x3,x4,x5,x6,x7,x8,f',rfl,hf⟩:=V4 (t:=c8 2) (b:=C32) (fun i s=>∃ x2 x3 x4 x5 x6 x7 x8 f,s = ⟨[.val (.scr ns),.val .feed,x2,x3,x4,x5,x6,x7,x8],some f⟩ ∧ Fd4 (40 * i) f) (ups 0 4) 0
  ⟨[.val (.scr ns),.val .feed,.no,.no,.no,.no,.no,.no,.no],some ⟨E8 ns,0,0,0,2⟩⟩ ⟨_,_,_,_,_,_,_,_,rfl,Fd4.zero ns⟩ (by
   rintro i d s hd ⟨x2,x3,x4,x5,x6,x7,x8,f,rfl,hf⟩
   obtain ⟨rfl,hi⟩:=V0 hd
   obtain ⟨y3,y4,y5,y6,y7,y8,f',e,h'⟩:=b6Q hf (by omega) (.val (.scr ns)) (.val (.int (0 + (i:Int)))) x3 x4 x5 x6 x7 x8
   exact ⟨⟨[.val (.scr ns),.val .feed,.val (.int (0 + (i:Int))),x3,x4,x5,x6,x7,x8],some f⟩,_,rfl,.inl e,_,_,_,_,_,_,_,f',rfl,h'.mono (by omega)⟩)
 have r4:G2 [.int 4] = some (ups 0 4):=S7 (n:=4) (by decide)
 have pe:FTp [.tup [],.tup []] (some f') = some (ap0,some f'):=a5J (Os:=[]) (fun A hA=>by cases hA) (by decide) (some f')
 have pq:pEq ap0 ap0 = some (.bl true):=by
  have o:=(a7i 0 (by decide)).eq
  have q:PyData.eqv ap0.py ap0.py = true:=by decide +kernel
  show (if t6 ap0 && t6 ap0 then some (D.bl (PyData.eqv ap0.py ap0.py)) else none) = _
  rw [show t6 ap0 = true from o,q]
  rfl
 refine ⟨some f',n9 (s:=⟨[.val (.scr ns),.val .feed,x2,x3,x4,x5,x6,x7,x8],some f'⟩) ?_⟩
 show a0Q FTp FLt LD9 LTw V2 ⟨[.val (.scr ns),.no,.no,.no,.no,.no,.no,.no,.no],none⟩ = _
 unfold a0Q
 refine m8 (s1:=⟨[.val (.scr ns),.val .feed,.no,.no,.no,.no,.no,.no,.no],some ⟨E8 ns,0,0,0,2⟩⟩) (u6 (a1s (s1:=⟨[.val (.scr ns),.no,.no,.no,.no,.no,.no,.no,.no],none⟩) rfl (b2k ns hl)) rfl) ?_
 refine m8 (s1:=⟨[.val (.scr ns),.val .feed,x2,x3,x4,x5,x6,x7,x8],some f'⟩) (by rw [a0b (xs:=[.int 4]) rfl r4]; exact e) ?_
 generalize FTp = m1 at *
 exact o9 (b9 (l7 rfl pe) (B2 rfl rfl) pq)
end T
namespace T
open PySem PySem.Spec L2 DL
local macro_rules | `(tactic| wtm_at "c")=>`(tactic| first | with_reducible exact a0U | with_reducible exact a1U | with_reducible exact a9w | with_reducible exact a5H | with_reducible exact b0v | with_reducible exact b2i | with_reducible exact b2N | (with_reducible apply a99); exact u64 (by assumption) | (with_reducible apply a4Z); exact u64 (by assumption) | (with_reducible apply a2M); exact u64 (by assumption) | (with_reducible apply a9A); exact u64 (by assumption))
local macro_rules | `(tactic| wtm_at "o")=>`(tactic| first | with_reducible exact b5M | with_reducible exact a9C | with_reducible exact a9H | with_reducible exact b2j | with_reducible exact b4K | with_reducible exact b4J | with_reducible exact a1Q | with_reducible exact b3E)
local macro_rules | `(tactic| wtm_at "q")=>`(tactic| first | with_reducible exact a9D | with_reducible exact b0k | with_reducible exact b6V | with_reducible exact b1D | with_reducible exact b4q | with_reducible exact a9F | with_reducible exact b1h | with_reducible exact b32)
local macro_rules | `(tactic| wtm_at "r")=>`(tactic| first | with_reducible exact T5 _ | with_reducible exact b6i | with_reducible exact a6P | with_reducible exact b6d | with_reducible exact b1m | with_reducible exact a9I | with_reducible exact a33 | with_reducible exact b0f)
local macro_rules | `(tactic| wtm_at "k")=>`(tactic| first | with_reducible exact b4g | with_reducible exact b2w | with_reducible exact a6c | with_reducible exact (a5Z rfl) | with_reducible exact (a5Y rfl) | with_reducible exact (a5O rfl) | (focus (with_reducible apply b4a);exact u66 (by assumption);exact (by assumption:Room _ _).gd))
local macro_rules | `(tactic| wtm_at "m")=>`(tactic| first | with_reducible exact b4M | with_reducible exact b2Z | with_reducible exact a7E | with_reducible exact a83 | with_reducible exact a56 | with_reducible exact a5K | with_reducible exact b4U)
local macro_rules | `(tactic| wtm_at "b")=>`(tactic| first | exact Blt.abs (by assumption) | exact Blt.all (by assumption) | exact Blt.bool (by assumption) | exact Blt.enumerate (by assumption) | exact Blt.int (by assumption) | exact Blt.isinstance (by assumption) | exact Blt.len (by assumption) | exact Blt.list (by assumption) | exact Blt.max (by assumption) | exact Blt.min (by assumption) | exact Blt.range (by assumption) | exact Blt.repr (by assumption) | exact Blt.str (by assumption) | exact Blt.tuple (by assumption) | exact Blt.zip (by assumption))
local macro_rules | `(tactic| wtm_at "t")=>`(tactic| first | exact b3B | exact a7t | exact a0X | exact a0k | exact b4m | exact a3t | exact a8a | exact a5r | exact b3M | exact a4c | exact J0)
local macro_rules | `(tactic| wtm_at "n")=>`(tactic| first | exact b5l | (refine b5I ?_);wtm_at "n")
local macro_rules | `(tactic| wtm_at "l")=>`(tactic| first | exact Or.inl rfl | exact Or.inr rfl)
local macro_rules | `(tactic| wtm_at "x")=>`(tactic| first | exact rfl | exact Or.inl rfl | exact Or.inr rfl | decide | (intro _;rfl))
local macro_rules | `(tactic| wtm_at "S")=>`(tactic| first | (focus (with_reducible apply D9);all_goals wtm_at "x") | (focus (with_reducible apply A2);wtm_at "s";all_goals wtm_at "x") | (focus (with_reducible apply v3);wtm_at "s";wtm_at "S";all_goals wtm_at "x"))
local macro_rules | `(tactic| wtm_at "s")=>`(tactic| first | (focus (with_reducible apply b0s);assumption;exact rfl;wtm_at "l";wtm_at "E";all_goals wtm_at "x") | (focus (with_reducible apply A9);wtm_at "E";all_goals wtm_at "x") | (focus (with_reducible apply D4);wtm_at "T";wtm_at "S";wtm_at "S";all_goals wtm_at "x") | (focus (with_reducible apply b3w);wtm_at "E";wtm_at "G";all_goals wtm_at "x") | (focus (with_reducible apply b1T);exact pv _;wtm_at "E";all_goals wtm_at "x") | (focus (with_reducible apply a5U);assumption;exact rfl;wtm_at "l";wtm_at "F";all_goals wtm_at "x") | (focus (with_reducible apply b55);exact PassesOwn.never;exact rfl;wtm_at "E";wtm_at "G";wtm_at "S";all_goals wtm_at "x") | (focus (with_reducible apply b3f);exact PassesOwn.never;wtm_at "T";wtm_at "S";all_goals wtm_at "x") | (focus (with_reducible apply a3s);exact PassesOwn.never;exact rfl;exact rfl;exact Blt.range (by assumption);wtm_at "E";wtm_at "G";wtm_at "S";all_goals wtm_at "x") | (focus (with_reducible apply a6H);all_goals wtm_at "x") | (focus (with_reducible apply b1F);exact pv _;wtm_at "E";all_goals wtm_at "x") | (focus (with_reducible apply b1V);exact rfl;assumption;exact rfl;exact rfl;decide;exact rfl;exact rfl;wtm_at "A";exact rfl;all_goals wtm_at "x"))
local macro_rules | `(tactic| wtm_at "B")=>`(tactic| first | (focus (with_reducible apply F3);exact pv _;all_goals wtm_at "x") | (focus (with_reducible apply EO.b);wtm_at "E";all_goals wtm_at "x"))
local macro_rules | `(tactic| wtm_at "E")=>`(tactic| first | (focus (with_reducible apply T3);exact pv _;all_goals wtm_at "x") | (focus (with_reducible apply X6);all_goals wtm_at "x") | (focus (with_reducible apply b2g);exact b5o;exact b0U;wtm_at "B";wtm_at "B";exact fun _ _=>rfl;all_goals wtm_at "x") | (focus (with_reducible apply b6Y);rotate_left;wtm_at "q";rotate_right;wtm_at "o";wtm_at "B";wtm_at "B";all_goals wtm_at "x") | (focus (with_reducible apply b5g);assumption;assumption;(first | decide | exact Nat.le_refl _ | exact Nat.le_trans (by decide) (Nat.le_add_right _ _));exact rfl;wtm_at "A";wtm_at "n";all_goals wtm_at "x") | (focus (with_reducible apply b43);wtm_at "A";all_goals wtm_at "x") | (focus (with_reducible apply b4Q);decide +kernel;all_goals wtm_at "x") | (focus (with_reducible apply b0q);all_goals wtm_at "x") | (focus (with_reducible apply F6);all_goals wtm_at "x") | (focus (with_reducible apply b3v);exact b4o;exact b0A;wtm_at "B";all_goals wtm_at "x") | (focus (with_reducible apply FO.v);wtm_at "F";all_goals wtm_at "x") | (focus (with_reducible apply a0z);rotate_left;wtm_at "r";rotate_right;wtm_at "c";wtm_at "B";wtm_at "B";(first | exact U5 _ | exact rfl);all_goals wtm_at "x") | (focus (with_reducible apply b5S);wtm_at "T";wtm_at "E";wtm_at "E";all_goals wtm_at "x") | (focus (with_reducible apply b5u);wtm_at "B";wtm_at "O";wtm_at "O";all_goals wtm_at "x") | (focus (with_reducible apply a8y);wtm_at "E";all_goals wtm_at "x") | (focus (with_reducible apply a1f);rotate_left;wtm_at "m";rotate_right;wtm_at "k";exact rfl;wtm_at "b";wtm_at "t";wtm_at "a";all_goals wtm_at "x") | (focus (with_reducible apply a47);rotate_left;wtm_at "m";rotate_right;wtm_at "k";exact rfl;wtm_at "b";wtm_at "t";wtm_at "a";all_goals wtm_at "x") | (focus (with_reducible apply b26);exact pv _;all_goals wtm_at "x") | (focus (with_reducible apply a1w);wtm_at "E";all_goals wtm_at "x") | (focus (with_reducible apply a1N);wtm_at "E";wtm_at "E";all_goals wtm_at "x") | (focus (with_reducible apply b2S);wtm_at "E";wtm_at "E";all_goals wtm_at "x"))
local macro_rules | `(tactic| wtm_at "A")=>`(tactic| first | (focus (with_reducible apply ac);wtm_at "E";wtm_at "A";all_goals wtm_at "x") | (focus (with_reducible apply a19);all_goals wtm_at "x"))
local macro_rules | `(tactic| wtm_at "a")=>`(tactic| first | (focus (with_reducible apply bc);wtm_at "B";wtm_at "a";all_goals wtm_at "x") | (focus (with_reducible apply Z6);all_goals wtm_at "x"))
local macro_rules | `(tactic| wtm_at "T")=>`(tactic| first | (focus (with_reducible apply a4C);rotate_left;wtm_at "r";rotate_right;wtm_at "c";wtm_at "B";wtm_at "B";(first | exact U5 _ | exact rfl);all_goals wtm_at "x") | (focus (with_reducible apply WO.t);wtm_at "W";all_goals wtm_at "x") | (focus (with_reducible apply D2);wtm_at "T";all_goals wtm_at "x") | (focus (with_reducible apply C7);wtm_at "B";all_goals wtm_at "x"))
local macro_rules | `(tactic| wtm_at "W")=>`(tactic| first | (focus (with_reducible apply b1f);wtm_at "T";wtm_at "W";all_goals wtm_at "x") | (focus (with_reducible apply b1n);wtm_at "T";all_goals wtm_at "x") | (focus (with_reducible apply E5);wtm_at "T";wtm_at "W";all_goals wtm_at "x") | (focus (with_reducible apply V7);wtm_at "T";all_goals wtm_at "x"))
local macro_rules | `(tactic| wtm_at "O")=>`(tactic| first | (focus (with_reducible apply b0p);all_goals wtm_at "x") | (focus (with_reducible apply b56);wtm_at "B";all_goals wtm_at "x"))
local macro_rules | `(tactic| wtm_at "F")=>`(tactic| first | (focus (with_reducible apply b4c);wtm_at "A";all_goals wtm_at "x") | (focus (with_reducible apply b5e);rotate_left;wtm_at "q";rotate_right;wtm_at "o";wtm_at "B";wtm_at "B";all_goals wtm_at "x"))
local macro_rules | `(tactic| wtm_at "G")=>`(tactic| first | (focus (with_reducible apply b1C);wtm_at "h";all_goals wtm_at "x") | (focus (with_reducible apply b07);exact rfl;wtm_at "g";all_goals wtm_at "x"))
local macro_rules | `(tactic| wtm_at "h")=>`(tactic| first | (focus (with_reducible apply F8);assumption;exact rfl;wtm_at "l";all_goals wtm_at "x"))
local macro_rules | `(tactic| wtm_at "g")=>`(tactic| first | (focus (with_reducible apply b3T);wtm_at "G";wtm_at "g";all_goals wtm_at "x") | (focus (with_reducible apply b6D);all_goals wtm_at "x"))
local macro_rules | `(tactic| wtm_at "R")=>`(tactic| first | (refine A2 ?_;wtm_at "s") | (refine v3 ?_ ?_;wtm_at "s";wtm_at "S"))
noncomputable def top (i:Nat):Stmt:=PySem.Challenge.pw_widelines_k32_papers_of_two_told.main.body.getD i (.Pass ⟨0,0,0,0⟩)
noncomputable abbrev a3E:Stmt:=top 36
theorem sc_law_tape:FnScope ["_law_script"] ["_law_script"] (k9 a3E):=⟨rfl,rfl,rfl,by decide +kernel,rfl,by decide +kernel,by decide +kernel⟩
set_option maxHeartbeats 4000000 in
section
variable {P:Program} {w:World} {K:PySem.W.Frag} {mg:Str → Option Value} {base:Heap}
theorem b5W {f:Addr} {fd:FuncData} (B:Blt mg) (F:GF K mg "_law_tape" a3E f fd):Cal P w K mg base 1 "_law_tape" ["_law_script"] (V2):=
 t7 F (fun _ _ _ _ _ _=>on1 fun _=>rfl) sc_law_tape fun cdv A outer s H E g hr=>
  have nd:=sc_law_tape.nd
  (A2 (A9 (b2B (u64 hr) (pv 0) (pv 0) (by rfl) B.list a3t (by rfl) B.int a0k)))
noncomputable abbrev a2I:Stmt:=top 37
theorem sc_law_draw:FnScope ["_law_tape_here", "_law_many", "_law_digit", "_law_spot", "_law_cell", "_law_mixed"] ["_law_tape_here", "_law_many"] (k9 a2I):=⟨rfl,rfl,rfl,by decide +kernel,rfl,by decide +kernel,by decide +kernel⟩
set_option maxHeartbeats 4000000 in
theorem b6X {f:Addr} {fd:FuncData} (B:Blt mg) (F:GF K mg "_law_draw" a2I f fd):Cal P w K mg base 1 "_law_draw" ["_law_tape_here", "_law_many"] (X1):=
 t7 F (fun _ _ _ _ _ _=>on2 fun _ _=>rfl) sc_law_draw fun cdv A outer s H E g hr=>
  have nd:=sc_law_draw.nd
  by unfold Q5;wtm_at "R"
noncomputable abbrev a2R:Stmt:=top 45
theorem sc_law_net:FnScope ["_law_tape_here", "_law_some", "_law_found", "_law_x", "_law_y"] ["_law_tape_here"] (k9 a2R):=⟨rfl,rfl,rfl,by decide +kernel,rfl,by decide +kernel,by decide +kernel⟩
set_option maxHeartbeats 4000000 in
theorem b2K {m_law_draw:DFn} (C_law_draw:Cal P w K mg base 1 "_law_draw" ["_law_tape_here", "_law_many"] m_law_draw) {f:Addr} {fd:FuncData} (B:Blt mg) (F:GF K mg "_law_net" a2R f fd):Cal P w K mg base 2 "_law_net" ["_law_tape_here"] (a3D m_law_draw):=
 t7 F (fun _ _ _ _ _ _=>on1 fun _=>rfl) sc_law_net fun cdv A outer s H E g hr=>
  have nd:=sc_law_net.nd
  by unfold a0A;wtm_at "R"
noncomputable abbrev a4H:Stmt:=top 38
theorem sc_law_common:FnScope ["_law_one", "_law_other"] ["_law_one", "_law_other"] (k9 a4H):=⟨rfl,rfl,rfl,by decide +kernel,rfl,by decide +kernel,by decide +kernel⟩
set_option maxHeartbeats 4000000 in
theorem b5c {f:Addr} {fd:FuncData} (B:Blt mg) (F:GF K mg "_law_common" a4H f fd):Cal P w K mg base 1 "_law_common" ["_law_one", "_law_other"] (R4):=
 t7 F (fun _ _ _ _ _ _=>on2 fun _ _=>rfl) sc_law_common fun cdv A outer s H E g hr=>
  have nd:=sc_law_common.nd
  by unfold a82;wtm_at "R"
noncomputable abbrev a2B:Stmt:=top 39
theorem sc_law_place:FnScope ["_law_x", "_law_y", "_law_bottom", "_law_by"] ["_law_x", "_law_y", "_law_bottom"] (k9 a2B):=⟨rfl,rfl,rfl,by decide +kernel,rfl,by decide +kernel,by decide +kernel⟩
set_option maxHeartbeats 4000000 in
theorem a98 {m_law_common:DFn} (C_law_common:Cal P w K mg base 1 "_law_common" ["_law_one", "_law_other"] m_law_common) {f:Addr} {fd:FuncData} (B:Blt mg) (F:GF K mg "_law_place" a2B f fd):Cal P w K mg base 2 "_law_place" ["_law_x", "_law_y", "_law_bottom"] (a3V m_law_common):=
 t7 F (fun _ _ _ _ _ _=>on3 fun _ _ _=>rfl) sc_law_place fun cdv A outer s H E g hr=>
  have nd:=sc_law_place.nd
  by unfold a0G;wtm_at "R"
noncomputable abbrev a3C:Stmt:=top 46
theorem sc_law_laid:FnScope ["_law_net_here", "_law_u", "_law_v", "_law_x"] ["_law_net_here", "_law_u", "_law_v"] (k9 a3C):=⟨rfl,rfl,rfl,by decide +kernel,rfl,by decide +kernel,by decide +kernel⟩
set_option maxHeartbeats 4000000 in
theorem b3V {m_law_place:DFn} (C_law_place:Cal P w K mg base 2 "_law_place" ["_law_x", "_law_y", "_law_bottom"] m_law_place) {f:Addr} {fd:FuncData} (B:Blt mg) (F:GF K mg "_law_laid" a3C f fd):Cal P w K mg base 3 "_law_laid" ["_law_net_here", "_law_u", "_law_v"] (a28 m_law_place):=
 t7 F (fun _ _ _ _ _ _=>on3 fun _ _ _=>rfl) sc_law_laid fun cdv A outer s H E g hr=>
  have nd:=sc_law_laid.nd
  by unfold a1G;wtm_at "R"
noncomputable abbrev a3k:Stmt:=top 44
theorem sc_law_form:FnScope ["_law_tape_here", "_law_w", "_law_h", "_law_some"] ["_law_tape_here"] (k9 a3k):=⟨rfl,rfl,rfl,by decide +kernel,rfl,by decide +kernel,by decide +kernel⟩
set_option maxHeartbeats 4000000 in
theorem b3o {m_law_draw:DFn} (C_law_draw:Cal P w K mg base 1 "_law_draw" ["_law_tape_here", "_law_many"] m_law_draw) {f:Addr} {fd:FuncData} (B:Blt mg) (F:GF K mg "_law_form" a3k f fd):Cal P w K mg base 2 "_law_form" ["_law_tape_here"] (a3u m_law_draw):=
 t7 F (fun _ _ _ _ _ _=>on1 fun _=>rfl) sc_law_form fun cdv A outer s H E g hr=>
  have nd:=sc_law_form.nd
  by unfold a0o;wtm_at "R"
noncomputable abbrev a3b:Stmt:=top 41
theorem sc_law_less:FnScope ["_law_one", "_law_other", "_law_first"] ["_law_one", "_law_other"] (k9 a3b):=⟨rfl,rfl,rfl,by decide +kernel,rfl,by decide +kernel,by decide +kernel⟩
set_option maxHeartbeats 4000000 in
theorem a9y {f:Addr} {fd:FuncData} (B:Blt mg) (F:GF K mg "_law_less" a3b f fd):Cal P w K mg base 1 "_law_less" ["_law_one", "_law_other"] (Q8):=
 t7 F (fun _ _ _ _ _ _=>on2 fun _ _=>rfl) sc_law_less fun cdv A outer s H E g hr=>
  have nd:=sc_law_less.nd
  by unfold a1z;wtm_at "R"
noncomputable abbrev a11:Stmt:=top 43
theorem sc_law_begun:FnScope ["_law_corners", "_law_at", "_law_k"] ["_law_corners"] (k9 a11):=⟨rfl,rfl,rfl,by decide +kernel,rfl,by decide +kernel,by decide +kernel⟩
set_option maxHeartbeats 4000000 in
theorem b5v {m_law_less:DFn} (C_law_less:Cal P w K mg base 1 "_law_less" ["_law_one", "_law_other"] m_law_less) {f:Addr} {fd:FuncData} (B:Blt mg) (F:GF K mg "_law_begun" a11 f fd):Cal P w K mg base 2 "_law_begun" ["_law_corners"] (a4t m_law_less):=
 t7 F (fun _ _ _ _ _ _=>on1 fun _=>rfl) sc_law_begun fun cdv A outer s H E g hr=>
  have nd:=sc_law_begun.nd
  by unfold a1c;wtm_at "R"
noncomputable abbrev a4x:Stmt:=top 47
theorem sc_law_shapes:FnScope ["_law_tape_here", "_law_net_here", "_law_most", "_law_far", "_law_found", "_law_k", "_law_x", "_law_y", "_law_corners"] ["_law_tape_here", "_law_net_here", "_law_most", "_law_far"] (k9 a4x):=⟨rfl,rfl,rfl,by decide +kernel,rfl,by decide +kernel,by decide +kernel⟩
set_option maxHeartbeats 4000000 in
theorem a9x {m_law_draw:DFn} {m_law_begun:DFn} {m_law_form:DFn} {m_law_laid:DFn} (C_law_draw:Cal P w K mg base 1 "_law_draw" ["_law_tape_here", "_law_many"] m_law_draw) (C_law_begun:Cal P w K mg base 2 "_law_begun" ["_law_corners"] m_law_begun) (C_law_form:Cal P w K mg base 2 "_law_form" ["_law_tape_here"] m_law_form) (C_law_laid:Cal P w K mg base 3 "_law_laid" ["_law_net_here", "_law_u", "_law_v"] m_law_laid) {f:Addr} {fd:FuncData} (B:Blt mg) (F:GF K mg "_law_shapes" a4x f fd):Cal P w K mg base 4 "_law_shapes" ["_law_tape_here", "_law_net_here", "_law_most", "_law_far"] (a2F m_law_draw m_law_begun m_law_form m_law_laid):=
 t7 F (fun _ _ _ _ _ _=>on4 fun _ _ _ _=>rfl) sc_law_shapes fun cdv A outer s H E g hr=>
  have nd:=sc_law_shapes.nd
  (v3 (by wtm_at "s") (v3 (a3s PassesOwn.never rfl (by rfl) B.range (by wtm_at "E") (by wtm_at "G") (v3 (by wtm_at "s") (v3 (b1r (i:=8) nd rfl (by first | exact Or.inl rfl | exact Or.inr rfl) (b0j (caps:=["_law_net_here", "_law_x", "_law_y"]) (idx:=[1,6,7]) rfl (a5k (by rfl) (.cons rfl (.cons rfl (.cons rfl .nil))) (by decide +kernel) rfl (by decide +kernel) (by rfl) (.cons rfl (by first | exact Or.inl rfl | exact Or.inr rfl) (by first | exact Or.inl rfl | exact Or.inr rfl) (.cons rfl (by first | exact Or.inl rfl | exact Or.inr rfl) (by first | exact Or.inl rfl | exact Or.inr rfl) (.cons rfl (by first | exact Or.inl rfl | exact Or.inr rfl) (by first | exact Or.inl rfl | exact Or.inr rfl) .nil)))) (T9 (by wtm_at "E")) (show List.Nodup (["_law_u", "_law_v", "_law_net_here", "_law_x", "_law_y"]:List Str) by decide +kernel) (fun _ _ _ _=>rfl) (fun _ _ _ _=>rfl) (fun _ _ _ _ _=>S0) (fun _ _ _ _ _=>(by wtm_at "E")))) (by wtm_at "S")))) (by wtm_at "S")))
noncomputable abbrev a2a:Stmt:=top 51
theorem sc_law_two:FnScope ["_law_tape_here", "_law_net_here", "_law_shapes_here"] ["_law_tape_here"] (k9 a2a):=⟨rfl,rfl,rfl,by decide +kernel,rfl,by decide +kernel,by decide +kernel⟩
set_option maxHeartbeats 4000000 in
theorem b3g {m_law_shapes:DFn} {m_law_draw:DFn} {m_law_net:DFn} (C_law_shapes:Cal P w K mg base 4 "_law_shapes" ["_law_tape_here", "_law_net_here", "_law_most", "_law_far"] m_law_shapes) (C_law_draw:Cal P w K mg base 1 "_law_draw" ["_law_tape_here", "_law_many"] m_law_draw) (C_law_net:Cal P w K mg base 2 "_law_net" ["_law_tape_here"] m_law_net) {f:Addr} {fd:FuncData} (B:Blt mg) (F:GF K mg "_law_two" a2a f fd):Cal P w K mg base 5 "_law_two" ["_law_tape_here"] (a30 m_law_shapes m_law_draw m_law_net):=
 t7 F (fun _ _ _ _ _ _=>on1 fun _=>rfl) sc_law_two fun cdv A outer s H E g hr=>
  have nd:=sc_law_two.nd
  by unfold a1k;wtm_at "R"
noncomputable abbrev a2p:Stmt:=top 14
theorem sc_neighbours:FnScope ["row", "closed"] ["row", "closed"] (k9 a2p):=⟨rfl,rfl,rfl,by decide +kernel,rfl,by decide +kernel,by decide +kernel⟩
set_option maxHeartbeats 4000000 in
theorem a9G {f:Addr} {fd:FuncData} (B:Blt mg) (F:GF K mg "neighbours" a2p f fd):Cal P w K mg base 1 "neighbours" ["row", "closed"] (M8):=
 t7 F (fun _ _ _ _ _ _=>on2 fun _ _=>rfl) sc_neighbours fun cdv A outer s H E g hr=>
  have nd:=sc_neighbours.nd
  (v3 (D4 (by wtm_at "T") (A2 (A9 (FO.v (a5e rfl (by rfl) B.list (by rfl) B.zip (by wtm_at "a"))))) D9) (A2 (A9 (FO.v (a5e rfl (by rfl) B.list (by rfl) B.zip (by wtm_at "a"))))))
noncomputable abbrev a3T:Stmt:=top 15
theorem sc_edges:FnScope ["corners"] ["corners"] (k9 a3T):=⟨rfl,rfl,rfl,by decide +kernel,rfl,by decide +kernel,by decide +kernel⟩
set_option maxHeartbeats 4000000 in
theorem a9O {m_neighbours:DFn} (C_neighbours:Cal P w K mg base 1 "neighbours" ["row", "closed"] m_neighbours) {f:Addr} {fd:FuncData} (B:Blt mg) (F:GF K mg "edges" a3T f fd):Cal P w K mg base 2 "edges" ["corners"] (U1 m_neighbours):=
 t7 F (fun _ _ _ _ _ _=>on1 fun _=>rfl) sc_edges fun cdv A outer s H E g hr=>
  have nd:=sc_edges.nd
  by unfold a7d;wtm_at "R"
noncomputable abbrev a3n:Stmt:=top 11
theorem sc_sign:FnScope ["number"] ["number"] (k9 a3n):=⟨rfl,rfl,rfl,by decide +kernel,rfl,by decide +kernel,by decide +kernel⟩
set_option maxHeartbeats 4000000 in
theorem b38 {f:Addr} {fd:FuncData} (B:Blt mg) (F:GF K mg "sign" a3n f fd):Cal P w K mg base 1 "sign" ["number"] (R7):=
 t7 F (fun _ _ _ _ _ _=>on1 fun _=>rfl) sc_sign fun cdv A outer s H E g hr=>
  have nd:=sc_sign.nd
  by unfold U9;wtm_at "R"
noncomputable abbrev a25:Stmt:=top 12
theorem sc_turn:FnScope ["a", "b", "c", "spread"] ["a", "b", "c"] (k9 a25):=⟨rfl,rfl,rfl,by decide +kernel,rfl,by decide +kernel,by decide +kernel⟩
set_option maxHeartbeats 4000000 in
theorem b3C {m_sign:DFn} (C_sign:Cal P w K mg base 1 "sign" ["number"] m_sign) {f:Addr} {fd:FuncData} (B:Blt mg) (F:GF K mg "turn" a25 f fd):Cal P w K mg base 2 "turn" ["a", "b", "c"] (W7 m_sign):=
 t7 F (fun _ _ _ _ _ _=>on3 fun _ _ _=>rfl) sc_turn fun cdv A outer s H E g hr=>
  have nd:=sc_turn.nd
  by unfold a0w;wtm_at "R"
noncomputable abbrev a13:Stmt:=top 24
theorem sc_parts_off:FnScope ["shape", "number", "places", "edge", "one"] ["shape", "number", "places"] (k9 a13):=⟨rfl,rfl,rfl,by decide +kernel,rfl,by decide +kernel,by decide +kernel⟩
set_option maxHeartbeats 4000000 in
theorem a9U {m_turn:DFn} {m_edges:DFn} (C_turn:Cal P w K mg base 2 "turn" ["a", "b", "c"] m_turn) (C_edges:Cal P w K mg base 2 "edges" ["corners"] m_edges) {f:Addr} {fd:FuncData} (B:Blt mg) (F:GF K mg "parts_off" a13 f fd):Cal P w K mg base 3 "parts_off" ["shape", "number", "places"] (a01 m_turn m_edges):=
 t7 F (fun _ _ _ _ _ _=>on3 fun _ _ _=>rfl) sc_parts_off fun cdv A outer s H E g hr=>
  have nd:=sc_parts_off.nd
  by unfold a0M;wtm_at "R"
noncomputable abbrev a3U:Stmt:=top 25
theorem sc_parting_edge:FnScope ["shape", "places", "number"] ["shape", "places"] (k9 a3U):=⟨rfl,rfl,rfl,by decide +kernel,rfl,by decide +kernel,by decide +kernel⟩
set_option maxHeartbeats 4000000 in
theorem b1i {m_parts_off:DFn} (C_parts_off:Cal P w K mg base 3 "parts_off" ["shape", "number", "places"] m_parts_off) {f:Addr} {fd:FuncData} (B:Blt mg) (F:GF K mg "parting_edge" a3U f fd):Cal P w K mg base 4 "parting_edge" ["shape", "places"] (a3h m_parts_off):=
 t7 F (fun _ _ _ _ _ _=>on2 fun _ _=>rfl) sc_parting_edge fun cdv A outer s H E g hr=>
  have nd:=sc_parting_edge.nd
  by unfold a1v;wtm_at "R"
noncomputable abbrev a3L:Stmt:=top 33
theorem sc_parting_pair:FnScope ["shape", "other", "number"] ["shape", "other"] (k9 a3L):=⟨rfl,rfl,rfl,by decide +kernel,rfl,by decide +kernel,by decide +kernel⟩
set_option maxHeartbeats 4000000 in
theorem b2x {m_parting_edge:DFn} (C_parting_edge:Cal P w K mg base 4 "parting_edge" ["shape", "places"] m_parting_edge) {f:Addr} {fd:FuncData} (B:Blt mg) (F:GF K mg "parting_pair" a3L f fd):Cal P w K mg base 5 "parting_pair" ["shape", "other"] (a2o m_parting_edge):=
 t7 F (fun _ _ _ _ _ _=>on2 fun _ _=>rfl) sc_parting_pair fun cdv A outer s H E g hr=>
  have nd:=sc_parting_pair.nd
  by unfold Q2;wtm_at "R"
noncomputable abbrev a4u:Stmt:=top 16
theorem sc_upright:FnScope ["one", "other"] ["one", "other"] (k9 a4u):=⟨rfl,rfl,rfl,by decide +kernel,rfl,by decide +kernel,by decide +kernel⟩
set_option maxHeartbeats 4000000 in
theorem b6r {f:Addr} {fd:FuncData} (B:Blt mg) (F:GF K mg "upright" a4u f fd):Cal P w K mg base 1 "upright" ["one", "other"] (V6):=
 t7 F (fun _ _ _ _ _ _=>on2 fun _ _=>rfl) sc_upright fun cdv A outer s H E g hr=>
  have nd:=sc_upright.nd
  by unfold a7N;wtm_at "R"
noncomputable abbrev a2O:Stmt:=top 17
theorem sc_straight:FnScope ["a", "b"] ["a", "b"] (k9 a2O):=⟨rfl,rfl,rfl,by decide +kernel,rfl,by decide +kernel,by decide +kernel⟩
set_option maxHeartbeats 4000000 in
theorem a97 {m_upright:DFn} (C_upright:Cal P w K mg base 1 "upright" ["one", "other"] m_upright) {f:Addr} {fd:FuncData} (B:Blt mg) (F:GF K mg "straight" a2O f fd):Cal P w K mg base 2 "straight" ["a", "b"] (a2b m_upright):=
 t7 F (fun _ _ _ _ _ _=>on2 fun _ _=>rfl) sc_straight fun cdv A outer s H E g hr=>
  have nd:=sc_straight.nd
  by unfold a7m;wtm_at "R"
noncomputable abbrev a3g:Stmt:=top 5
theorem sc_divisor_of_two:FnScope ["one", "other", "greater", "rest", "left_over"] ["one", "other"] (k9 a3g):=⟨rfl,rfl,rfl,by decide +kernel,rfl,by decide +kernel,by decide +kernel⟩
set_option maxHeartbeats 4000000 in
theorem b2J {f:Addr} {fd:FuncData} (B:Blt mg) (F:GF K mg "divisor_of_two" a3g f fd):Cal P w K mg base 1 "divisor_of_two" ["one", "other"] (D0):=
 t7 F (fun _ _ _ _ _ _=>on2 fun _ _=>rfl) sc_divisor_of_two fun cdv A outer s H E g hr=>
  have nd:=sc_divisor_of_two.nd
  by unfold a1b;wtm_at "R"
noncomputable abbrev a2c:Stmt:=top 6
theorem sc_divisor:FnScope ["parts", "shared", "part"] ["parts"] (k9 a2c):=⟨rfl,rfl,rfl,by decide +kernel,rfl,by decide +kernel,by decide +kernel⟩
set_option maxHeartbeats 4000000 in
theorem b4P {m_divisor_of_two:DFn} (C_divisor_of_two:Cal P w K mg base 1 "divisor_of_two" ["one", "other"] m_divisor_of_two) {f:Addr} {fd:FuncData} (B:Blt mg) (F:GF K mg "divisor" a2c f fd):Cal P w K mg base 2 "divisor" ["parts"] (K0 m_divisor_of_two):=
 t7 F (fun _ _ _ _ _ _=>on1 fun _=>rfl) sc_divisor fun cdv A outer s H E g hr=>
  have nd:=sc_divisor.nd
  by unfold a03;wtm_at "R"
noncomputable abbrev a23:Stmt:=top 8
theorem sc_lowest:FnScope ["parts", "shared"] ["parts"] (k9 a23):=⟨rfl,rfl,rfl,by decide +kernel,rfl,by decide +kernel,by decide +kernel⟩
set_option maxHeartbeats 4000000 in
theorem b2u {m_divisor:DFn} (C_divisor:Cal P w K mg base 2 "divisor" ["parts"] m_divisor) {f:Addr} {fd:FuncData} (B:Blt mg) (F:GF K mg "lowest" a23 f fd):Cal P w K mg base 3 "lowest" ["parts"] (a3f m_divisor):=
 t7 F (fun _ _ _ _ _ _=>on1 fun _=>rfl) sc_lowest fun cdv A outer s H E g hr=>
  have nd:=sc_lowest.nd
  (v3 (by wtm_at "s") (v3 (by wtm_at "s") (A2 (A9 (a47 a6c a7E (by rfl) B.tuple J0 (bc (EO.b (FO.v (T1 (N':=["part", "shared"]) (idx:=[1]) rfl (S5 (by rfl) (.cons rfl .nil) (by decide +kernel) rfl (by decide +kernel) (by rfl) (.cons rfl (by first | exact Or.inl rfl | exact Or.inr rfl) (by first | exact Or.inl rfl | exact Or.inr rfl) .nil)) (T9 (T3 (pv 0))) (fun _ _ _ _=>F8 (i:=0) (show List.Nodup (["part", "shared"]:List Str) by decide +kernel) rfl (Or.inl rfl)) (fun _ _ _ _ _=>S0) (fun _ _ _ _ _=>(by wtm_at "E"))))) Z6))))))
noncomputable abbrev a2Q:Stmt:=top 18
theorem sc_crossing:FnScope ["line", "other"] ["line", "other"] (k9 a2Q):=⟨rfl,rfl,rfl,by decide +kernel,rfl,by decide +kernel,by decide +kernel⟩
set_option maxHeartbeats 4000000 in
theorem b1v {m_lowest:DFn} {m_upright:DFn} (C_lowest:Cal P w K mg base 3 "lowest" ["parts"] m_lowest) (C_upright:Cal P w K mg base 1 "upright" ["one", "other"] m_upright) {f:Addr} {fd:FuncData} (B:Blt mg) (F:GF K mg "crossing" a2Q f fd):Cal P w K mg base 4 "crossing" ["line", "other"] (a37 m_lowest m_upright):=
 t7 F (fun _ _ _ _ _ _=>on2 fun _ _=>rfl) sc_crossing fun cdv A outer s H E g hr=>
  have nd:=sc_crossing.nd
  by unfold a5w;wtm_at "R"
noncomputable abbrev a2s:Stmt:=top 20
theorem sc_clipped:FnScope ["corners", "a", "b", "line", "kept", "one", "other", "here"] ["corners", "a", "b"] (k9 a2s):=⟨rfl,rfl,rfl,by decide +kernel,rfl,by decide +kernel,by decide +kernel⟩
set_option maxHeartbeats 4000000 in
theorem b3P {m_turn:DFn} {m_crossing:DFn} {m_straight:DFn} {m_edges:DFn} (C_turn:Cal P w K mg base 2 "turn" ["a", "b", "c"] m_turn) (C_crossing:Cal P w K mg base 4 "crossing" ["line", "other"] m_crossing) (C_straight:Cal P w K mg base 2 "straight" ["a", "b"] m_straight) (C_edges:Cal P w K mg base 2 "edges" ["corners"] m_edges) {f:Addr} {fd:FuncData} (B:Blt mg) (F:GF K mg "clipped" a2s f fd):Cal P w K mg base 5 "clipped" ["corners", "a", "b"] (a2d m_turn m_crossing m_straight m_edges):=
 t7 F (fun _ _ _ _ _ _=>on3 fun _ _ _=>rfl) sc_clipped fun cdv A outer s H E g hr=>
  have nd:=sc_clipped.nd
  by unfold a0I;wtm_at "R"
noncomputable abbrev a4z:Stmt:=top 34
theorem sc_common_place:FnScope ["shape", "other", "kept", "a", "b"] ["shape", "other"] (k9 a4z):=⟨rfl,rfl,rfl,by decide +kernel,rfl,by decide +kernel,by decide +kernel⟩
set_option maxHeartbeats 4000000 in
theorem b3u {m_clipped:DFn} {m_edges:DFn} (C_clipped:Cal P w K mg base 5 "clipped" ["corners", "a", "b"] m_clipped) (C_edges:Cal P w K mg base 2 "edges" ["corners"] m_edges) {f:Addr} {fd:FuncData} (B:Blt mg) (F:GF K mg "common_place" a4z f fd):Cal P w K mg base 6 "common_place" ["shape", "other"] (a3c m_clipped m_edges):=
 t7 F (fun _ _ _ _ _ _=>on2 fun _ _=>rfl) sc_common_place fun cdv A outer s H E g hr=>
  have nd:=sc_common_place.nd
  (v3 (a5U (i:=2) nd rfl (by first | exact Or.inl rfl | exact Or.inr rfl) (b5P a7h b0N (by rfl) B.list a3t (by wtm_at "a"))) (by wtm_at "S"))
noncomputable abbrev a2X:Stmt:=top 32
theorem sc_two_paper:FnScope ["shapes", "others", "rows", "shape", "row", "other", "pair"] ["shapes", "others"] (k9 a2X):=⟨rfl,rfl,rfl,by decide +kernel,rfl,by decide +kernel,by decide +kernel⟩
set_option maxHeartbeats 4000000 in
theorem b5Z {m_common_place:DFn} {m_parting_pair:DFn} (C_common_place:Cal P w K mg base 6 "common_place" ["shape", "other"] m_common_place) (C_parting_pair:Cal P w K mg base 5 "parting_pair" ["shape", "other"] m_parting_pair) {f:Addr} {fd:FuncData} (B:Blt mg) (F:GF K mg "two_paper" a2X f fd):Cal P w K mg base 7 "two_paper" ["shapes", "others"] (a39 m_common_place m_parting_pair):=
 t7 F (fun _ _ _ _ _ _=>on2 fun _ _=>rfl) sc_two_paper fun cdv A outer s H E g hr=>
  have nd:=sc_two_paper.nd
  by unfold U7;wtm_at "R"
noncomputable abbrev a4v:Stmt:=top 4
theorem sc_is_whole:FnScope ["thing"] ["thing"] (k9 a4v):=⟨rfl,rfl,rfl,by decide +kernel,rfl,by decide +kernel,by decide +kernel⟩
set_option maxHeartbeats 4000000 in
theorem b27 {f:Addr} {fd:FuncData} (B:Blt mg) (F:GF K mg "is_whole" a4v f fd):Cal P w K mg base 1 "is_whole" ["thing"] (M4):=
 t7 F (fun _ _ _ _ _ _=>on1 fun _=>rfl) sc_is_whole fun cdv A outer s H E g hr=>
  have nd:=sc_is_whole.nd
  (A2 (A9 (a1N (C2 a4d (by rfl) B.isinstance (by rfl) B.int a0k (F3 (pv 0))) (a1w (a8y (C2 a3r (by rfl) B.isinstance (by rfl) B.bool a0X (F3 (pv 0))))))))
noncomputable abbrev a4s:Stmt:=top 23
theorem sc_is_edge_number:FnScope ["shape", "thing"] ["shape", "thing"] (k9 a4s):=⟨rfl,rfl,rfl,by decide +kernel,rfl,by decide +kernel,by decide +kernel⟩
set_option maxHeartbeats 4000000 in
theorem a93 {m_is_whole:DFn} (C_is_whole:Cal P w K mg base 1 "is_whole" ["thing"] m_is_whole) {f:Addr} {fd:FuncData} (B:Blt mg) (F:GF K mg "is_edge_number" a4s f fd):Cal P w K mg base 2 "is_edge_number" ["shape", "thing"] (a2f m_is_whole):=
 t7 F (fun _ _ _ _ _ _=>on2 fun _ _=>rfl) sc_is_edge_number fun cdv A outer s H E g hr=>
  have nd:=sc_is_edge_number.nd
  (A2 (A9 (a1N (by wtm_at "E") (a1w (b6z a1U (T5 (fun i j=>decide (i ≤ j))) a0U (T5 (fun i j=>decide (i < j))) (EO.b X6) (F3 (pv 1)) (by wtm_at "B"))))))
noncomputable abbrev a3j:Stmt:=top 31
theorem sc_is_parting:FnScope ["shape", "other", "thing"] ["shape", "other", "thing"] (k9 a3j):=⟨rfl,rfl,rfl,by decide +kernel,rfl,by decide +kernel,by decide +kernel⟩
set_option maxHeartbeats 4000000 in
theorem b28 {m_parts_off:DFn} {m_is_edge_number:DFn} (C_parts_off:Cal P w K mg base 3 "parts_off" ["shape", "number", "places"] m_parts_off) (C_is_edge_number:Cal P w K mg base 2 "is_edge_number" ["shape", "thing"] m_is_edge_number) {f:Addr} {fd:FuncData} (B:Blt mg) (F:GF K mg "is_parting" a3j f fd):Cal P w K mg base 4 "is_parting" ["shape", "other", "thing"] (a3F m_parts_off m_is_edge_number):=
 t7 F (fun _ _ _ _ _ _=>on3 fun _ _ _=>rfl) sc_is_parting fun cdv A outer s H E g hr=>
  have nd:=sc_is_parting.nd
  (v3 (D4 (WO.t (E5 (D2 (C7 (EO.b (C2 L7 (by rfl) B.isinstance (by rfl) B.tuple J0 (F3 (pv 2)))))) (by wtm_at "W"))) (A2 (A9 F6)) D9) (by wtm_at "S"))
noncomputable abbrev a3N:Stmt:=top 30
theorem sc_lets_apart:FnScope ["shapes", "others", "rows", "k", "row", "thing", "other"] ["shapes", "others", "rows"] (k9 a3N):=⟨rfl,rfl,rfl,by decide +kernel,rfl,by decide +kernel,by decide +kernel⟩
set_option maxHeartbeats 4000000 in
theorem b0d {m_is_parting:DFn} (C_is_parting:Cal P w K mg base 4 "is_parting" ["shape", "other", "thing"] m_is_parting) {f:Addr} {fd:FuncData} (B:Blt mg) (F:GF K mg "lets_apart" a3N f fd):Cal P w K mg base 5 "lets_apart" ["shapes", "others", "rows"] (a3m m_is_parting):=
 t7 F (fun _ _ _ _ _ _=>on3 fun _ _ _=>rfl) sc_lets_apart fun cdv A outer s H E g hr=>
  have nd:=sc_lets_apart.nd
  (v3 (by wtm_at "s") (v3 (b41 PassesOwn.never rfl (by rfl) B.enumerate (by wtm_at "A") (by wtm_at "G") (v3 (D4 (WO.t (E5 (D2 (C7 (EO.b (C2 L7 (by rfl) B.isinstance (by rfl) B.tuple J0 (F3 (pv 4)))))) (by wtm_at "W"))) (A2 a6H) D9) (A2 (b2G PassesOwn.never rfl (by rfl) B.zip (by wtm_at "A") (by wtm_at "G") (by wtm_at "S"))))) (A2 (A9 F6))))
noncomputable abbrev a2t:Stmt:=top 7
theorem sc_is_lowest:FnScope ["thing", "size"] ["thing", "size"] (k9 a2t):=⟨rfl,rfl,rfl,by decide +kernel,rfl,by decide +kernel,by decide +kernel⟩
set_option maxHeartbeats 4000000 in
theorem b5G {m_divisor:DFn} {m_is_whole:DFn} (C_divisor:Cal P w K mg base 2 "divisor" ["parts"] m_divisor) (C_is_whole:Cal P w K mg base 1 "is_whole" ["thing"] m_is_whole) {f:Addr} {fd:FuncData} (B:Blt mg) (F:GF K mg "is_lowest" a2t f fd):Cal P w K mg base 3 "is_lowest" ["thing", "size"] (a4h m_divisor m_is_whole):=
 t7 F (fun _ _ _ _ _ _=>on2 fun _ _=>rfl) sc_is_lowest fun cdv A outer s H E g hr=>
  have nd:=sc_is_lowest.nd
  (v3 (D4 (WO.t (E5 (D2 (C7 (EO.b (C2 L7 (by rfl) B.isinstance (by rfl) B.tuple J0 (F3 (pv 0)))))) (by wtm_at "W"))) (A2 (A9 F6)) D9) (v3 (D4 (D2 (C7 (EO.b (a1f (a5Z rfl) a83 (by rfl) B.all a7t (bc (EO.b (FO.v (T1 (N':=["part"]) (idx:=[]) rfl (S5 (by rfl) .nil (by decide +kernel) rfl (by decide +kernel) (by rfl) .nil) (T9 (T3 (pv 0))) (fun _ _ _ _=>F8 (i:=0) (show List.Nodup (["part"]:List Str) by decide +kernel) rfl (Or.inl rfl)) (fun _ _ _ _ _=>S0) (fun _ _ _ _ _=>(by wtm_at "E"))))) Z6))))) (A2 (A9 F6)) D9) (by wtm_at "S")))
noncomputable abbrev a3W:Stmt:=top 10
theorem sc_is_place:FnScope ["thing"] ["thing"] (k9 a3W):=⟨rfl,rfl,rfl,by decide +kernel,rfl,by decide +kernel,by decide +kernel⟩
set_option maxHeartbeats 4000000 in
theorem b0O {m_is_lowest:DFn} (C_is_lowest:Cal P w K mg base 3 "is_lowest" ["thing", "size"] m_is_lowest) {f:Addr} {fd:FuncData} (B:Blt mg) (F:GF K mg "is_place" a3W f fd):Cal P w K mg base 4 "is_place" ["thing"] (a4o m_is_lowest):=
 t7 F (fun _ _ _ _ _ _=>on1 fun _=>rfl) sc_is_place fun cdv A outer s H E g hr=>
  have nd:=sc_is_place.nd
  by unfold a1q;wtm_at "R"
noncomputable abbrev a1S:Stmt:=top 28
theorem sc_is_so_formed:FnScope ["thing"] ["thing"] (k9 a1S):=⟨rfl,rfl,rfl,by decide +kernel,rfl,by decide +kernel,by decide +kernel⟩
set_option maxHeartbeats 4000000 in
theorem b0Y {m_is_place:DFn} (C_is_place:Cal P w K mg base 4 "is_place" ["thing"] m_is_place) {f:Addr} {fd:FuncData} (B:Blt mg) (F:GF K mg "is_so_formed" a1S f fd):Cal P w K mg base 5 "is_so_formed" ["thing"] (a2J m_is_place):=
 t7 F (fun _ _ _ _ _ _=>on1 fun _=>rfl) sc_is_so_formed fun cdv A outer s H E g hr=>
  have nd:=sc_is_so_formed.nd
  (v3 (D4 (WO.t (E5 (D2 (C7 (EO.b (C2 L7 (by rfl) B.isinstance (by rfl) B.tuple J0 (F3 (pv 0)))))) (by wtm_at "W"))) (A2 (A9 F6)) D9) (v3 (by wtm_at "s") (A2 (A9 (a1N (by wtm_at "E") (a1w (C2 L7 (by rfl) B.isinstance (by rfl) B.tuple J0 (by wtm_at "B"))))))))
noncomputable abbrev a2z:Stmt:=top 21
theorem sc_belongs:FnScope ["shape", "one", "a", "b"] ["shape", "one"] (k9 a2z):=⟨rfl,rfl,rfl,by decide +kernel,rfl,by decide +kernel,by decide +kernel⟩
set_option maxHeartbeats 4000000 in
theorem a90 {m_turn:DFn} {m_edges:DFn} (C_turn:Cal P w K mg base 2 "turn" ["a", "b", "c"] m_turn) (C_edges:Cal P w K mg base 2 "edges" ["corners"] m_edges) {f:Addr} {fd:FuncData} (B:Blt mg) (F:GF K mg "belongs" a2z f fd):Cal P w K mg base 3 "belongs" ["shape", "one"] (a3i m_turn m_edges):=
 t7 F (fun _ _ _ _ _ _=>on2 fun _ _=>rfl) sc_belongs fun cdv A outer s H E g hr=>
  have nd:=sc_belongs.nd
  by unfold a1D;wtm_at "R"
noncomputable abbrev a2S:Stmt:=top 22
theorem sc_in_area:FnScope ["shapes", "one", "shape"] ["shapes", "one"] (k9 a2S):=⟨rfl,rfl,rfl,by decide +kernel,rfl,by decide +kernel,by decide +kernel⟩
set_option maxHeartbeats 4000000 in
theorem b1e {m_belongs:DFn} (C_belongs:Cal P w K mg base 3 "belongs" ["shape", "one"] m_belongs) {f:Addr} {fd:FuncData} (B:Blt mg) (F:GF K mg "in_area" a2S f fd):Cal P w K mg base 4 "in_area" ["shapes", "one"] (a2Z m_belongs):=
 t7 F (fun _ _ _ _ _ _=>on2 fun _ _=>rfl) sc_in_area fun cdv A outer s H E g hr=>
  have nd:=sc_in_area.nd
  by unfold a1H;wtm_at "R"
noncomputable abbrev a17:Stmt:=top 29
theorem sc_lets_meet:FnScope ["shapes", "others", "one"] ["shapes", "others", "one"] (k9 a17):=⟨rfl,rfl,rfl,by decide +kernel,rfl,by decide +kernel,by decide +kernel⟩
set_option maxHeartbeats 4000000 in
theorem b3A {m_in_area:DFn} (C_in_area:Cal P w K mg base 4 "in_area" ["shapes", "one"] m_in_area) {f:Addr} {fd:FuncData} (B:Blt mg) (F:GF K mg "lets_meet" a17 f fd):Cal P w K mg base 5 "lets_meet" ["shapes", "others", "one"] (a3q m_in_area):=
 t7 F (fun _ _ _ _ _ _=>on3 fun _ _ _=>rfl) sc_lets_meet fun cdv A outer s H E g hr=>
  have nd:=sc_lets_meet.nd
  by unfold a0C;wtm_at "R"
noncomputable abbrev a3w:Stmt:=top 27
theorem sc_lets_two:FnScope ["shapes", "others", "thing"] ["shapes", "others", "thing"] (k9 a3w):=⟨rfl,rfl,rfl,by decide +kernel,rfl,by decide +kernel,by decide +kernel⟩
set_option maxHeartbeats 4000000 in
theorem b6B {m_lets_apart:DFn} {m_lets_meet:DFn} {m_is_so_formed:DFn} (C_lets_apart:Cal P w K mg base 5 "lets_apart" ["shapes", "others", "rows"] m_lets_apart) (C_lets_meet:Cal P w K mg base 5 "lets_meet" ["shapes", "others", "one"] m_lets_meet) (C_is_so_formed:Cal P w K mg base 5 "is_so_formed" ["thing"] m_is_so_formed) {f:Addr} {fd:FuncData} (B:Blt mg) (F:GF K mg "lets_two" a3w f fd):Cal P w K mg base 6 "lets_two" ["shapes", "others", "thing"] (a3M m_lets_apart m_lets_meet m_is_so_formed):=
 t7 F (fun _ _ _ _ _ _=>on3 fun _ _ _=>rfl) sc_lets_two fun cdv A outer s H E g hr=>
  have nd:=sc_lets_two.nd
  by unfold W4;wtm_at "R"
noncomputable abbrev a36:Stmt:=top 50
theorem sc_law_is_place:FnScope ["_law_thing"] ["_law_thing"] (k9 a36):=⟨rfl,rfl,rfl,by decide +kernel,rfl,by decide +kernel,by decide +kernel⟩
set_option maxHeartbeats 4000000 in
theorem b3S {m_law_common:DFn} (C_law_common:Cal P w K mg base 1 "_law_common" ["_law_one", "_law_other"] m_law_common) {f:Addr} {fd:FuncData} (B:Blt mg) (F:GF K mg "_law_is_place" a36 f fd):Cal P w K mg base 2 "_law_is_place" ["_law_thing"] (a4f m_law_common):=
 t7 F (fun _ _ _ _ _ _=>on1 fun _=>rfl) sc_law_is_place fun cdv A outer s H E g hr=>
  have nd:=sc_law_is_place.nd
  (v3 (D4 (WO.t (E5 (D2 (C7 (EO.b (C2 L7 (by rfl) B.isinstance (by rfl) B.tuple J0 (F3 (pv 0)))))) (by wtm_at "W"))) (A2 (A9 F6)) D9) (v3 (D4 (WO.t (E5 (a4C (a4Z (u64 hr)) a6P (EO.b (FO.v (T1 (N':=["_law_one"]) (idx:=[]) rfl (S5 (by rfl) .nil (by decide +kernel) rfl (by decide +kernel) (by rfl) .nil) (T9 (T3 (pv 0))) (fun _ _ _ _=>F8 (i:=0) (show List.Nodup (["_law_one"]:List Str) by decide +kernel) rfl (Or.inl rfl)) (fun _ _ _ _ _=>(b3k (WO.t (E5 (D2 (C7 (EO.b (C2 a4d (by rfl) B.isinstance (by rfl) B.int a0k (F3 (pv 0)))))) (V7 (C7 (EO.b (C2 a3r (by rfl) B.isinstance (by rfl) B.bool a0X (F3 (pv 0)))))))))) (fun _ _ _ _ _=>(T3 (pv 0)))))) (by wtm_at "B") (U5 _)) (by wtm_at "W"))) (A2 (A9 F6)) D9) (by wtm_at "S")))
noncomputable abbrev a10:Stmt:=top 40
theorem sc_law_det:FnScope ["_law_a", "_law_b", "_law_c", "_law_first", "_law_second"] ["_law_a", "_law_b", "_law_c"] (k9 a10):=⟨rfl,rfl,rfl,by decide +kernel,rfl,by decide +kernel,by decide +kernel⟩
set_option maxHeartbeats 4000000 in
theorem a9T {f:Addr} {fd:FuncData} (B:Blt mg) (F:GF K mg "_law_det" a10 f fd):Cal P w K mg base 1 "_law_det" ["_law_a", "_law_b", "_law_c"] (G1):=
 t7 F (fun _ _ _ _ _ _=>on3 fun _ _ _=>rfl) sc_law_det fun cdv A outer s H E g hr=>
  have nd:=sc_law_det.nd
  by unfold a0E;wtm_at "R"
noncomputable abbrev a15:Stmt:=top 42
theorem sc_law_edges:FnScope ["_law_ring"] ["_law_ring"] (k9 a15):=⟨rfl,rfl,rfl,by decide +kernel,rfl,by decide +kernel,by decide +kernel⟩
set_option maxHeartbeats 4000000 in
theorem a9S {f:Addr} {fd:FuncData} (B:Blt mg) (F:GF K mg "_law_edges" a15 f fd):Cal P w K mg base 1 "_law_edges" ["_law_ring"] (J5):=
 t7 F (fun _ _ _ _ _ _=>on1 fun _=>rfl) sc_law_edges fun cdv A outer s H E g hr=>
  have nd:=sc_law_edges.nd
  (A2 (A9 (FO.v (T1 (N':=["_law_k", "_law_ring"]) (idx:=[0]) rfl (S5 (by rfl) (.cons rfl .nil) (by decide +kernel) rfl (by decide +kernel) (by rfl) (.cons rfl (by first | exact Or.inl rfl | exact Or.inr rfl) (by first | exact Or.inl rfl | exact Or.inr rfl) .nil)) (a4L (by rfl) B.range (by wtm_at "E")) (fun _ _ _ _=>F8 (i:=0) (show List.Nodup (["_law_k", "_law_ring"]:List Str) by decide +kernel) rfl (Or.inl rfl)) (fun _ _ _ _ _=>S0) (fun _ _ _ _ _=>(by wtm_at "E"))))))
noncomputable abbrev a2u:Stmt:=top 48
theorem sc_law_in:FnScope ["_law_shape", "_law_p"] ["_law_shape", "_law_p"] (k9 a2u):=⟨rfl,rfl,rfl,by decide +kernel,rfl,by decide +kernel,by decide +kernel⟩
set_option maxHeartbeats 4000000 in
theorem b3Y {m_law_edges:DFn} {m_law_det:DFn} (C_law_edges:Cal P w K mg base 1 "_law_edges" ["_law_ring"] m_law_edges) (C_law_det:Cal P w K mg base 1 "_law_det" ["_law_a", "_law_b", "_law_c"] m_law_det) {f:Addr} {fd:FuncData} (B:Blt mg) (F:GF K mg "_law_in" a2u f fd):Cal P w K mg base 2 "_law_in" ["_law_shape", "_law_p"] (a3Y m_law_edges m_law_det):=
 t7 F (fun _ _ _ _ _ _=>on2 fun _ _=>rfl) sc_law_in fun cdv A outer s H E g hr=>
  have nd:=sc_law_in.nd
  (A2 (A9 (a0z a5H (T5 (fun i j=>decide (j ≤ i))) (EO.b (a1f (a5O rfl) a5K (by rfl) B.min a5r (bc (EO.b (FO.v (b0P (caps:=["_law_p"]) (idx:=[1]) rfl (a5k (by rfl) (.cons rfl .nil) (by decide +kernel) rfl (by decide +kernel) (by rfl) (.cons rfl (by first | exact Or.inl rfl | exact Or.inr rfl) (by first | exact Or.inl rfl | exact Or.inr rfl) .nil)) (T9 (by wtm_at "E")) (show List.Nodup (["_law_a", "_law_b", "_law_p"]:List Str) by decide +kernel) (fun _ _ _ _=>rfl) (fun _ _ _ _=>rfl) (fun _ _ _ _ _=>S0) (fun _ _ _ _ _=>(by wtm_at "E"))))) Z6))) (EO.b X6) (U5 _))))
noncomputable abbrev a16:Stmt:=top 49
theorem sc_law_area:FnScope ["_law_shapes_here", "_law_p"] ["_law_shapes_here", "_law_p"] (k9 a16):=⟨rfl,rfl,rfl,by decide +kernel,rfl,by decide +kernel,by decide +kernel⟩
set_option maxHeartbeats 4000000 in
theorem b6A {m_law_in:DFn} (C_law_in:Cal P w K mg base 2 "_law_in" ["_law_shape", "_law_p"] m_law_in) {f:Addr} {fd:FuncData} (B:Blt mg) (F:GF K mg "_law_area" a16 f fd):Cal P w K mg base 3 "_law_area" ["_law_shapes_here", "_law_p"] (a3d m_law_in):=
 t7 F (fun _ _ _ _ _ _=>on2 fun _ _=>rfl) sc_law_area fun cdv A outer s H E g hr=>
  have nd:=sc_law_area.nd
  (A2 (A9 (a0z (a2M (u64 hr)) a33 (EO.b F6) (EO.b (FO.v (T1 (N':=["_law_shape", "_law_p"]) (idx:=[1]) rfl (S5 (by rfl) (.cons rfl .nil) (by decide +kernel) rfl (by decide +kernel) (by rfl) (.cons rfl (by first | exact Or.inl rfl | exact Or.inr rfl) (by first | exact Or.inl rfl | exact Or.inr rfl) .nil)) (T9 (T3 (pv 0))) (fun _ _ _ _=>F8 (i:=0) (show List.Nodup (["_law_shape", "_law_p"]:List Str) by decide +kernel) rfl (Or.inl rfl)) (fun _ _ _ _ _=>S0) (fun _ _ _ _ _=>(by wtm_at "E"))))) (by rfl))))
noncomputable abbrev a2E:Stmt:=top 52
theorem sc_law_parts_two:FnScope ["_law_one", "_law_other", "_law_thing", "_law_own", "_law_far", "_law_a", "_law_b"] ["_law_one", "_law_other", "_law_thing"] (k9 a2E):=⟨rfl,rfl,rfl,by decide +kernel,rfl,by decide +kernel,by decide +kernel⟩
set_option maxHeartbeats 4000000 in
theorem b1k {m_law_det:DFn} {m_law_edges:DFn} (C_law_det:Cal P w K mg base 1 "_law_det" ["_law_a", "_law_b", "_law_c"] m_law_det) (C_law_edges:Cal P w K mg base 1 "_law_edges" ["_law_ring"] m_law_edges) {f:Addr} {fd:FuncData} (B:Blt mg) (F:GF K mg "_law_parts_two" a2E f fd):Cal P w K mg base 2 "_law_parts_two" ["_law_one", "_law_other", "_law_thing"] (a31 m_law_det m_law_edges):=
 t7 F (fun _ _ _ _ _ _=>on3 fun _ _ _=>rfl) sc_law_parts_two fun cdv A outer s H E g hr=>
  have nd:=sc_law_parts_two.nd
  (v3 (D4 (WO.t (E5 (D2 (C7 (EO.b (C2 L7 (by rfl) B.isinstance (by rfl) B.tuple J0 (F3 (pv 2)))))) (E5 (by wtm_at "T") (V7 (D2 (C7 (EO.b (C2 a5c (by rfl) B.isinstance (by rfl) B.str a4c (by wtm_at "B"))))))))) (A2 (A9 F6)) D9) (v3 (D4 (WO.t (E5 (by wtm_at "T") (E5 (D2 (C7 (EO.b (C2 a4d (by rfl) B.isinstance (by rfl) B.int a0k (by wtm_at "B"))))) (V7 (C7 (EO.b (C2 a3r (by rfl) B.isinstance (by rfl) B.bool a0X (by wtm_at "B")))))))) (A2 (A9 F6)) D9) (v3 (by wtm_at "s") (v3 (D4 (D2 (b2T a1U (T5 (fun i j=>decide (i ≤ j))) a0U (T5 (fun i j=>decide (i < j))) (EO.b X6) (by wtm_at "B") (by wtm_at "B"))) (A2 (A9 F6)) D9) (v3 (by wtm_at "s") (A2 (A9 (a0z a0U (T5 (fun i j=>decide (i < j))) (EO.b (a1f (a5Y rfl) a56 (by rfl) B.max a8a (bc (EO.b (FO.v (T1 (N':=["_law_corner", "_law_a", "_law_b"]) (idx:=[5,6]) rfl (S5 (by rfl) (.cons rfl (.cons rfl .nil)) (by decide +kernel) rfl (by decide +kernel) (by rfl) (.cons rfl (by first | exact Or.inl rfl | exact Or.inr rfl) (by first | exact Or.inl rfl | exact Or.inr rfl) (.cons rfl (by first | exact Or.inl rfl | exact Or.inr rfl) (by first | exact Or.inl rfl | exact Or.inr rfl) .nil))) (T9 (T3 (pv 4))) (fun _ _ _ _=>F8 (i:=0) (show List.Nodup (["_law_corner", "_law_a", "_law_b"]:List Str) by decide +kernel) rfl (Or.inl rfl)) (fun _ _ _ _ _=>S0) (fun _ _ _ _ _=>(by wtm_at "E"))))) Z6))) (EO.b X6) (U5 _)))))))))
noncomputable abbrev a29:Stmt:=top 53
theorem sc_law_due:FnScope ["_law_shapes_here", "_law_others", "_law_thing", "_law_i", "_law_row"] ["_law_shapes_here", "_law_others", "_law_thing"] (k9 a29):=⟨rfl,rfl,rfl,by decide +kernel,rfl,by decide +kernel,by decide +kernel⟩
set_option maxHeartbeats 4000000 in
theorem b3i {m_law_parts_two:DFn} {m_law_is_place:DFn} {m_law_area:DFn} (C_law_parts_two:Cal P w K mg base 2 "_law_parts_two" ["_law_one", "_law_other", "_law_thing"] m_law_parts_two) (C_law_is_place:Cal P w K mg base 2 "_law_is_place" ["_law_thing"] m_law_is_place) (C_law_area:Cal P w K mg base 3 "_law_area" ["_law_shapes_here", "_law_p"] m_law_area) {f:Addr} {fd:FuncData} (B:Blt mg) (F:GF K mg "_law_due" a29 f fd):Cal P w K mg base 4 "_law_due" ["_law_shapes_here", "_law_others", "_law_thing"] (a3H m_law_parts_two m_law_is_place m_law_area):=
 t7 F (fun _ _ _ _ _ _=>on3 fun _ _ _=>rfl) sc_law_due fun cdv A outer s H E g hr=>
  have nd:=sc_law_due.nd
  (v3 (D4 (WO.t (E5 (D2 (C7 (EO.b (C2 L7 (by rfl) B.isinstance (by rfl) B.tuple J0 (F3 (pv 2)))))) (E5 (by wtm_at "T") (V7 (D2 (C7 (EO.b (C2 a5c (by rfl) B.isinstance (by rfl) B.str a4c (by wtm_at "B"))))))))) (by wtm_at "S") D9) (v3 (by wtm_at "s") (v3 (D4 (WO.t (E5 (by wtm_at "T") (V7 (D2 (C7 (EO.b (C2 L7 (by rfl) B.isinstance (by rfl) B.tuple J0 (by wtm_at "B")))))))) (by wtm_at "S") D9) (v3 (by wtm_at "s") (v3 (a3s PassesOwn.never rfl (by rfl) B.range (by wtm_at "E") (by wtm_at "G") (v3 (by wtm_at "s") (v3 (D4 (WO.t (E5 (D2 (C7 (EO.b (C2 L7 (by rfl) B.isinstance (by rfl) B.tuple J0 (F3 (pv 4)))))) (by wtm_at "W"))) (by wtm_at "S") D9) (A2 (D4 (a4C (a2M (u64 hr)) a33 (EO.b F6) (EO.b (FO.v (T1 (N':=["_law_j", "_law_shapes_here", "_law_i", "_law_others", "_law_row"]) (idx:=[0,3,1,4]) rfl (S5 (by rfl) (.cons rfl (.cons rfl (.cons rfl (.cons rfl .nil)))) (by decide +kernel) rfl (by decide +kernel) (by rfl) (.cons rfl (by first | exact Or.inl rfl | exact Or.inr rfl) (by first | exact Or.inl rfl | exact Or.inr rfl) (.cons rfl (by first | exact Or.inl rfl | exact Or.inr rfl) (by first | exact Or.inl rfl | exact Or.inr rfl) (.cons rfl (by first | exact Or.inl rfl | exact Or.inr rfl) (by first | exact Or.inl rfl | exact Or.inr rfl) (.cons rfl (by first | exact Or.inl rfl | exact Or.inr rfl) (by first | exact Or.inl rfl | exact Or.inr rfl) .nil))))) (a4L (by rfl) B.range (by wtm_at "E")) (fun _ _ _ _=>F8 (i:=0) (show List.Nodup (["_law_j", "_law_shapes_here", "_law_i", "_law_others", "_law_row"]:List Str) by decide +kernel) rfl (Or.inl rfl)) (fun _ _ _ _ _=>S0) (fun _ _ _ _ _=>(by wtm_at "E"))))) (by rfl)) (by wtm_at "S") D9))))) (by wtm_at "S"))))))
noncomputable abbrev a4j:Stmt:=top 54
theorem sc_law:FnScope ["_law_script", "_law_tape_here", "_law_k", "_law_shapes_here", "_law_others", "_law_kept", "_law_one", "_law_other", "_law_told"] ["_law_script"] (k9 a4j):=⟨rfl,rfl,rfl,by decide +kernel,rfl,by decide +kernel,by decide +kernel⟩
set_option maxHeartbeats 4000000 in
theorem b5p {m_two_paper:DFn} {m_lets_two:DFn} {m_law_due:DFn} {m_law_two:DFn} {m_law_tape:DFn} (C_two_paper:Cal P w K mg base 7 "two_paper" ["shapes", "others"] m_two_paper) (C_lets_two:Cal P w K mg base 6 "lets_two" ["shapes", "others", "thing"] m_lets_two) (C_law_due:Cal P w K mg base 4 "_law_due" ["_law_shapes_here", "_law_others", "_law_thing"] m_law_due) (C_law_two:Cal P w K mg base 5 "_law_two" ["_law_tape_here"] m_law_two) (C_law_tape:Cal P w K mg base 1 "_law_tape" ["_law_script"] m_law_tape) {f:Addr} {fd:FuncData} (B:Blt mg) (F:Fun K "law" "law" a4j f fd):FnD P w K mg base 8 f fd ["_law_script"] (a1T m_two_paper m_lets_two m_law_due m_law_two m_law_tape):=
 a7v F sc_law fun cdv A outer s H E g hr=>
  have nd:=sc_law.nd
  by unfold a0Q;wtm_at "R"
end
noncomputable abbrev whole:DFn:=(a1T (a39 (a3c (a2d (W7 R7) (a37 (a3f (K0 D0)) V6) (a2b V6) (U1 M8)) (U1 M8)) (a2o (a3h (a01 (W7 R7) (U1 M8))))) (a3M (a3m (a3F (a01 (W7 R7) (U1 M8)) (a2f M4))) (a3q (a2Z (a3i (W7 R7) (U1 M8)))) (a2J (a4o (a4h (K0 D0) M4)))) (a3H (a31 G1 J5) (a4f R4) (a3d (a3Y J5 G1))) (a30 (a2F X1 (a4t Q8) (a3u X1) (a28 (a3V R4))) X1 (a3D X1)) V2)
set_option maxHeartbeats 4000000 in
theorem all_mk {l:PySem.W.OpenLaw} {w:World} {K:PySem.W.Frag} {h:Heap} {mg:Str → Option Value} {fa:Addr} (X:K.In h) (G:h.Ns mainGlobals mg) (hfa:mg "law" = some (.ref fa)) {f1 f2 f3 f4 f5 f6 f7 f8 f9 f10 f11 f12 f13 f14 f15 f16 f17 f18 f19 f20 f21 f22 f23 f24 f25 f26 f27 f28 f29 f30 f31 f32 f33 f34 f35 f36 f37 f38 f39 f40 f41 f42 f43 f44 f45 f46:Addr} {d1 d2 d3 d4 d5 d6 d7 d8 d9 d10 d11 d12 d13 d14 d15 d16 d17 d18 d19 d20 d21 d22 d23 d24 d25 d26 d27 d28 d29 d30 d31 d32 d33 d34 d35 d36 d37 d38 d39 d40 d41 d42 d43 d44 d45 d46:FuncData} 
  (g1:GF K mg "_law_tape" a3E f1 d1)
  (g2:GF K mg "_law_draw" a2I f2 d2)
  (g3:GF K mg "_law_net" a2R f3 d3)
  (g4:GF K mg "_law_common" a4H f4 d4)
  (g5:GF K mg "_law_place" a2B f5 d5)
  (g6:GF K mg "_law_laid" a3C f6 d6)
  (g7:GF K mg "_law_form" a3k f7 d7)
  (g8:GF K mg "_law_less" a3b f8 d8)
  (g9:GF K mg "_law_begun" a11 f9 d9)
  (g10:GF K mg "_law_shapes" a4x f10 d10)
  (g11:GF K mg "_law_two" a2a f11 d11)
  (g12:GF K mg "neighbours" a2p f12 d12)
  (g13:GF K mg "edges" a3T f13 d13)
  (g14:GF K mg "sign" a3n f14 d14)
  (g15:GF K mg "turn" a25 f15 d15)
  (g16:GF K mg "parts_off" a13 f16 d16)
  (g17:GF K mg "parting_edge" a3U f17 d17)
  (g18:GF K mg "parting_pair" a3L f18 d18)
  (g19:GF K mg "upright" a4u f19 d19)
  (g20:GF K mg "straight" a2O f20 d20)
  (g21:GF K mg "divisor_of_two" a3g f21 d21)
  (g22:GF K mg "divisor" a2c f22 d22)
  (g23:GF K mg "lowest" a23 f23 d23)
  (g24:GF K mg "crossing" a2Q f24 d24)
  (g25:GF K mg "clipped" a2s f25 d25)
  (g26:GF K mg "common_place" a4z f26 d26)
  (g27:GF K mg "two_paper" a2X f27 d27)
  (g28:GF K mg "is_whole" a4v f28 d28)
  (g29:GF K mg "is_edge_number" a4s f29 d29)
  (g30:GF K mg "is_parting" a3j f30 d30)
  (g31:GF K mg "lets_apart" a3N f31 d31)
  (g32:GF K mg "is_lowest" a2t f32 d32)
  (g33:GF K mg "is_place" a3W f33 d33)
  (g34:GF K mg "is_so_formed" a1S f34 d34)
  (g35:GF K mg "belongs" a2z f35 d35)
  (g36:GF K mg "in_area" a2S f36 d36)
  (g37:GF K mg "lets_meet" a17 f37 d37)
  (g38:GF K mg "lets_two" a3w f38 d38)
  (g39:GF K mg "_law_is_place" a36 f39 d39)
  (g40:GF K mg "_law_det" a10 f40 d40)
  (g41:GF K mg "_law_edges" a15 f41 d41)
  (g42:GF K mg "_law_in" a2u f42 d42)
  (g43:GF K mg "_law_area" a16 f43 d43)
  (g44:GF K mg "_law_parts_two" a2E f44 d44)
  (g45:GF K mg "_law_due" a29 f45 d45)
  (g46:GF K mg "law" a4j f46 d46)
  (B:Blt mg) :
  ∃ fd:FuncData,(∀ (s:Shared) (v:Value),BindsTo s fd ⟨[v],[]⟩ [("_law_script",v)]) ∧ ∀ base:Heap,K.In base → base.Ns mainGlobals mg → FnOk l.prog w K mg base CX0 8 fa fd ["_law_script"] (spD K 1 whole):=by
 have e:=hfa.symm.trans g46.m
 cases e
 refine ⟨d46,b0L g46.F fun _ _ _ _ _ _ _ _=>.of_eq rfl,fun base _ _=>?_⟩
 have C_law_tape:=b5W (P:=l.prog) (w:=w) (base:=base) B g1
 have C_law_draw:=b6X (P:=l.prog) (w:=w) (base:=base) B g2
 have C_law_net:=b2K C_law_draw B g3
 have C_law_common:=b5c (P:=l.prog) (w:=w) (base:=base) B g4
 have C_law_place:=a98 C_law_common B g5
 have C_law_laid:=b3V C_law_place B g6
 have C_law_form:=b3o C_law_draw B g7
 have C_law_less:=a9y (P:=l.prog) (w:=w) (base:=base) B g8
 have C_law_begun:=b5v C_law_less B g9
 have C_law_shapes:=a9x C_law_draw C_law_begun C_law_form C_law_laid B g10
 have C_law_two:=b3g C_law_shapes C_law_draw C_law_net B g11
 have C_neighbours:=a9G (P:=l.prog) (w:=w) (base:=base) B g12
 have C_edges:=a9O C_neighbours B g13
 have C_sign:=b38 (P:=l.prog) (w:=w) (base:=base) B g14
 have C_turn:=b3C C_sign B g15
 have C_parts_off:=a9U C_turn C_edges B g16
 have C_parting_edge:=b1i C_parts_off B g17
 have C_parting_pair:=b2x C_parting_edge B g18
 have C_upright:=b6r (P:=l.prog) (w:=w) (base:=base) B g19
 have C_straight:=a97 C_upright B g20
 have C_divisor_of_two:=b2J (P:=l.prog) (w:=w) (base:=base) B g21
 have C_divisor:=b4P C_divisor_of_two B g22
 have C_lowest:=b2u C_divisor B g23
 have C_crossing:=b1v C_lowest C_upright B g24
 have C_clipped:=b3P C_turn C_crossing C_straight C_edges B g25
 have C_common_place:=b3u C_clipped C_edges B g26
 have C_two_paper:=b5Z C_common_place C_parting_pair B g27
 have C_is_whole:=b27 (P:=l.prog) (w:=w) (base:=base) B g28
 have C_is_edge_number:=a93 C_is_whole B g29
 have C_is_parting:=b28 C_parts_off C_is_edge_number B g30
 have C_lets_apart:=b0d C_is_parting B g31
 have C_is_lowest:=b5G C_divisor C_is_whole B g32
 have C_is_place:=b0O C_is_lowest B g33
 have C_is_so_formed:=b0Y C_is_place B g34
 have C_belongs:=a90 C_turn C_edges B g35
 have C_in_area:=b1e C_belongs B g36
 have C_lets_meet:=b3A C_in_area B g37
 have C_lets_two:=b6B C_lets_apart C_lets_meet C_is_so_formed B g38
 have C_law_is_place:=b3S C_law_common B g39
 have C_law_det:=a9T (P:=l.prog) (w:=w) (base:=base) B g40
 have C_law_edges:=a9S (P:=l.prog) (w:=w) (base:=base) B g41
 have C_law_in:=b3Y C_law_edges C_law_det B g42
 have C_law_area:=b6A C_law_in B g43
 have C_law_parts_two:=b1k C_law_det C_law_edges B g44
 have C_law_due:=b3i C_law_parts_two C_law_is_place C_law_area B g45
 exact b5p C_two_paper C_lets_two C_law_due C_law_two C_law_tape B g46.F
end T
open PySem PySem.W PyProof.Rows
set_option maxRecDepth 100000 in
set_option maxHeartbeats 0 in
theorem PySem.Challenge.cw_widelines_k32_papers_of_two_told_holds : PySem.Challenge.rw_widelines_k32_papers_of_two_told.Holds := by
 w_on; o_law; k_head; (case hw=>w_witness2)
 k_fill
 refine DL.walkD (l:=PySem.Challenge.rw_widelines_k32_papers_of_two_told) (m:=T.whole) (k:=8) rfl rfl ⟨rfl,by decide,by decide,rfl⟩ (fun w h Y=>PySem.W.kIn_of Y) ?F T.math
 case F=>
  intro w mg fa h KX G hmg
  refine' T.all_mk KX G hmg (DL.gf_mk KX G ?_ ?_ ?_ ?_) (DL.gf_mk KX G ?_ ?_ ?_ ?_) (DL.gf_mk KX G ?_ ?_ ?_ ?_) (DL.gf_mk KX G ?_ ?_ ?_ ?_) (DL.gf_mk KX G ?_ ?_ ?_ ?_) (DL.gf_mk KX G ?_ ?_ ?_ ?_) (DL.gf_mk KX G ?_ ?_ ?_ ?_) (DL.gf_mk KX G ?_ ?_ ?_ ?_) (DL.gf_mk KX G ?_ ?_ ?_ ?_) (DL.gf_mk KX G ?_ ?_ ?_ ?_) (DL.gf_mk KX G ?_ ?_ ?_ ?_) (DL.gf_mk KX G ?_ ?_ ?_ ?_) (DL.gf_mk KX G ?_ ?_ ?_ ?_) (DL.gf_mk KX G ?_ ?_ ?_ ?_) (DL.gf_mk KX G ?_ ?_ ?_ ?_) (DL.gf_mk KX G ?_ ?_ ?_ ?_) (DL.gf_mk KX G ?_ ?_ ?_ ?_) (DL.gf_mk KX G ?_ ?_ ?_ ?_) (DL.gf_mk KX G ?_ ?_ ?_ ?_) (DL.gf_mk KX G ?_ ?_ ?_ ?_) (DL.gf_mk KX G ?_ ?_ ?_ ?_) (DL.gf_mk KX G ?_ ?_ ?_ ?_) (DL.gf_mk KX G ?_ ?_ ?_ ?_) (DL.gf_mk KX G ?_ ?_ ?_ ?_) (DL.gf_mk KX G ?_ ?_ ?_ ?_) (DL.gf_mk KX G ?_ ?_ ?_ ?_) (DL.gf_mk KX G ?_ ?_ ?_ ?_) (DL.gf_mk KX G ?_ ?_ ?_ ?_) (DL.gf_mk KX G ?_ ?_ ?_ ?_) (DL.gf_mk KX G ?_ ?_ ?_ ?_) (DL.gf_mk KX G ?_ ?_ ?_ ?_) (DL.gf_mk KX G ?_ ?_ ?_ ?_) (DL.gf_mk KX G ?_ ?_ ?_ ?_) (DL.gf_mk KX G ?_ ?_ ?_ ?_) (DL.gf_mk KX G ?_ ?_ ?_ ?_) (DL.gf_mk KX G ?_ ?_ ?_ ?_) (DL.gf_mk KX G ?_ ?_ ?_ ?_) (DL.gf_mk KX G ?_ ?_ ?_ ?_) (DL.gf_mk KX G ?_ ?_ ?_ ?_) (DL.gf_mk KX G ?_ ?_ ?_ ?_) (DL.gf_mk KX G ?_ ?_ ?_ ?_) (DL.gf_mk KX G ?_ ?_ ?_ ?_) (DL.gf_mk KX G ?_ ?_ ?_ ?_) (DL.gf_mk KX G ?_ ?_ ?_ ?_) (DL.gf_mk KX G ?_ ?_ ?_ ?_) (DL.gf_mk KX G ?_ ?_ ?_ ?_) (DL.blt_mk KX G ?_ ?_ ?_ ?_ ?_ ?_ ?_ ?_ ?_ ?_ ?_ ?_ ?_ ?_ ?_ ?_ ?_ ?_ ?_)
  all_goals try k_is
